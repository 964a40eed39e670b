import PyProof.Rows.All
import Wide.All
import OpenK.AllK
import Wide.FinOn
import PyProof.NoPylong
import HandS.ForMost
import HandS.Wide
import HandS.Defaults
import HandS.MakeKw
import HandS.MakeKwOnly
import HandS.Exc
import HandS.WordsExc
import HandS.IsInst
import HandS.FStr
import HandS.Style
import HandS.Codes
import HandS.NoneIn
import PyProof.LongRange
import KE.KTryMore
import KE.KIsAll
import HandS.ExcIs
import HandS.ExcField
import HandS.ExcInit
import KE.KExcInit
import HandS.ExcBuiltin
import KE.KCallOwn
import HandS.OwnEq
import HandS.MapJoin
import HandS.Rev
import HandS.RevTup
import HandS.Walk
import HandS.Zip
import PyProof.P3Eq
import PyProof.EqLayable
import PyProof.InstNe
import KE.KTupSum
import HandS.SortInts
import HandS.Deep
import HandS.StrMore
import HandS.Text
import HandS.Call
import OpenK.KOps
import PyProof.EqAt
import PyProof.EqKinds
import PyProof.FString2
import KE.KFmtOwn
import PyProof.Rows.StrPins2
import KE.IntTextLaws
import PyProof.Rows.StrNews2
import PyProof.Rows.StrSplitMax
import PyProof.Rows.RegReprOcc
import PyProof.StrLawsLast
import PyProof.StrLawsOccR
import PyProof.ExcBaseAll.ValueError
import PySem.Challenge.RW_meanmoon_k74_dates_read
set_option Elab.async false
set_option linter.all false
set_option maxRecDepth 100000
set_option maxHeartbeats 4000000
namespace MM
/-! fractions as Rat: the program's and the law's lowest terms are num and den -/
theorem gcd_fmod (a b : Int) : Int.gcd b (a.fmod b) = Int.gcd a b := by
  have h : a.fmod b = a - b * a.fdiv b := by have := Int.mul_fdiv_add_fmod a b; omega
  rw [h, Int.gcd_comm a b]
  rw [Int.sub_eq_add_neg, ← Int.mul_neg, Int.gcd_add_mul_left_right]
theorem gcd_emod' (a b : Int) : Int.gcd b (a % b) = Int.gcd a b := by
  have h : a % b = a - b * (a / b) := by have := Int.mul_ediv_add_emod a b; omega
  rw [h, Int.gcd_comm a b]
  rw [Int.sub_eq_add_neg, ← Int.mul_neg, Int.gcd_add_mul_left_right]
theorem fmod_lt (a : Int) {b : Int} (h : b ≠ 0) : (a.fmod b).natAbs < b.natAbs := by
  rcases Int.lt_or_gt_of_ne h with hb | hb
  · have e : a.fmod b = -((-a).fmod (-b)) := by rw [Int.neg_fmod_neg, Int.neg_neg]
    have h1 := Int.fmod_nonneg_of_pos (-a) (show (0 : Int) < -b by omega)
    have h2 := Int.fmod_lt_of_pos (-a) (show (0 : Int) < -b by omega)
    rw [e]
    omega
  · have h1 := Int.fmod_nonneg_of_pos a hb
    have h2 := Int.fmod_lt_of_pos a hb
    omega
theorem gcd_pos {t b : Int} (h : b ≠ 0) : 0 < Int.gcd t b := Int.gcd_pos_of_ne_zero_right t h
/-- the divisor that makes lowest terms -/
def gs (t b : Int) : Int := if b < 0 then -(Int.gcd t b : Int) else (Int.gcd t b : Int)
theorem gs_ne {t b : Int} (h : b ≠ 0) : gs t b ≠ 0 := by
  have := gcd_pos (t := t) h
  unfold gs
  split <;> omega
theorem low_num {t b : Int} (h : b ≠ 0) : t.fdiv (gs t b) = (Rat.divInt t b).num := by
  have hg := gcd_pos (t := t) h
  rw [Rat.num_divInt, Int.gcd_comm b t]
  unfold gs
  split
  · rename_i hb
    rw [Int.sign_eq_neg_one_of_neg hb, Int.neg_one_mul]
    rw [← Int.neg_fdiv_neg, Int.neg_neg, Int.fdiv_eq_ediv_of_nonneg _ (by omega)]
  · rw [Int.sign_eq_one_of_pos (by omega), Int.one_mul, Int.fdiv_eq_ediv_of_nonneg _ (by omega)]
theorem low_den {t b : Int} (h : b ≠ 0) : b.fdiv (gs t b) = ((Rat.divInt t b).den : Int) := by
  have hg := gcd_pos (t := t) h
  rw [Rat.den_divInt, if_neg h, Int.gcd_comm b t, Int.natCast_ediv]
  unfold gs
  split
  · rename_i hb
    rw [← Int.neg_fdiv_neg, Int.neg_neg, Int.fdiv_eq_ediv_of_nonneg _ (by omega)]
    congr 1
    omega
  · rw [Int.fdiv_eq_ediv_of_nonneg _ (by omega)]
    congr 1
    omega
theorem den_pos (q : Rat) : (0 : Int) < (q.den : Int) := by
  have := q.den_pos
  omega
/-- sizes -/
def Sz (n : Nat) (i : Int) : Prop := i.natAbs < 2 ^ n
def Rz (n : Nat) (q : Rat) : Prop := Sz n q.num ∧ Sz n q.den
theorem Sz.mono {n m : Nat} {i : Int} (h : Sz n i) (l : n ≤ m) : Sz m i := Nat.lt_of_lt_of_le h (Nat.pow_le_pow_right (by decide) l)
theorem Rz.mono {n m : Nat} {q : Rat} (h : Rz n q) (l : n ≤ m) : Rz m q := ⟨h.1.mono l, h.2.mono l⟩
theorem Sz.mul {n m : Nat} {i j : Int} (h : Sz n i) (k : Sz m j) : Sz (n + m) (i * j) := by
  unfold Sz
  rw [Int.natAbs_mul, Nat.pow_add]
  exact Nat.mul_lt_mul'' h k
theorem Sz.add {n m : Nat} {i j : Int} (h : Sz n i) (k : Sz n j) (l : n < m) : Sz m (i + j) := by
  have h' : i.natAbs < 2 ^ n := h
  have k' : j.natAbs < 2 ^ n := k
  have e : 2 ^ (n + 1) ≤ 2 ^ m := Nat.pow_le_pow_right (by decide) l
  rw [Nat.pow_succ] at e
  have z := Int.natAbs_add_le i j
  unfold Sz
  omega
theorem Sz.neg {n : Nat} {i : Int} (h : Sz n i) : Sz n (-i) := by
  unfold Sz
  rw [Int.natAbs_neg]
  exact h
theorem Sz.sub {n m : Nat} {i j : Int} (h : Sz n i) (k : Sz n j) (l : n < m) : Sz m (i - j) := by
  rw [Int.sub_eq_add_neg]
  exact h.add k.neg l
theorem natAbs_ediv_le (a : Int) {b : Nat} : (a / (b : Int)).natAbs ≤ a.natAbs := Int.natAbs_ediv_le_natAbs _ _
theorem Rz.divInt {n : Nat} {t b : Int} (h : Sz n t) (k : Sz n b) (h0 : 0 < n) : Rz n (Rat.divInt t b) := by
  refine ⟨?_, ?_⟩
  · unfold Sz
    rw [Rat.num_divInt]
    refine Nat.lt_of_le_of_lt (Int.natAbs_ediv_le_natAbs _ _) ?_
    rw [Int.natAbs_mul]
    refine Nat.lt_of_le_of_lt ?_ h
    have : b.sign.natAbs ≤ 1 := by
      rcases Int.lt_trichotomy b 0 with z | z | z
      · rw [Int.sign_eq_neg_one_of_neg z]; decide
      · rw [z]; decide
      · rw [Int.sign_eq_one_of_pos z]; decide
    calc b.sign.natAbs * t.natAbs ≤ 1 * t.natAbs := Nat.mul_le_mul_right _ this
      _ = t.natAbs := Nat.one_mul _
  · unfold Sz
    rw [Rat.den_divInt]
    split
    · show 1 < 2 ^ n
      exact Nat.one_lt_two_pow (by omega)
    · rw [Int.natAbs_natCast]
      exact Nat.lt_of_le_of_lt (Nat.div_le_self _ _) k
theorem add_eq (p q : Rat) : p + q = Rat.divInt (p.num * q.den + q.num * p.den) ((p.den : Int) * q.den) := by
  have := Rat.divInt_add_divInt p.num q.num (d₁ := p.den) (d₂ := q.den) (by have := den_pos p; omega) (by have := den_pos q; omega)
  rw [Rat.num_divInt_den, Rat.num_divInt_den] at this
  exact this
theorem sub_eq (p q : Rat) : p - q = Rat.divInt (p.num * q.den - q.num * p.den) ((p.den : Int) * q.den) := by
  rw [Rat.sub_eq_add_neg, add_eq]
  rw [Rat.neg_num, Rat.neg_den, Int.neg_mul, ← Int.sub_eq_add_neg]
theorem mul_eq (p q : Rat) : p * q = Rat.divInt (p.num * q.num) ((p.den : Int) * q.den) := by
  have := Rat.divInt_mul_divInt p.num q.num (d₁ := p.den) (d₂ := q.den)
  rw [Rat.num_divInt_den, Rat.num_divInt_den] at this
  exact this
theorem div_eq (p q : Rat) (h : q ≠ 0) : p / q = Rat.divInt (p.num * q.den) ((p.den : Int) * q.num) := by
  rw [Rat.div_def, mul_eq]
  have hq : q.num ≠ 0 := fun z => h (Rat.num_eq_zero.mp z)
  have e : q⁻¹ = Rat.divInt q.den q.num := by
    have := Rat.inv_divInt q.num q.den
    rw [Rat.num_divInt_den] at this
    exact this
  rw [← mul_eq, e]
  have := Rat.divInt_mul_divInt p.num q.den (d₁ := p.den) (d₂ := q.num)
  rw [Rat.num_divInt_den] at this
  exact this
theorem lt_iff' (p q : Rat) : p < q ↔ p.num * q.den < q.num * p.den := Rat.lt_iff p q
theorem Rz.add {n l m : Nat} {p q : Rat} (h : Rz n p) (k : Rz l q) (hl : n + l < m) : Rz m (p + q) := by
  rw [add_eq]
  exact Rz.divInt (Sz.add (n := n + l) ((h.1.mul k.2).mono (by omega)) ((k.1.mul h.2).mono (by omega)) hl) ((h.2.mul k.2).mono (by omega)) (by omega)
theorem Rz.sub {n l m : Nat} {p q : Rat} (h : Rz n p) (k : Rz l q) (hl : n + l < m) : Rz m (p - q) := by
  rw [sub_eq]
  exact Rz.divInt (Sz.sub (n := n + l) ((h.1.mul k.2).mono (by omega)) ((k.1.mul h.2).mono (by omega)) hl) ((h.2.mul k.2).mono (by omega)) (by omega)
theorem Rz.mul {n l m : Nat} {p q : Rat} (h : Rz n p) (k : Rz l q) (hl : n + l < m) : Rz m (p * q) := by
  rw [mul_eq]
  exact Rz.divInt ((h.1.mul k.1).mono (by omega)) ((h.2.mul k.2).mono (by omega)) (by omega)
theorem Rz.div {n l m : Nat} {p q : Rat} (h : Rz n p) (k : Rz l q) (z : q ≠ 0) (hl : n + l < m) : Rz m (p / q) := by
  rw [div_eq p q z]
  exact Rz.divInt ((h.1.mul k.2).mono (by omega)) ((h.2.mul k.1).mono (by omega)) (by omega)
theorem Rz.int {n : Nat} {i : Int} (h : Sz n i) (h0 : 0 < n) : Rz n (i : Rat) := ⟨h, (by show 1 < 2 ^ n; exact Nat.one_lt_two_pow (by omega))⟩
theorem Sz.floor {n : Nat} {q : Rat} (h : Rz n q) : Sz n q.floor := by
  unfold Sz
  rw [Rat.floor_def]
  exact Nat.lt_of_le_of_lt (Int.natAbs_ediv_le_natAbs _ _) h.1
theorem neg_div_ceil (q : Rat) : -(-q.num / (q.den : Int)) = q.ceil := by
  have := Rat.ceil_eq_neg_floor_neg q
  rw [this, Rat.floor_def, Rat.neg_num, Rat.neg_den]
theorem Rz.neg {n : Nat} {q : Rat} (h : Rz n q) : Rz n (-q) := ⟨by rw [Rat.neg_num]; exact h.1.neg, by rw [Rat.neg_den]; exact h.2⟩
theorem Sz.ceil {n : Nat} {q : Rat} (h : Rz n q) : Sz n q.ceil := by
  rw [Rat.ceil_eq_neg_floor_neg]
  exact (Sz.floor h.neg).neg
theorem Sz.of {n : Nat} {i : Int} (h1 : -(2 ^ n) < i) (h2 : i < 2 ^ n) : Sz n i := by
  unfold Sz
  have e : ((2 ^ n : Nat) : Int) = (2 : Int) ^ n := by simp
  omega
end MM
namespace MM
/-! the calendar's mathematics: floor, ceil, and the steps of months and marks -/
structure Fit (m y : Rat) : Prop where
  one : 1 ≤ m
  between : (m.ceil : Rat) ≤ y / 12
  thirteen : y + 1 ≤ 13 * m
theorem Fit.pos {m y : Rat} (f : Fit m y) : 0 < m := by
  have := f.one
  grind
theorem Fit.ypos {m y : Rat} (f : Fit m y) : 0 < y / 12 := by
  have h1 := f.one
  have h2 := f.between
  have h3 : m ≤ (m.ceil : Rat) := Rat.le_ceil
  grind
def stF (m o : Rat) (k : Int) : Int := (o + k * m).floor
def mdF (y k : Rat) (j : Int) : Int := (k + j * (y / 12)).floor
def maF (m o : Rat) (d : Int) : Int := ((((d + 1 : Int) : Rat) - o) / m).ceil - 1
def jF (y k : Rat) (d : Int) : Int := (((d : Rat) - k) / (y / 12)).ceil
theorem lt_ceil_iff {q : Rat} {i : Int} : i < q.ceil ↔ (i : Rat) < q := by
  have h : q.ceil ≤ i ↔ q ≤ (i : Rat) := Rat.ceil_le_iff
  constructor
  · intro hi
    have : ¬ q.ceil ≤ i := by omega
    rw [h] at this
    exact Rat.not_le.mp this
  · intro hi
    have : ¬ q ≤ (i : Rat) := Rat.not_le.mpr hi
    rw [← h] at this
    omega
theorem floor_le_iff {q : Rat} {i : Int} : q.floor ≤ i ↔ q < ((i + 1 : Int) : Rat) := by
  have h := Rat.floor_lt_iff (a := q) (x := i + 1)
  rw [← h]
  omega
/-- the months up to K begin by the day d -/
theorem st_le {m o : Rat} (hm : 0 < m) {k d : Int} : stF m o k ≤ d ↔ k ≤ maF m o d := by
  unfold stF maF
  rw [floor_le_iff]
  have e : k ≤ ((((d + 1 : Int) : Rat) - o) / m).ceil - 1 ↔ k < ((((d + 1 : Int) : Rat) - o) / m).ceil := by omega
  rw [e, lt_ceil_iff, Rat.lt_div_iff hm]
  constructor <;> intro h <;> grind
theorem ma_of {m o : Rat} (hm : 0 < m) {k d : Int} (h1 : stF m o k ≤ d) (h2 : d < stF m o (k + 1)) : maF m o d = k := by
  have a := (st_le hm).mp h1
  have b : ¬ k + 1 ≤ maF m o d := fun z => by
    have := (st_le hm).mpr z
    omega
  omega
theorem st_ma {m o : Rat} (hm : 0 < m) (d : Int) : stF m o (maF m o d) ≤ d := (st_le hm).mpr (Int.le_refl _)
theorem ma_st {m o : Rat} (hm : 0 < m) (d : Int) : d < stF m o (maF m o d + 1) := by
  have : ¬ stF m o (maF m o d + 1) ≤ d := fun z => by
    have := (st_le hm).mp z
    omega
  omega
theorem cast_add1 (k : Int) : ((k + 1 : Int) : Rat) = (k : Rat) + 1 := by
  rw [Rat.intCast_add]
  rfl
theorem st_step {m o : Rat} (hm : 1 ≤ m) (k : Int) : stF m o k + 1 ≤ stF m o (k + 1) := by
  unfold stF
  rw [Rat.le_floor_iff, cast_add1, cast_add1]
  have h := Rat.floor_le (o + (k : Rat) * m)
  grind
theorem md_lt {y k : Rat} (hy : 0 < y / 12) {j d : Int} : mdF y k j < d ↔ j < jF y k d := by
  unfold mdF jF
  rw [Rat.floor_lt_iff, lt_ceil_iff, Rat.lt_div_iff hy]
  constructor <;> intro h <;> grind
theorem md_ge {y k : Rat} (hy : 0 < y / 12) (d : Int) : d ≤ mdF y k (jF y k d) := by
  have : ¬ mdF y k (jF y k d) < d := fun z => by
    have := (md_lt hy).mp z
    omega
  omega
/-- of two months in a row one has a mark -/
theorem two_months {m y o k : Rat} (f : Fit m y) (i : Int) : mdF y k (jF y k (stF m o (i - 1))) < stF m o (i + 1) := by
  have hy := f.ypos
  have h1 : mdF y k (jF y k (stF m o (i - 1)) - 1) < stF m o (i - 1) := (md_lt hy).mpr (by omega)
  unfold mdF at h1 ⊢
  rw [Rat.floor_lt_iff] at h1 ⊢
  have e1 : ((jF y k (stF m o (i - 1)) - 1 : Int) : Rat) = (jF y k (stF m o (i - 1)) : Rat) - 1 := by rw [Rat.intCast_sub]; rfl
  rw [e1] at h1
  have h2 : ((stF m o (i - 1) : Int) : Rat) ≤ o + ((i - 1 : Int) : Rat) * m := Rat.floor_le _
  have h3 : o + ((i + 1 : Int) : Rat) * m - 1 < ((stF m o (i + 1) : Int) : Rat) := Rat.lt_floor
  have e2 : ((i - 1 : Int) : Rat) = (i : Rat) - 1 := by rw [Rat.intCast_sub]; rfl
  rw [e2] at h2
  rw [cast_add1] at h3
  have a := f.one
  have b := f.thirteen
  have c : y / 12 ≤ 2 * m - 1 := by grind
  grind
theorem k0_le {m o : Rat} (hm : 0 < m) (d : Int) : (((d : Rat) - o) / m).floor - 1 ≤ maF m o d := by
  have h : ((((d : Rat) - o) / m).floor - 1) < ((((d + 1 : Int) : Rat) - o) / m).ceil := by
    rw [lt_ceil_iff, Rat.intCast_sub]
    have h1 := Rat.floor_le (((d : Rat) - o) / m)
    have h2 : ((d : Rat) - o) / m < (((d + 1 : Int) : Rat) - o) / m := by
      rw [cast_add1, Rat.lt_div_iff hm, Rat.div_mul_cancel (by grind)]
      grind
    have h3 : ((1 : Int) : Rat) = 1 := rfl
    grind
  unfold maF
  omega
theorem j0_le {y k : Rat} (d : Int) : (((d : Rat) - k) / (y / 12)).floor - 1 ≤ jF y k d := by
  have h : (((d : Rat) - k) / (y / 12)).floor ≤ (((d : Rat) - k) / (y / 12)).ceil := Rat.intCast_le_intCast.mp (Rat.le_trans (Rat.floor_le _) Rat.le_ceil)
  unfold jF
  omega
end MM
namespace MM
theorem floor_divInt {t b : Int} (hb : 0 < b) : (Rat.divInt t b).floor = t / b := by
  rw [Rat.floor_def]
  have h := Rat.num_divInt_den (Rat.divInt t b)
  have hd := den_pos (Rat.divInt t b)
  rw [Rat.divInt_eq_divInt_iff (by omega) (by omega)] at h
  have e1 : t / b = (t * ((Rat.divInt t b).den : Int)) / (b * ((Rat.divInt t b).den : Int)) := (Int.mul_ediv_mul_of_pos_left _ _ hd).symm
  rw [e1, ← h, Int.mul_comm b, Int.mul_ediv_mul_of_pos_left _ _ hb]
theorem inv_eq (q : Rat) : q⁻¹ = Rat.divInt q.den q.num := by
  have := Rat.inv_divInt q.num q.den
  rw [Rat.num_divInt_den] at this
  exact this
theorem div12 (x y : Rat) (hy : y ≠ 0) : Rat.divInt (x.num * 12 * y.den) ((x.den : Int) * y.num) = x / (y / 12) := by
  have e : x / (y / 12) = x * 12 * y⁻¹ := by grind
  rw [e, inv_eq]
  have h1 : x * 12 = Rat.divInt (x.num * 12) ((x.den : Int) * 1) := by
    have h := Rat.divInt_mul_divInt x.num 12 (d₁ := x.den) (d₂ := 1)
    rw [Rat.num_divInt_den] at h
    exact h
  rw [h1, Rat.divInt_mul_divInt, Int.mul_one]
theorem Sz.between {n : Nat} {a x b : Int} (ha : Sz n a) (hb : Sz n b) (h1 : a ≤ x) (h2 : x ≤ b) : Sz n x := by
  unfold Sz at *
  omega
theorem Fit.ypos' {m y : Rat} (f : Fit m y) : 0 < y := by
  have := f.ypos
  grind
theorem num_pos {q : Rat} (h : 0 < q) : 0 < q.num := by
  have := (lt_iff' 0 q).mp h
  rw [show (0 : Rat).num = 0 from rfl, show (0 : Rat).den = 1 from rfl] at this
  omega
end MM
namespace MM
theorem unit_divInt {t b : Int} (h0 : 0 ≤ t) (h1 : t ≤ b) (hb : 0 < b) : 0 ≤ Rat.divInt t b ∧ Rat.divInt t b ≤ 1 := by
  have hb' : (0 : Rat) < (b : Rat) := Rat.intCast_lt_intCast.mpr hb
  have h0' : (0 : Rat) ≤ (t : Rat) := Rat.intCast_le_intCast.mpr h0
  have h1' : (t : Rat) ≤ (b : Rat) := Rat.intCast_le_intCast.mpr h1
  rw [Rat.divInt_eq_div]
  have e : (t : Rat) / (b : Rat) * (b : Rat) = t := Rat.div_mul_cancel (by grind)
  refine ⟨?_, ?_⟩
  · apply Rat.not_lt.mp
    intro z
    have := Rat.mul_lt_mul_of_pos_right z hb'
    grind
  · apply Rat.not_lt.mp
    intro z
    have := Rat.mul_lt_mul_of_pos_right z hb'
    grind
theorem cast_sub1 (w : Int) : ((w - 1 : Int) : Rat) = (w : Rat) - 1 := by
  rw [Rat.intCast_sub]
  rfl
theorem cast_12 (w : Int) : ((12 * w : Int) : Rat) = 12 * (w : Rat) := by
  rw [Rat.intCast_mul]
  rfl
/-- the law's drawn month and year make a calendar -/
theorem fit_drawn {w : Int} (hw : 1 ≤ w) {s r : Rat} (s0 : 0 ≤ s) (s1 : s ≤ 1) (r0 : 0 ≤ r) (r1 : r ≤ 1) :
    Fit ((((12 * w + 1 : Int) : Rat) + s * ((w - 1 : Int) : Rat)) * Rat.divInt 1 13) (((12 * w : Int) : Rat) + r * s * ((w - 1 : Int) : Rat)) := by
  have hW : (1 : Rat) ≤ (w : Rat) := Rat.intCast_le_intCast.mpr hw
  rw [cast_add1, cast_12, cast_sub1, Rat.divInt_eq_div]
  have a0 : 0 ≤ s * ((w : Rat) - 1) := Rat.mul_nonneg s0 (by grind)
  have a1 : s * ((w : Rat) - 1) ≤ 1 * ((w : Rat) - 1) := Rat.mul_le_mul_of_nonneg_right s1 (by grind)
  have b0 : 0 ≤ r * (s * ((w : Rat) - 1)) := Rat.mul_nonneg r0 a0
  have b1 : r * (s * ((w : Rat) - 1)) ≤ 1 * (s * ((w : Rat) - 1)) := Rat.mul_le_mul_of_nonneg_right r1 a0
  have e : r * s * ((w : Rat) - 1) = r * (s * ((w : Rat) - 1)) := Rat.mul_assoc _ _ _
  rw [e]
  have c1 : ((1 : Int) : Rat) = 1 := rfl
  have c13 : ((13 : Int) : Rat) = 13 := rfl
  rw [c1, c13]
  generalize s * ((w : Rat) - 1) = z at *
  generalize r * z = u at *
  refine ⟨by grind, ?_, by grind⟩
  have h : ((12 * (w : Rat) + 1 + z) * (1 / 13)).ceil ≤ w := Rat.ceil_le_iff.mpr (by grind)
  have h' : (((12 * (w : Rat) + 1 + z) * (1 / 13)).ceil : Rat) ≤ (w : Rat) := Rat.intCast_le_intCast.mpr h
  grind
end MM
namespace MM
open PySem PySem.Spec PyProof.Rows L2
/-! ### defs and their calls -/
/-- a def of the module under its name, with its defaults -/
structure Df (K : PySem.W.Frag) (mg : Str → Option Value) (x : Str) (st : Stmt) (dvs : List V) : Prop where
  ex : ∃ (f : Addr) (fd : FuncData), FunD K x x (defArgs st) (defBody st) (defScope st) dvs [] f fd ∧ mg x = some (.ref f)
/-- what is known of a def that is called: its promise, how it is bound -/
structure Ca (P : Program) (w : World) (K : PySem.W.Frag) (mg : Str → Option Value) (base : Heap) (CX : CXT) (k : Nat) (x : Str) (st : Stmt) (dvs : List V) (ps : List Str) (sp : Sp) : Prop where
  ex : ∃ (f : Addr) (fd : FuncData), FunD K x x (defArgs st) (defBody st) (defScope st) dvs [] f fd ∧ mg x = some (.ref f) ∧ FnOk P w K mg base CX k f fd ps sp
/-- the parameters of a def, all given by place -/
def Bd (x qual : Str) (st : Stmt) (ps : List Str) : Prop := ∀ (kV doc pm : Value) (an : Option Addr) (cdv ct : Value) (us : List Value), us.length = ps.length →
  bindArgs (PySem.W.fnOf x qual (defArgs st) (defBody st) (defScope st) .none kV doc pm an cdv ct) ⟨us, []⟩ = pure (ps.zip us)
section
variable {P : Program} {w : World} {K : PySem.W.Frag} {mg : Str → Option Value} {base : Heap} {x : Str} {st : Stmt} {dvs : List V} {N ps : List Str} {k : Nat} {sp : Sp}
theorem ca0 (D : Df K mg x st dvs) (S : FnScope N ps (defScope st)) (len : ∀ vs H Q E, sp vs H Q E → vs.length = ps.length)
    (body : ∀ (f : Addr) (cdv : Value) (A : Around) (outer : List Env) (s : Shared) (H : Hp) (vs : List V) (Q : VK) (E : XK), Room k (A.deeper (envOfC x (defScope st) s.heap.objs.size f cdv)) → sp vs H Q E →
      ∃ t, PSs (cxOf CX0 P w K mg base N x (defScope st) f cdv A outer s H E).nox (defBody st) t ∧ t { nx := fun _ H' => Q .non H', rt := Q } (start N vs) H) : Ca P w K mg base CX0 (k + 1) x st dvs ps sp := by
  obtain ⟨f, fd, F, hm⟩ := D.ex
  refine ⟨f, fd, F, hm, F.ok S len fun cdv A outer s H vs Q E hr h => ?_⟩
  obtain ⟨t, h1, h2⟩ := body f cdv A outer s H vs Q E hr h
  exact ⟨t, h1.nox, h2⟩
theorem caX (D : Df K mg x st dvs) (S : FnScope N ps (defScope st)) (len : ∀ vs H Q E, sp vs H Q E → vs.length = ps.length)
    (body : ∀ (f : Addr) (cdv : Value) (A : Around) (outer : List Env) (s : Shared) (H : Hp) (vs : List V) (Q : VK) (E : XK), Room k (A.deeper (envOfC x (defScope st) s.heap.objs.size f cdv)) → sp vs H Q E →
      ∃ t, PSs (cxOf (L2.CX P w) P w K mg base N x (defScope st) f cdv A outer s H E) (defBody st) t ∧ t { nx := fun _ H' => Q .non H', rt := Q } (start N vs) H) : Ca P w K mg base (L2.CX P w) (k + 1) x st dvs ps sp := by
  obtain ⟨f, fd, F, hm⟩ := D.ex
  exact ⟨f, fd, F, hm, F.ok S len fun cdv A outer s H vs Q E hr h => body f cdv A outer s H vs Q E hr h⟩
theorem FunD.none {qual : Str} {params : Arguments} {bodyS : List Stmt} {scope : Scope} {f : Addr} {fd : FuncData} (F : FunD K x qual params bodyS scope [] [] f fd) :
    ∃ (kV doc pm : Value) (an : Option Addr) (cdv ct : Value), fd = PySem.W.fnOf x qual params bodyS scope .none kV doc pm an cdv ct := by
  obtain ⟨oc, od, dV, kV, doc, pm, an, cdv, ct, osl, rfl, lk, hcd, hD, hK⟩ := F.ex
  rcases hD with ⟨_, rfl⟩ | ⟨e, _⟩
  · exact ⟨kV, doc, pm, an, cdv, ct, rfl⟩
  · exact absurd rfl e
end
section
variable {X : Cx} {CX : CXT} {k j n : Nat} {C : Addr} {x m : Str} {st : Stmt} {sp : Sp} {ps ks : List Str} {dvs : List V} {E : XK} {p pos apos : Pos} {e o : Expr} {es : List Expr} {kws : List Keyword} {ta : TE} {t tk : TA}
/-- f(e, ..), all parameters by place -/
theorem pe_ca (c : Ca X.prog X.w X.K X.mg X.base CX k x st [] ps sp) (b : Bd x x st ps) (hr : Room j X.A) (hk : k ≤ j) (hx : Passes CX X E) (hg : Gl X x) (ha : PA X (e :: es) t)
    (hdb : (x == ("__debug__" : Str)) = false := by decide) (he : starEach (e :: es) X.env = (false, eval e X.env) :: starEach es X.env := by rfl) (hpl : (backTo pos (starEach es X.env)).any (·.1) = false := by rfl) :
    PE X (.Call (.Name x p) (e :: es) [] pos) (tCall sp [] E t) := by
  obtain ⟨f, fd, F, hm, G⟩ := c.ex
  exact pe_call G (hr.mono hk) hg hm F.kp (F.bindsN b) .nil hx ha hdb he hpl
/-- how keywords bind where there is no default: g puts the places' values and the keywords' in order -/
structure Kb (x : Str) (st : Stmt) (n : Nat) (ks ps : List Str) (g : {α : Type} → List α → List α → List α) : Prop where
  bind : ∀ (kV doc pm : Value) (an : Option Addr) (cdv ct : Value) (us ws : List Value), us.length = n → ws.length = ks.length →
    bindArgs (PySem.W.fnOf x x (defArgs st) (defBody st) (defScope st) .none kV doc pm an cdv ct) ⟨us, ks.zip ws⟩ = pure (ps.zip (g us ws))
  rel : ∀ {vs zs : List V} {us ws : List Value}, vs.length = n → zs.length = ks.length → Vals vs us → Vals zs ws → Vals (g vs zs) (g us ws)
/-- f(k = v, ..) of a def without defaults -/
theorem pe_caK {g : {α : Type} → List α → List α → List α} (c : Ca X.prog X.w X.K X.mg X.base CX k x st [] ps sp) (b : Kb x st 0 ks ps g) (hr : Room j X.A) (hk : k ≤ j) (hx : Passes CX X E) (hg : Gl X x) (hkw : PK X kws tk)
    (hall : (backToKw pos (keywordEach kws X.env)).all (·.1.isSome) = true := by rfl) (hks : (backToKw pos (keywordEach kws X.env)).filterMap (·.1) = ks := by rfl) (hdb : (x == ("__debug__" : Str)) = false := by decide)
    (hpl : ((backTo pos (starEach [] X.env)).any (·.1) || (backToKw pos (keywordEach kws X.env)).any (·.1.isNone)) = false := by rfl) :
    PE X (.Call (.Name x p) [] kws pos) (fun σ H Q => tk σ H fun zs H2 => zs.length = ks.length ∧ sp (g [] zs) H2 Q E) := by
  obtain ⟨f, fd, F, hm, G⟩ := c.ex
  obtain ⟨kV, doc, pm, an, cdv, ct, rfl⟩ := FunD.none F
  refine ⟨fun pins s σ H Q I h => ?_⟩
  refine wpAny_Call_Name_kw (ld_glob I hg hm ?_ hdb)
  refine PySem.W.callWith_KW0 (h₀ := X.base) I.ok.mod.kin F.kp hall ?_ hpl
  refine thn (hkw.run pos pins s σ H _ I h) fun ws s2 ⟨zs, H2, I2, rz, l2, q2⟩ => ⟨I2.kIn, ?_⟩
  rw [hks]
  have r2 : Vals (g [] zs) (g [] ws) := b.rel rfl l2 .nil rz
  refine wpAny_call (codeAny_mono (G.run X.A X.stack s2 H2 ⟨[], ks.zip ws⟩ (g [] ws) (g [] zs) Q E (hr.mono hk) I2.env0 (.of_eq (b.bind kV doc pm an cdv ct [] ws rfl (rz.length.symm.trans l2))) r2 q2) fun r s' hq => ?_)
  match r, hq with
  | .error e, hq => exact hx pins σ H2 s2 e s' I2 hq
  | .ok (.ret u), hq => exact I2.after hq
  | .ok .next, hq => exact False.elim hq
  | .ok .brk, hq => exact False.elim hq
  | .ok .cont, hq => exact False.elim hq
end
/-! ### whole numbers -/
section
variable {X : Cx}
/-- // by any divisor but 0 -/
def CDivA (_ j : Int) : Prop := j ≠ 0 ∧ Sz 8900 j
theorem op_fdivA : OpR X (binaryOp .FloorDiv) (rI CDivA fun i j => .int (i.fdiv j)) := opI fun i j _ _ _ _ _ hc q =>
  PyProof.Rows.floordiv_int hc.1 q (.inl (PyProof.noPylong_of_log2 (Nat.lt_of_lt_of_le (PySem.Flt.log2_lt_of (by decide) hc.2) (by decide))))
/-- * of two numbers of some thousand bits -/
def CMulA (i j : Int) : Prop := Sz 100000 i ∧ Sz 100000 j
theorem op_mulA : OpR X (binaryOp .Mult) (rI CMulA fun i j => .int (i * j)) := opI fun i j _ _ _ _ _ hc q =>
  PyProof.Rows.mul_int q (CMulW.ok (wide_mul hc.1 hc.2 (by decide) (by decide) (by decide)))
end
/-! ### a pick out of a written list -/
theorem pick {α : Type} {xs : List α} {z : Int} {P : α → Prop} (h0 : 0 ≤ z) (h1 : z < xs.length) (h : ∀ x ∈ xs, P x) : ∃ v, atI xs z = some v ∧ P v := by
  have hl : z.toNat < xs.length := by omega
  refine ⟨xs[z.toNat], ?_, h _ (List.getElem_mem hl)⟩
  unfold atI ixN
  rw [if_pos h0, if_pos h1]
  exact List.getElem?_eq_getElem hl
end MM
namespace MM
open PySem PySem.Spec PyProof.Rows L2
/-- what binds where some parameters have defaults: n given by place, the defaults from the j-th on fill up -/
def Bd1 (x qual : Str) (st : Stmt) (ps : List Str) (n j m : Nat) : Prop := ∀ (T : Addr) (kV doc pm : Value) (an : Option Addr) (cdv ct : Value) (us its : List Value), us.length = n → its.length = m →
  ∃ k, bindArgs (PySem.W.fnOf x qual (defArgs st) (defBody st) (defScope st) (.ref T) kV doc pm an cdv ct) ⟨us, []⟩ = seqItems? (.ref T) >>= k ∧ k (some its.toArray) = pure (ps.zip (us ++ its.drop j))
/-- the __init__ of a class -/
structure Di (K : PySem.W.Frag) (mg : Str → Option Value) (x : Str) (C : Addr) (qual : Str) (st : Stmt) (dvs : List V) : Prop where
  ex : ∃ (f : Addr) (fd : FuncData), FunD K "__init__" qual (defArgs st) (defBody st) (defScope st) dvs [] f fd ∧ Mk K C f ∧ mg x = some (.ref C)
structure Ci (P : Program) (w : World) (K : PySem.W.Frag) (mg : Str → Option Value) (base : Heap) (CX : CXT) (k : Nat) (x : Str) (C : Addr) (qual : Str) (st : Stmt) (dvs : List V) (ps : List Str) (sp : Sp) : Prop where
  ex : ∃ (f : Addr) (fd : FuncData), FunD K "__init__" qual (defArgs st) (defBody st) (defScope st) dvs [] f fd ∧ Mk K C f ∧ mg x = some (.ref C) ∧ FnOk P w K mg base CX k f fd ps sp
/-- a method of a class -/
structure Dm (K : PySem.W.Frag) (C : Addr) (m qual : Str) (st : Stmt) : Prop where
  ex : ∃ (f : Addr) (fd : FuncData), FunD K m qual (defArgs st) (defBody st) (defScope st) [] [] f fd ∧ Meth K C m f ∧ Cls K C
structure Cm (P : Program) (w : World) (K : PySem.W.Frag) (mg : Str → Option Value) (base : Heap) (CX : CXT) (k : Nat) (C : Addr) (m qual : Str) (st : Stmt) (ps : List Str) (sp : Sp) : Prop where
  ex : ∃ (f : Addr) (fd : FuncData), FunD K m qual (defArgs st) (defBody st) (defScope st) [] [] f fd ∧ Meth K C m f ∧ Cls K C ∧ FnOk P w K mg base CX k f fd ps sp
section
variable {P : Program} {w : World} {K : PySem.W.Frag} {mg : Str → Option Value} {base : Heap} {x m qual : Str} {C : Addr} {st : Stmt} {dvs : List V} {N ps : List Str} {k : Nat} {sp : Sp}
theorem ci0 (D : Di K mg x C qual st dvs) (S : FnScope N ps (defScope st)) (len : ∀ vs H Q E, sp vs H Q E → vs.length = ps.length)
    (body : ∀ (f : Addr) (cdv : Value) (A : Around) (outer : List Env) (s : Shared) (H : Hp) (vs : List V) (Q : VK) (E : XK), Room k (A.deeper (envOfC qual (defScope st) s.heap.objs.size f cdv)) → sp vs H Q E →
      ∃ t, PSs (cxOf CX0 P w K mg base N qual (defScope st) f cdv A outer s H E).nox (defBody st) t ∧ t { nx := fun _ H' => Q .non H', rt := Q } (start N vs) H) : Ci P w K mg base CX0 (k + 1) x C qual st dvs ps sp := by
  obtain ⟨f, fd, F, M, hm⟩ := D.ex
  refine ⟨f, fd, F, M, hm, F.ok S len fun cdv A outer s H vs Q E hr h => ?_⟩
  obtain ⟨t, h1, h2⟩ := body f cdv A outer s H vs Q E hr h
  exact ⟨t, h1.nox, h2⟩
theorem ciX (D : Di K mg x C qual st dvs) (S : FnScope N ps (defScope st)) (len : ∀ vs H Q E, sp vs H Q E → vs.length = ps.length)
    (body : ∀ (f : Addr) (cdv : Value) (A : Around) (outer : List Env) (s : Shared) (H : Hp) (vs : List V) (Q : VK) (E : XK), Room k (A.deeper (envOfC qual (defScope st) s.heap.objs.size f cdv)) → sp vs H Q E →
      ∃ t, PSs (cxOf (L2.CX P w) P w K mg base N qual (defScope st) f cdv A outer s H E) (defBody st) t ∧ t { nx := fun _ H' => Q .non H', rt := Q } (start N vs) H) : Ci P w K mg base (L2.CX P w) (k + 1) x C qual st dvs ps sp := by
  obtain ⟨f, fd, F, M, hm⟩ := D.ex
  exact ⟨f, fd, F, M, hm, F.ok S len fun cdv A outer s H vs Q E hr h => body f cdv A outer s H vs Q E hr h⟩
theorem cm0 (D : Dm K C m qual st) (S : FnScope N ps (defScope st)) (len : ∀ vs H Q E, sp vs H Q E → vs.length = ps.length)
    (body : ∀ (f : Addr) (cdv : Value) (A : Around) (outer : List Env) (s : Shared) (H : Hp) (vs : List V) (Q : VK) (E : XK), Room k (A.deeper (envOfC qual (defScope st) s.heap.objs.size f cdv)) → sp vs H Q E →
      ∃ t, PSs (cxOf CX0 P w K mg base N qual (defScope st) f cdv A outer s H E).nox (defBody st) t ∧ t { nx := fun _ H' => Q .non H', rt := Q } (start N vs) H) : Cm P w K mg base CX0 (k + 1) C m qual st ps sp := by
  obtain ⟨f, fd, F, M, hc⟩ := D.ex
  refine ⟨f, fd, F, M, hc, F.ok S len fun cdv A outer s H vs Q E hr h => ?_⟩
  obtain ⟨t, h1, h2⟩ := body f cdv A outer s H vs Q E hr h
  exact ⟨t, h1.nox, h2⟩
end
section
variable {X : Cx} {CX : CXT} {k j n d : Nat} {C : Addr} {x m qual : Str} {st : Stmt} {sp : Sp} {ps ks : List Str} {dvs : List V} {E : XK} {p pos apos : Pos} {e o : Expr} {es : List Expr} {kws : List Keyword} {ta : TE} {t tk : TA}
/-- C(e, ..): n values, then the defaults from the d-th on; n counts self too -/
theorem pe_ci (c : Ci X.prog X.w X.K X.mg X.base CX k x C qual st dvs ps sp) (b : Bd1 "__init__" qual st ps n d dvs.length) (hd : dvs ≠ []) (hn : n + (dvs.length - d) = ps.length) (hr : Room j X.A) (hk : k + 1 ≤ j) (hx : Passes CX X E) (hg : Gl X x) (ha : PA X (e :: es) t)
    (hdb : (x == ("__debug__" : Str)) = false := by decide) (he : starEach (e :: es) X.env = (false, eval e X.env) :: starEach es X.env := by rfl) (hpl : (backTo pos (starEach es X.env)).any (·.1) = false := by rfl) :
    PE X (.Call (.Name x p) (e :: es) [] pos) (tMake C sp (dvs.drop d) E t) := by
  obtain ⟨f, fd, F, M, hm, G⟩ := c.ex
  obtain ⟨ds, r, bb⟩ := F.binds1 n d hd hn b
  exact pe_make M G (hr.mono hk) hg hm bb r hx ha hdb he hpl
/-- o.m(e, ..) -/
theorem pe_cm {pl : Sem Bool} (c : Cm X.prog X.w X.K X.mg X.base CX k C m qual st ps sp) (b : Bd m qual st ps) (hr : Room j X.A) (hk : k ≤ j) (hx : Passes CX X E) (he : PE X o ta) (ha : PA X (e :: es) t)
    (hst : starEach (e :: es) X.env = (false, eval e X.env) :: starEach es X.env := by rfl) (hpl : (backTo pos (starEach es X.env)).any (·.1) = false := by rfl)
    (ht : eval (.Call (.Attribute o m apos) (e :: es) [] pos) X.env = (eval o X.env >>= fun ov => standAt apos.atName >>= fun _ => holding [ov] (getMethod ov m pl) >>= fun q => callWith pos q.1 q.2 (backTo pos (starEach (e :: es) X.env)) (backToKw pos (keywordEach [] X.env))) := by rfl) :
    PE X (.Call (.Attribute o m apos) (e :: es) [] pos) (tMeth C m sp [] E ta t) := by
  obtain ⟨f, fd, F, M, hc, G⟩ := c.ex
  exact pe_meth (pl := pl) he hc M G (hr.mono hk) (F.bindsN b) .nil hx ha hst hpl ht
/-- how keywords bind in a method, or a def, without defaults -/
structure Kbm (x qual : Str) (st : Stmt) (n : Nat) (ks ps : List Str) (g : {α : Type} → List α → List α → List α) : Prop where
  bind : ∀ (kV doc pm : Value) (an : Option Addr) (cdv ct : Value) (us ws : List Value), us.length = n → ws.length = ks.length →
    bindArgs (PySem.W.fnOf x qual (defArgs st) (defBody st) (defScope st) .none kV doc pm an cdv ct) ⟨us, ks.zip ws⟩ = pure (ps.zip (g us ws))
  rel : ∀ {vs zs : List V} {us ws : List Value}, vs.length = n → zs.length = ks.length → Vals vs us → Vals zs ws → Vals (g vs zs) (g us ws)
/-- o.m(k = v, ..) -/
theorem pe_cmK {pl : Sem Bool} {g : {α : Type} → List α → List α → List α} (c : Cm X.prog X.w X.K X.mg X.base CX k C m qual st ps sp) (b : Kbm m qual st 1 ks ps g) (hr : Room j X.A) (hk : k ≤ j) (hx : Passes CX X E) (he : PE X o ta) (hkw : PK X kws tk)
    (hall : (backToKw pos (keywordEach kws X.env)).all (·.1.isSome) = true := by rfl) (hks : (backToKw pos (keywordEach kws X.env)).filterMap (·.1) = ks := by rfl)
    (hpl : ((backTo pos (starEach [] X.env)).any (·.1) || (backToKw pos (keywordEach kws X.env)).any (·.1.isNone)) = false := by rfl)
    (ht : eval (.Call (.Attribute o m apos) [] kws pos) X.env = (eval o X.env >>= fun ov => standAt apos.atName >>= fun _ => holding [ov] (getMethod ov m pl) >>= fun q => callWith pos q.1 q.2 (backTo pos (starEach [] X.env)) (backToKw pos (keywordEach kws X.env))) := by rfl) :
    PE X (.Call (.Attribute o m apos) [] kws pos) (fun σ H Q => ta σ H fun x H1 => ∃ a dx fs, x = .ref a ∧ H1 a = some (.ins C dx fs) ∧ fs.lookup m = none ∧ tk σ H1 fun zs H2 => zs.length = ks.length ∧ sp (g [.ref a] zs) H2 Q E) := by
  obtain ⟨f, fd, F, M, hc, G⟩ := c.ex
  obtain ⟨kV, doc, pm, an, cdv, ct, rfl⟩ := FunD.none F
  refine ⟨fun pins s σ H Q I h => ?_⟩
  refine PySem.W.methodCall_KW (pl := pl) (thn (he.run pins s σ H _ I h) fun u s1 ⟨y, H1, I1, ry, a, dx, fs, ey, ea, l, q⟩ => ?_) ht
  subst ey
  obtain rfl : u = Value.ref a := ry
  refine getmeth_ok I1 ea hc M l ?_
  refine PySem.W.callWith_KW0 (first := [.ref a]) (h₀ := X.base) I.ok.mod.kin M.kp hall ?_ hpl
  refine thn (hkw.run pos pins s1 σ H1 _ I1 q) fun ws s2 ⟨zs, H2, I2, rz, l2, q2⟩ => ⟨I2.kIn, ?_⟩
  rw [hks]
  have r2 : Vals (g [V.ref a] zs) (g [Value.ref a] ws) := b.rel rfl l2 (.cons rfl .nil) rz
  refine wpAny_call (codeAny_mono (G.run X.A X.stack s2 H2 ⟨[.ref a], ks.zip ws⟩ (g [.ref a] ws) (g [.ref a] zs) Q E (hr.mono hk) I2.env0 (.of_eq (b.bind kV doc pm an cdv ct [.ref a] ws rfl (rz.length.symm.trans l2))) r2 q2) fun r s' hq => ?_)
  match r, hq with
  | .error e, hq => exact hx pins σ H2 s2 e s' I2 hq
  | .ok (.ret u), hq => exact I2.after hq
  | .ok .next, hq => exact False.elim hq
  | .ok .brk, hq => exact False.elim hq
  | .ok .cont, hq => exact False.elim hq
end
/-- the keywords take their places: one self, the keywords in the parameters' order -/
def g1 {α : Type} : List α → List α → List α := fun us ws => us ++ ws
theorem g1_rel {n m : Nat} {vs zs : List V} {us ws : List Value} (_ : vs.length = n) (_ : zs.length = m) (h : Vals vs us) (k : Vals zs ws) : Vals (g1 vs zs) (g1 us ws) := h.append k
/-- how C(.., k = v, ..) binds where __init__ has defaults -/
structure Kd (qual : Str) (st : Stmt) (dn n : Nat) (ks ps : List Str) (g : {α : Type} → List α → List α → List α → List α) : Prop where
  bind : ∀ (T : Addr) (kV doc pm : Value) (an : Option Addr) (cdv ct : Value) (us its ws : List Value), us.length = n → its.length = dn → ws.length = ks.length →
    ∃ k, bindArgs (PySem.W.fnOf "__init__" qual (defArgs st) (defBody st) (defScope st) (.ref T) kV doc pm an cdv ct) ⟨us, ks.zip ws⟩ = seqItems? (.ref T) >>= k ∧ k (some its.toArray) = pure (ps.zip (g us its ws))
  rel : ∀ {vs ds zs : List V} {us its ws : List Value}, Vals vs us → Vals ds its → Vals zs ws → Vals (g vs ds zs) (g us its ws)
section
variable {X : Cx} {CX : CXT} {k j n d : Nat} {C : Addr} {x m qual : Str} {st : Stmt} {sp : Sp} {ps ks : List Str} {dvs : List V} {E : XK} {p pos apos : Pos} {e o : Expr} {es : List Expr} {kws : List Keyword} {ta : TE} {t tk : TA}
theorem pe_ciK0 {g : {α : Type} → List α → List α → List α → List α} (c : Ci X.prog X.w X.K X.mg X.base CX k x C qual st dvs ps sp) (b : Kd qual st dvs.length 1 ks ps g) (hd : dvs ≠ []) (hr : Room j X.A) (hk : k + 1 ≤ j) (hx : Passes CX X E) (hg : Gl X x) (hkw : PK X kws tk)
    (hall : (backToKw pos (keywordEach kws X.env)).all (·.1.isSome) = true := by rfl) (hks : (backToKw pos (keywordEach kws X.env)).filterMap (·.1) = ks := by rfl) (hdb : (x == ("__debug__" : Str)) = false := by decide)
    (hpl : ((backTo pos (starEach [] X.env)).any (·.1) || (backToKw pos (keywordEach kws X.env)).any (·.1.isNone)) = false := by rfl) :
    PE X (.Call (.Name x p) [] kws pos) (tMakeK C 0 ks.length sp (fun vs zs => g vs dvs zs) E tNil tk) := by
  obtain ⟨f, fd, F, M, hm, G⟩ := c.ex
  obtain ⟨its, hb⟩ := F.kbindsD 1 ks g hd b.rel b.bind
  exact pe_makeK0 M G (hr.mono hk) hg hm hb hx hkw hall hks hdb hpl
theorem pe_ciK {g : {α : Type} → List α → List α → List α → List α} (c : Ci X.prog X.w X.K X.mg X.base CX k x C qual st dvs ps sp) (b : Kd qual st dvs.length (n + 1) ks ps g) (hd : dvs ≠ []) (hr : Room j X.A) (hk : k + 1 ≤ j) (hx : Passes CX X E) (hg : Gl X x) (ha : PA X (e :: es) t) (hkw : PK X kws tk)
    (hall : (backToKw pos (keywordEach kws X.env)).all (·.1.isSome) = true := by rfl) (hks : (backToKw pos (keywordEach kws X.env)).filterMap (·.1) = ks := by rfl) (hdb : (x == ("__debug__" : Str)) = false := by decide)
    (he : starEach (e :: es) X.env = (false, eval e X.env) :: starEach es X.env := by rfl) (hpl : ((backTo pos (starEach (e :: es) X.env)).any (·.1) || (backToKw pos (keywordEach kws X.env)).any (·.1.isNone)) = false := by rfl) :
    PE X (.Call (.Name x p) (e :: es) kws pos) (tMakeK C n ks.length sp (fun vs zs => g vs dvs zs) E t tk) := by
  obtain ⟨f, fd, F, M, hm, G⟩ := c.ex
  obtain ⟨its, hb⟩ := F.kbindsD (n + 1) ks g hd b.rel b.bind
  exact pe_makeK M G (hr.mono hk) hg hm hb hx ha hkw hall hks hdb he hpl
end
end MM
namespace MM
open PySem PySem.Spec PyProof.Rows L2
/-! ### range(a, b) of numbers of any size -/
theorem turn_long {P : Program} {w : World} {K : PySem.W.Frag} {tg : Expr} (it : Addr) (lo : Int) (n : Nat) : Turn P w K tg (Itr lo n) [it] it (fun i h => IsLongIter h it (lo + (i : Nat) * 1) ((n : Int) - (i : Nat)) 1) := by
  refine { mem := List.mem_singleton.mpr rfl, obj := fun i h st b hb => ?_, keep := fun i h h' st k => k it (List.mem_singleton.mpr rfl) _ st, item := ?_, done := ?_, self := fun _ _ _ _ _ st h => wpAny_pyIter_longiter st h }
  · cases List.mem_singleton.mp hb
    exact ⟨_, st, fun v z => nomatch (show Data.fields _ = Data.cell v from z)⟩
  · intro X hP hw hK hc i pins s σ H E I hf st hg
    subst hP; subst hw; subst hK
    obtain ⟨f0, f1, f2, f3, f4, f5⟩ := hf it (List.mem_singleton.mpr rfl)
    refine (Walks.longrange (prog := X.prog) (w := X.w) (I.ok.hd hc) it lo 1 n).item i s _ _ hg st fun v h' tk hv st' kk => ?_
    obtain ⟨t, rfl⟩ := hv
    have J : Inv X pins σ H { s with heap := h', toks := tk } := I.turned (fun b o hb e => kk b o (fun z => hb (List.mem_singleton.mp z)) e) f0 f1 f3 f4 f5
    refine ⟨_, rfl, go_of (s := { s with heap := h', toks := tk }) (n := "longrange_iterator") st' rfl rfl (by decide) ⟨.int (lo + i), H, J, ⟨t, ?_⟩, ⟨rfl, rfl⟩, st', fun b hb => (hf b hb).1⟩⟩
    rw [Int.mul_one]
  · intro X hP hw hK hc i pins s σ H E I hf st hg
    subst hP; subst hw; subst hK
    obtain ⟨f0, f1, f2, f3, f4, f5⟩ := hf it (List.mem_singleton.mpr rfl)
    have hl : n ≤ i := hg
    exact wpAny_pyNext_long_end (I.ok.hd hc) st (by omega) fun h' eb => ⟨rfl, I.turned (t' := s.toks) (fun b o hb e => eb b o hb e) f0 f1 f3 f4 f5⟩
section
variable {X : Cx} {tg : Expr}
theorem long_it {pins : List (Addr × Obj)} {σ : L2.St} {H : Hp} {s : Shared} {R : It → Hp → Prop} {E : Value → Shared → Prop} {lo hi : Int} {t u v : Tok} {tk : Nat} (I : Inv X pins σ H s) (q : R (Itr lo (hi - lo).toNat) H) :
    wpAny (model X.prog X.w) X.A (pyIter (.ref s.heap.objs.size)) (PIE X pins σ tg R) E { s with heap := s.heap.push { cls := .type "range", data := .fields #[.int lo t, .int hi u, .int 1 v] }, toks := tk } := by
  have J : Inv X pins σ H { s with heap := s.heap.push { cls := .type "range", data := .fields #[.int lo t, .int hi u, .int 1 v] }, toks := tk } := I.kept fun b o e => Heap.get?_push_of_some _ e
  have e0 : lo + ((0 : Nat) : Int) * 1 = lo := by simp
  have e1 : (((hi - lo).toNat : Nat) : Int) - ((0 : Nat) : Int) = Builtin.Range.rangeSize lo hi 1 := by
    rw [rangeSize_one]
    split <;> omega
  cases hsm : Builtin.Range.small lo hi 1 with
  | true =>
    refine wpAny_pyIter_range (IsRange.new ..) hsm ⟨_, [_], _, _, H, rfl, J.kept (t' := tk) fun b o e => Heap.get?_push_of_some _ e, turn_range _ lo (hi - lo).toNat, ?_, fun b hb => ?_, q⟩
    · show IsRangeIter _ _ (lo + ((0 : Nat) : Int) * 1) ((((hi - lo).toNat : Nat) : Int) - ((0 : Nat) : Int)) 1
      rw [e0, e1]
      exact Heap.get?_push_size _ rfl
    · cases List.mem_singleton.mp hb
      exact J.fpOk (Nat.le_refl _) (J.hok.fresh (Nat.le_refl _))
  | false =>
    refine wpAny_pyIter_longrange (IsRange.new ..) hsm ⟨_, [_], _, _, H, rfl, J.kept (t' := tk) fun b o e => Heap.get?_push_of_some _ e, turn_long _ lo (hi - lo).toNat, ?_, fun b hb => ?_, q⟩
    · show IsLongIter _ _ (lo + ((0 : Nat) : Int) * 1) ((((hi - lo).toNat : Nat) : Int) - ((0 : Nat) : Int)) 1
      rw [e0, e1]
      exact Heap.get?_push_size _ rfl
    · cases List.mem_singleton.mp hb
      exact J.fpOk (Nat.le_refl _) (J.hok.fresh (Nat.le_refl _))
def iRngA (ta : TA) : TI := fun σ H R => ta σ H fun vs H1 => ∃ i j : Int, vs = [.int i, .int j] ∧ R (Itr i (j - i).toNat) H1
theorem pi_rangeA {a b : Expr} {ta : TA} {p pos : Pos} (hg : Gl X "range") (hm : X.mg "range" = none) (ha : PA X [a, b] ta) (hs : starEach [a, b] X.env = [(false, eval a X.env), (false, eval b X.env)] := by rfl) (hs2 : starEach [b] X.env = [(false, eval b X.env)] := by rfl) :
    PI X tg (.Call (.Name "range" p) [a, b] [] pos) (iRngA ta) := by
  refine ⟨fun pins s σ H R I h => Call_ (ld_blt I hg hm boot_range (PyProof.Rows.callWith_type1 (thn (ha.run pos pins s σ H _ I h) fun us s1 ⟨vs, H1, I1, r1, q1⟩ => ?_) (by rw [hs, hs2]) (by rw [hs2]; rfl)))⟩
  obtain ⟨i, j, e, q⟩ := q1
  subst e
  obtain ⟨u1, u2, rfl, ⟨t, rfl⟩, ⟨t', rfl⟩⟩ := vals2 r1
  exact call_range_2 (long_it I1 q)
end
end MM
namespace MM
open PySem PySem.Spec PyProof.Rows L2
section
variable {K : PySem.W.Frag} {h : Heap} {mg : Str → Option Value} {x m qual : Str} {st : Stmt} {f C T : Addr} {oc kV doc pm cdv ct cT : Value} {od an dT : Option Addr} {osl sT : Array (Option Value)} {nT : Nat}
theorem df_mk (X : K.In h) (G : h.Ns mainGlobals mg) (a : PySem.W.nsIn K mainGlobals x = some (some (.ref f))) (l : K.lookup f = some ⟨oc, od, .func (PySem.W.fnOf x x (defArgs st) (defBody st) (defScope st) .none kV doc pm an cdv ct), osl⟩)
    (c : PySem.W.codeIn K cdv x = true) (k : PySem.W.keepIn K (.ref f) = true) : Df K mg x st [] :=
  ⟨f, _, ⟨⟨oc, od, .none, kV, doc, pm, an, cdv, ct, osl, rfl, l, c, .inl ⟨rfl, rfl⟩, .inl rfl⟩, k⟩, PySem.W.mg_of X G a⟩
theorem dm_mk (cl : Cls K C) (a : PySem.W.findIn K (.ref C) m = some (some (.ref f))) (i : PySem.W.isFn K (.ref f) = true) (l : K.lookup f = some ⟨oc, od, .func (PySem.W.fnOf m qual (defArgs st) (defBody st) (defScope st) .none kV doc pm an cdv ct), osl⟩)
    (c : PySem.W.codeIn K cdv qual = true) (k : PySem.W.keepIn K (.ref f) = true) : Dm K C m qual st :=
  ⟨f, _, ⟨⟨oc, od, .none, kV, doc, pm, an, cdv, ct, osl, rfl, l, c, .inl ⟨rfl, rfl⟩, .inl rfl⟩, k⟩, ⟨a, i, k⟩, cl⟩
theorem di_mk {its : List Value} {dvs : List V} (hC : mg x = some (.ref C)) (a : PySem.W.findIn K (.ref C) "__init__" = some (some (.ref f))) (i : PySem.W.isFn K (.ref f) = true)
    (l : K.lookup f = some ⟨oc, od, .func (PySem.W.fnOf "__init__" qual (defArgs st) (defBody st) (defScope st) (.ref T) kV doc pm an cdv ct), osl⟩) (c : PySem.W.codeIn K cdv qual = true) (k : PySem.W.keepIn K (.ref f) = true)
    (mk : PySem.W.makesIn K C = true) (kc : PySem.W.keepIn K (.ref C) = true) {oT : Obj} (lT : K.lookup T = some oT) (eT : oT.data = .seq its.toArray nT) (r : Vals dvs its) (ne : dvs ≠ []) : Di K mg x C qual st dvs :=
  ⟨f, _, ⟨⟨oc, od, .ref T, kV, doc, pm, an, cdv, ct, osl, rfl, l, c, .inr ⟨ne, T, _, its, nT, rfl, lT, eT, r⟩, .inl rfl⟩, k⟩, ⟨mk, a, i, kc⟩, hC⟩
theorem kit_no {t : Value} (iC : PySem.W.isClsIn K C = true) (tC : PySem.W.typeIn K (.ref C) = some (.type "type")) (ht : (t == Value.ref C) = false) (sI : PySem.W.subIn K t (.ref C) = some false) : PySem.W.kitOne K t (.ref C) = some false := by
  unfold PySem.W.kitOne PySem.W.kitCls
  have iC' : (PySem.W.clsIn K C).isSome = true := iC
  rw [ht, if_neg Bool.false_ne_true]
  show (if ((PySem.W.clsIn K C).isSome && PySem.W.typeIn K (.ref C) == some (.type "type")) = true then PySem.W.subIn K t (.ref C) else none) = some false
  rw [iC', tC, if_pos (by simp)]
  exact sI
theorem fund_inj {params : Arguments} {body : List Stmt} {scope : Scope} {dvs : List V} {kws : List (Str × V)} {fd fd' : FuncData} (F : FunD K x qual params body scope dvs kws f fd) (F' : FunD K x qual params body scope dvs kws f fd') : fd = fd' := by
  obtain ⟨oc, od, dV, kV, doc, pm, an, cdv, ct, osl, e, lk, _⟩ := F.ex
  obtain ⟨oc', od', dV', kV', doc', pm', an', cdv', ct', osl', e', lk', _⟩ := F'.ex
  rw [lk] at lk'
  injection lk' with z
  injection z with z1 z2 z3 z4
  injection z3
end
/-- from the law's promise to what the end of the walk asks -/
theorem fin_of {P : Program} {w : World} {K : PySem.W.Frag} {mg : Str → Option Value} {st : Stmt} {k : Nat} {x : Str} {sp : Sp} {fa : Addr} (hfa : mg "law" = some (.ref fa)) (D : Df K mg "law" st []) (b : Bd "law" "law" st [x])
    (h : ∀ base : Heap, Ca P w K mg base CX0 k "law" st [] [x] sp) :
    ∃ fd : FuncData, (∀ (s : Shared) (u : Value), BindsTo s fd ⟨[u], []⟩ [(x, u)]) ∧ ∀ base : Heap, K.In base → base.Ns mainGlobals mg → FnOk P w K mg base CX0 k fa fd [x] sp := by
  obtain ⟨f, fd, F, hm⟩ := D.ex
  have e := hfa.symm.trans hm
  cases e
  refine ⟨fd, fun s u => ?_, fun base _ _ => ?_⟩
  · obtain ⟨kV, doc, pm, an, cdv, ct, rfl⟩ := FunD.none F
    exact .of_eq (b kV doc pm an cdv ct [u] rfl)
  · obtain ⟨f', fd', F', hm', G⟩ := (h base).ex
    have e' := hm.symm.trans hm'
    cases e'
    have e2 := fund_inj F F'
    subst e2
    exact G
end MM
namespace MM
open PySem PySem.Spec PyProof.Rows L2
/-! ### an except clause with a tuple of classes -/
theorem for_true {M : Model} {A : Around} {E : Value → Shared → Prop} {s : Shared} {Q : PUnit → Shared → Prop} {f : Value → PUnit → Sem (ForInStep PUnit)} : ∀ (cs : List Value),
    (∀ c ∈ cs, ∀ Q' : ForInStep PUnit → Shared → Prop, Q' (.yield .unit) s → wpAny M A (f c .unit) Q' E s) → Q .unit s → wpAny M A (forIn cs PUnit.unit f) Q E s
  | [], _, q => by
    rw [List.forIn_nil]
    exact wpAny_pure q
  | c :: cs, h, q => by
    rw [List.forIn_cons]
    exact wpAny_bind (h c List.mem_cons_self _ (for_true cs (fun d hd => h d (List.mem_cons_of_mem _ hd)) q))
theorem for_first {M : Model} {A : Around} {E : Value → Shared → Prop} {s : Shared} {Q : Option Bool × Unit → Shared → Prop} {f : Value → Option Bool × Unit → Sem (ForInStep (Option Bool × Unit))} {B : Value → Bool} : ∀ (cs : List Value),
    (∀ c ∈ cs, ∀ Q' : ForInStep (Option Bool × Unit) → Shared → Prop, Q' (if B c then .done (some true, ()) else .yield (none, ())) s → wpAny M A (f c (none, ())) Q' E s) →
    Q (if cs.any B then (some true, ()) else (none, ())) s → wpAny M A (forIn cs ((none, ()) : Option Bool × Unit) f) Q E s
  | [], _, q => by
    rw [List.forIn_nil]
    exact wpAny_pure q
  | c :: cs, h, q => by
    rw [List.forIn_cons]
    refine wpAny_bind (h c List.mem_cons_self _ ?_)
    cases hb : B c with
    | true =>
      rw [List.any_cons, hb, Bool.true_or] at q
      exact wpAny_pure q
    | false =>
      rw [List.any_cons, hb, Bool.false_or] at q
      exact for_first cs (fun d hd => h d (List.mem_cons_of_mem _ hd)) q
theorem exm_tups {M : Model} {K : PySem.W.Frag} {cls : Value} {cs : List Value} {tp e : Addr} {h : Heap} {o : Obj} {n : Nat} {B : Value → Bool} (X : K.In h) (LT : PySem.W.Looks M h (typeOf (.ref e)) cls) (hp : h.get? tp = some o) (hc : o.cls = .type "tuple") (hd : o.data = .seq cs.toArray n)
    (hx : ∀ c ∈ cs, PySem.W.exmOne K cls c = some (B c)) : PySem.W.Looks M h (excMatches (.ref e) (.ref tp)) (cs.any B) := by
  intro A Q E s k q
  have LT0 : PySem.W.Looks M h (isInstance (.ref tp) (.type "tuple")) true := by
    refine PySem.W.Looks.andThen (a := .type "tuple") (fun A Q E s k q => wpAny_typeOf_ref (k _ _ hp) (by rw [hc]; exact q)) (PySem.W.Looks.of_pure isSubtype_tuple_tuple)
  unfold excMatches
  refine wpAny_bind ((LT0.keeps k).here ?_)
  dsimp only
  rw [if_pos rfl]
  refine wpAny_bind (wpAny_seqItems (k _ _ hp) hd (wpAny_bind (wpAny_pure ?_)))
  show wpAny M A (forIn cs PUnit.unit _ >>= _) _ _ _
  refine wpAny_bind (for_true cs (fun c hcm Q' q' => ?_) ?_)
  · refine wpAny_bind (((PySem.W.exm_cls (M := M) X (hx c hcm)).1.keeps k).here ?_)
    rw [if_neg (by decide)]
    exact wpAny_pure q'
  · refine wpAny_bind ((LT.keeps k).here (wpAny_bind (for_first (B := B) cs (fun c hcm Q' q' => ?_) ?_)))
    · refine wpAny_bind (((PySem.W.exm_cls (M := M) X (hx c hcm)).2.keeps k).here ?_)
      cases hb : B c with
      | true =>
        rw [hb] at q'
        rw [if_pos rfl]
        exact wpAny_pure q'
      | false =>
        rw [hb] at q'
        rw [if_neg (by decide)]
        exact wpAny_pure q'
    · cases hb : cs.any B with
      | true =>
        rw [hb] at q
        exact wpAny_pure q
      | false =>
        rw [hb] at q
        exact wpAny_pure q
/-! ### a caught exception that is kept -/
/-- at a: an exception of the class cls, its own dict at d -/
def KX (a : Addr) (cls : Value) (d : Option Addr) : HO := .ext fun h => ∃ (oe : Obj) (vs : Array Value), h.get? a = some oe ∧ Zc cls d oe ∧ oe.data = .fields vs
theorem kx_ok {P : Program} {w : World} {H : Hp} {h : Heap} {a : Addr} {cls : Value} {d : Option Addr} {oe : Obj} {vs : Array Value} (e : h.get? a = some oe) (z : Zc cls d oe) (hd : oe.data = .fields vs) : ObjOk P w H h a (KX a cls d) :=
  ⟨⟨oe, vs, e, z, hd⟩, ⟨oe, e⟩, fun h1 h2 ⟨o, v, e1, z1, d1⟩ k => ⟨o, v, k _ e1, z1, d1⟩⟩
section
variable {X : Cx} {pins : List (Addr × Obj)} {σ : L2.St} {H : Hp} {s : Shared} {a : Addr} {oe : Obj} {vs : Array Value} {cls : Value} {d : Option Addr}
theorem Inv.track (I : Inv X pins σ H s) (ha : s.heap.get? a = some oe) (hz : Zc cls d oe) (hd : oe.data = .fields vs) (na : H a = none) (n0 : X.s_0.heap.get? a = none) (nL : a ≠ X.env.locals) (nC : ∀ x c, X.env.cells.lookup x = some c → c ≠ a)
    (nP : ∀ p ∈ X.pn ++ pins, p.1 ≠ a) : Inv X pins σ (L2.upd H a (KX a cls d)) s := by
  have neA : ∀ {b : Addr} {o : HO}, H b = some o → b ≠ a := fun e => ne_of_none e na
  have ne0 : ∀ {b : Addr} {o : Obj}, X.s_0.heap.get? b = some o → b ≠ a := fun e z => by
    rw [z, n0] at e
    cases e
  refine ⟨I.ok, I.os, I.bare, ⟨I.base.keep, I.base.slot, fun b o e n hx => ?_, I.base.there, fun b xs e => ?_, fun b o u e => ?_, fun b ps e => ?_⟩, I.loc, I.cell, ?_, fun x c e => ?_, fun p hp => ?_, fun b u e => ?_, I.len⟩
  · rw [upd_ne (ne0 e)]
    exact I.base.free b o e n hx
  · have q := I.base.tups b xs e
    rw [upd_ne (neA q)]
    exact q
  · have q := I.base.frzs b o u e
    rw [upd_ne (neA q)]
    exact q
  · obtain ⟨m, q⟩ := I.base.tbls b ps e
    exact ⟨m, by rw [upd_ne (neA q)]; exact q⟩
  · rw [upd_ne nL.symm]
    exact I.free
  · rw [upd_ne (nC x c e)]
    exact I.freeC x c e
  · obtain ⟨q1, q2, q3⟩ := I.pin p hp
    exact ⟨q1, by rw [upd_ne (nP p hp)]; exact q2, q3⟩
  · by_cases hb : b = a
    · subst hb
      rw [upd_same] at e
      cases e
      exact kx_ok ha hz hd
    · rw [upd_ne hb] at e
      exact (I.hok b u e).stay (fun c v _ q => q) (fun c q => by rw [upd_ne (neA q)]; exact q) fun c xs q => by rw [upd_ne (neA q)]; exact q
end
theorem flying_more {B h h' : Heap} {l : List Env} {e : Addr} {Z : Obj → Prop} (x : HandSPX.FlyingZ B l e Z h) (k : ∀ b o, h.get? b = some o → h'.get? b = some o) : HandSPX.FlyingZ B l e Z h' := by
  obtain ⟨f1, f2, f3, oe, vs, T, oT, ts, he, hz, hd, h1, hnT, hTe, hT, hdT, h3⟩ := x
  exact ⟨fun b o q => k b o (f1 b o q), f2, f3.of_keeps fun b o hb _ => ⟨o, k b o hb, rfl⟩, oe, vs, T, oT, ts, k _ _ he, hz, hd, h1, hnT, hTe, k _ _ hT, hdT, h3⟩
/-- the names of a tuple of classes -/
inductive Nms (X : Cx) : List Expr → List Value → Prop
  | nil : Nms X [] []
  | cons {x : Str} {p : Pos} {c : Value} {es : List Expr} {cs : List Value} (g : Gl X x) (d : (x == ("__debug__" : Str)) = false) (m : X.mg x = some c) (r : Nms X es cs) : Nms X (.Name x p :: es) (c :: cs)
/-- what try .. except (..) as n: m = n wishes of an exception of the body: i is n's slot, j m's -/
def wKeep (K : PySem.W.Frag) (cs : List Value) (i j : Nat) (D : Ends) : WX := fun cls d σ H =>
  (∃ B : Value → Bool, (∀ c ∈ cs, PySem.W.exmOne K cls c = some (B c)) ∧ cs.any B = true) ∧ ∀ a, H a = none → D.nx (((σ.set i (some (.ref a))).set j (some (.ref a))).set i none) (L2.upd H a (KX a cls d))
section
variable {X : Cx} {cs : List Value} {es : List Expr} {n m : Str} {i j : Nat} {body : List Stmt} {kt : Nat} {tpos np mp apos pos pos' : Pos} {tb : WX → TS}
theorem nms_run {Y : Cx} {pins : List (Addr × Obj)} {σ : L2.St} {H : Hp} {s : Shared} (I : Inv Y pins σ H s) {es : List Expr} {cs : List Value} (h : Nms Y es cs) : ∀ {Q : List Value → Shared → Prop} {E : Value → Shared → Prop} {pos : Pos}, Q cs s →
    wpAny (model Y.prog Y.w) Y.A (spliced (backTo pos (starEach es Y.env))) Q E s := by
  induction h with
  | nil => exact fun q => wpAny_items_nil q
  | cons g d m r ih => exact fun q => wpAny_items_cons (ld_glob I g m (ih q) d)
theorem Nms.to {X Y : Cx} (he : Y.env = X.env) (hm : Y.mg = X.mg) {es : List Expr} {cs : List Value} (h : Nms X es cs) : Nms Y es cs := by
  induction h with
  | nil => exact .nil
  | cons g d m r ih => exact .cons (by unfold Gl; rw [he]; exact g) d (by rw [hm]; exact m) ih
/-- try: body / except (..) as n: m = n; nothing else leaves the body -/
theorem ps_try_keep (hs : X.stack = X.env :: X.outer) (hf : X.env.frame = some X.env.locals) (hex : X.ex = []) (hN : X.N.Nodup) (hi : X.N[i]? = some n) (hln : X.env.kindOf n = some .local) (hj : X.N[j]? = some m) (hlm : X.env.kindOf m = some .local) (hc : Nms X es cs) (hz : cs.length ≤ 100)
    (hdb : (n == ("__debug__" : Str)) = false := by decide) (hcd : (n == ("__classdict__" : Str)) = false := by decide)
    (hb : ∀ (W : WX) (pn : List (Addr × Obj)) (xe : Value → Shared → Prop), Takes (X.tr pn xe) W → PassesOwn (model X.prog X.w) X.A X.env xe → PSs (X.tr pn xe) body (tb W))
    (hsw : swapsWith (.Name n np) (some (.Name m mp)) apos.line X.env = pure false := by rfl) :
    PS X (.Try body [.ExceptHandler (some (.Tuple es kt tpos)) (some n) [.Assign [.Name m mp] (.Name n np) apos] pos'] [] [] pos) (fun D σ H => tb (wKeep X.K cs i j D) D σ H) := by
  refine ⟨fun pins s σ H D I h => ?_⟩
  have ok := I.ok
  have hfr : X.A.frames = some (X.env :: X.outer) := by rw [ok.frames, hs]
  refine wpAny_Try_except ?_
  refine wpAny_mono ((hb (wKeep X.K cs i j D) (X.pn ++ pins) (fun e s₁ => wpAny (model X.prog X.w) X.A (noteFrame e X.env) (fun _ s₂ => wpAny (model X.prog X.w) X.A (setFlight e none) (fun _ s₃ =>
    wpAny (model X.prog X.w) X.A (handleBy e X.env [.ExceptHandler (some (.Tuple es kt tpos)) (some n) [.Assign [.Name m mp] (.Name n np) apos] pos']) (SP X pins D) X.xe s₃) X.xe s₂) X.xe s₁) (fun u s' xx => ?_) PassesOwn.looking).run [] s σ H D (I.toTry _) h) (fun f s1 hsp => ?_) (fun e s1 he => he)
  · obtain ⟨a, B, sI, pins', σ', H', cls, d, rfl, J', nb, up, sky, na, os, ag, ⟨Bc, hB, hany⟩, wish⟩ := xx
    have J : Inv X pins σ' H' sI := J'.ofTry ok
    have sky' : Sky B (X.env :: X.outer) a (Zc cls d) X.env.locals s'.heap := by rw [← hs]; exact sky
    show wpAny (model X.prog X.w) X.A (noteFrame (.ref a) X.env) _ _ _
    refine Sky.land Zc.steady hfr hf sky' fun h3 fl3 up3 => ?_
    have J3 : Inv X pins σ' H' { s' with heap := h3 } := J.landed nb fl3.1 (up.trans up3) os ag
    obtain ⟨oe3, vs3, he3, hz3, hd3⟩ := fl3.there
    have nfr : a ∉ frs (X.env :: X.outer) := fun hm => by
      obtain ⟨_, o', e', hnf⟩ := fl3.2.2.1.mem hm
      rw [he3] at e'
      cases e'
      exact hnf _ hd3
    have nL : a ≠ X.env.locals := fun z => nfr (List.mem_filterMap.mpr ⟨X.env, List.mem_cons_self, by rw [hf, z]⟩)
    have nF : a ∉ X.fs := fun hm => by
      obtain ⟨e, he, q⟩ := List.mem_filterMap.mp hm
      exact nfr (List.mem_filterMap.mpr ⟨e, List.mem_cons_of_mem _ he, q⟩)
    have nI : sI.heap.get? a = none := by
      cases q : sI.heap.get? a with
      | none => rfl
      | some o =>
        have z := nb a o q (by rw [hs]; exact nfr)
        rw [fl3.2.1] at z
        cases z
    have n0 : X.s_0.heap.get? a = none := by
      cases q : X.s_0.heap.get? a with
      | none => rfl
      | some o =>
        obtain ⟨o', z⟩ := J.base.there a o q (by rw [hex]; exact fun y => nomatch y)
        rw [nI] at z
        cases z
    have nC : ∀ x c, X.env.cells.lookup x = some c → c ≠ a := fun x c e z => by
      obtain ⟨v, o, ho, _⟩ := J.cell x c e
      rw [z, nI] at ho
      cases ho
    have nP : ∀ p ∈ X.pn ++ pins, p.1 ≠ a := fun p hp z => by
      have q := (J.pin p hp).1
      rw [z, nI] at q
      cases q
    have S3 := J3.suite he3 hd3 na nL nF
    refine wpAny_handleBy_cons (codeAny_handlers_test ?_) (by intro q; cases q)
    refine wpAny_Tuple (nms_run (Y := X.suite a ((a, oe3) :: (X.pn ++ pins))) S3 (Nms.to (X := X) (Y := X.suite a ((a, oe3) :: (X.pn ++ pins))) rfl rfl hc) ⟨Nat.le_trans hz (by decide), ?_⟩)
    have kp : ∀ b o, h3.get? b = some o → (h3.push { cls := .type "tuple", data := .seq cs.toArray }).get? b = some o := fun b o e => Heap.get?_push_of_some _ e
    have LT : PySem.W.Looks (model X.prog X.w) (h3.push { cls := .type "tuple", data := .seq cs.toArray }) (typeOf (.ref a)) cls := fun A Q E s k q => wpAny_typeOf_ref (k _ _ (kp _ _ he3)) (by rw [hz3.1]; exact q)
    have LM := exm_tups (M := model X.prog X.w) (J3.kIn.keeps kp) LT (Heap.get?_push_size h3 rfl) rfl rfl hB
    rw [hany] at LM
    refine LM.here ?_
    refine codeAny_handlers_suite_as ?_
    have fl3' := flying_more fl3 kp
    refine HandSPX.lands_againZ fl3' fun h4 fl4 up4 => ?_
    have upp : h3.UpToSlots (h3.push { cls := .type "tuple", data := .seq cs.toArray }) := fun b o hb _ => ⟨o.slots, kp b o hb⟩
    have J4 : Inv X pins σ' H' { s' with heap := h4 } := J.landed nb fl4.1 (((up.trans up3).trans upp).trans up4) os ag
    obtain ⟨oe4, vs4, he4, hz4, hd4⟩ := fl4.there
    have S4 := J4.suite he4 hd4 na nL nF
    refine store_ok (X := X.suite a ((a, oe4) :: (X.pn ++ pins))) (v := .ref a) S4 hN hi (.inl hln) rfl (fun s5 S5 => ?_) (.inr hln)
    have rd : PSs (X.suite a ((a, oe4) :: (X.pn ++ pins))) [.Assign [.Name m mp] (.Name n np) apos] (tAsg (tVar i) (gName j)) := pss_one (ps_set hN hj (.inl hlm) (pe_var hi (.inl hln) hdb hcd) hsw (.inr hlm))
    refine wpAny_mono (rd.run [] s5 _ H' { nx := fun σ6 H6 => σ6 = (σ'.set i (some (.ref a))).set j (some (.ref a)) ∧ H6 = H', rt := fun _ _ => False } S5 ⟨_, ?_, rfl, rfl⟩) (fun f s6 hsp => ?_) (fun _ _ z => False.elim z)
    · exact List.getElem?_set_self (by rw [J.len]; exact (List.getElem?_eq_some_iff.mp hi).1)
    · cases f with
      | next =>
        obtain ⟨σ6, H6, S6, rfl, rfl⟩ := hsp
        obtain ⟨p1, p2, _⟩ := S6.pin (a, oe4) (List.mem_append_left _ List.mem_cons_self)
        have J6 := Inv.track (S6.unsuite ok) p1 hz4 hd4 na n0 nL nC nP
        exact gone_ok J6 hN hi hln fun s7 J7 => ⟨_, _, J7, wish a na⟩
      | brk =>
        obtain ⟨_, _, _, z⟩ := hsp
        exact z.elim
      | cont =>
        obtain ⟨_, _, _, z⟩ := hsp
        exact z.elim
      | ret u =>
        obtain ⟨_, _, _, _, _, z⟩ := hsp
        exact z.elim
  · cases f with
    | next =>
      obtain ⟨σ1, H1, J1, q⟩ := hsp
      exact wpAny_execs_nil ⟨σ1, H1, J1.ofTry ok, q⟩
    | brk =>
      obtain ⟨σ1, H1, J1, q⟩ := hsp
      exact ⟨σ1, H1, J1.ofTry ok, q⟩
    | cont =>
      obtain ⟨σ1, H1, J1, q⟩ := hsp
      exact ⟨σ1, H1, J1.ofTry ok, q⟩
    | ret u =>
      obtain ⟨v1, σ1, H1, J1, r1, q⟩ := hsp
      exact ⟨v1, σ1, H1, J1.ofTry ok, r1, q⟩
end
end MM
namespace MM
open PySem PySem.Spec PySem.Calls PyProof.Rows L2
/-! ### a kept exception is asked for its class -/
/-- what the class D says, so that its instances may be asked -/
structure XcF (K : PySem.W.Frag) (D : Addr) : Prop where
  ga : PySem.W.findIn K (.ref D) "__getattribute__" = some (some (.builtin "BaseException.__getattribute__"))
  gg : PySem.W.findIn K (.ref D) "__getattr__" = some none
  sub : PySem.W.subIn K (.ref D) (.type "BaseException") = some true
  hd : PySem.W.hasDictIn K D = true
  ca : PySem.W.findIn K (.ref D) "__class__" = some (some (.builtin "object.__class__"))
  gn : PySem.W.specialIn K (.builtin "object.__class__") "__get__" = some (some (.builtin "getset_descriptor.__get__"))
  tk : PySem.W.takesIn K (.builtin "object.__class__") = some true
  mo : PySem.W.mroIn K D (.type "object") = some true
section
open PySem.W
variable {prog : Program} {w : World} {A : Around} {E : Value → Shared → Prop} {s : Shared} {K : Frag} {x D : Addr} {ox : Obj} {od : Option Obj}
theorem found_class (C : XcF K D) : findObj K D od "__class__" = some (.bind (.builtin "getset_descriptor.__get__") (.builtin "object.__class__")) := by
  obtain ⟨cd, hc, _⟩ := any_some C.hd
  unfold findObj
  rw [hc, Option.bind_some, C.ca, Option.bind_some]
  simp [C.gn, C.tk]
theorem class_exc {Q : Option Value → Shared → Prop} (C : XcF K D) (X : K.In s.heap) (I : InstAt s.heap x ox D od) (h : Q (some (.ref D)) { s with toks := s.toks + 1 }) : wpAny (model prog w) A (getAttr? (.ref x) "__class__") Q E s := by
  obtain ⟨hp, g, d, t, os⟩ := s
  have l0 := I.type (M := model prog w)
  have l1 := looks_findIn (M := model prog w) X C.ga
  have l2 := looks_findIn (M := model prog w) X C.gg
  have l3 := looks_find (M := model prog w) X I (found_class C)
  have isB : Looks (model prog w) hp (isInstance (.ref x) (.type "BaseException")) true := l0.andThen (looks_subIn X C.sub)
  have n2 : (Value.builtin "BaseException.__getattribute__" == Value.builtin "object.__getattribute__") = false := by decide +kernel
  unfold getAttr? getAttrBy? getAttrBy
  refine wpAny_bind (wpAny_mkText (wpAny_bind (wpAny_attempt (wpAny_holding (wpAny_bind (l0.at (wpAny_bind (l1.at (?_ : wpAny _ _ (if (onTheHeap (Value.ref D) && Value.builtin "BaseException.__getattribute__" == Value.builtin "object.__getattribute__") = true then _ else _) _ _ _)))))))))
  rw [show (onTheHeap (Value.ref D) && Value.builtin "BaseException.__getattribute__" == Value.builtin "object.__getattribute__") = false by rw [n2]; rfl, if_neg Bool.false_ne_true]
  unfold getAttrByItsOwn hookBefore
  refine wpAny_bind ?_
  rw [if_pos (show onTheHeap (Value.ref D) = true from rfl)]
  refine l2.at (wpAny_bind (wpAny_attempt (wpAny_holding ?_)))
  unfold callGetattribute
  rw [show (false && onTheHeap (Value.builtin "BaseException.__getattribute__")) = false from rfl, if_neg Bool.false_ne_true]
  unfold boundAndCalled
  rw [PySem.F.excAttr_ValueError.ga.bind (.ref x)]
  refine wpAny_bind (wpAny_pure (?_ : wpAny _ _ (call (.builtin "BaseException.__getattribute__") [.ref x, .str "__class__" t]) _ _ _))
  refine wpAny_call (codeAny_call_builtin PySem.F.excAttr_ValueError.ga.plain PySem.F.entry_bexc_ga (@check_slot (model prog w) _ _ ⟨hp, g, d, t + 1, os⟩ "BaseException.__getattribute__" "BaseException" "__getattribute__" (.ref x) [.str "__class__" t] [] _ (by decide +kernel) (by decide +kernel) isB (PySem.F.args_bexc_ga (.ref x) (.str "__class__" t)) ?_))
  unfold Builtin.«object.__getattribute__»
  refine wpAny_bind (wpAny_of_eq (a := ((Value.ref x : Value), [Value.str "__class__" t])) (by first | rfl | (simp only [slotArgs]; rfl)) (wpAny_bind (wpAny_pure (wpAny_bind (l0.at (wpAny_bind (l3.at
    (?_ : wpAny _ _ (holding [Value.builtin "object.__class__"] (call (.builtin "getset_descriptor.__get__") [.builtin "object.__class__", .ref x, .ref D]) >>= ret) _ _ _))))))))
  refine wpAny_bind (wpAny_holding (wpAny_call (class_get (s := ⟨hp, g, d, t + 1, os⟩) (ox := ox) (od := od) X I C.mo (wpAny_pure (?_ : wpAny _ _ (handedOut (.ref D)) _ _ _)))))
  rw [handedOut_of (v := .ref D) rfl]
  first
    | exact wpAny_pure (wpAny_pure h)
    | exact wpAny_pure h
    | exact wpAny_pure (wpAny_bind (wpAny_pure (wpAny_pure h)))
theorem kitx_kept (C : XcF K D) : KitX K (.ref x) (.ref D) (fun h => ∃ (ox : Obj) (od : Option Obj), InstAt h x ox D od) := by
  obtain ⟨cd, hc, _⟩ := any_some C.hd
  unfold clsIn at hc
  split at hc
  · rename_i c' d' cd' sl' ho
    refine { ty := fun _ _ _ ⟨_, _, I⟩ => I.type, it := fun _ _ X _ A' Q' E' s' k q => ?_, ne := fun h tp dd its n sl X htp => Bool.eq_false_iff.mpr fun q => ?_, ca := fun X ⟨_, _, I⟩ k => class_exc C X I k }
    · unfold isType loadHead
      exact wpAny_bind (wpAny_loadPart (k _ _ (X _ _ ho)) (wpAny_pure q))
    · have e : D = tp := Value.ref.inj (beq_iff_eq.mp q)
      subst e
      cases (X _ _ ho).symm.trans htp
  · cases hc
end
section
variable {X : Cx} {a D : Addr} {d : Option Addr} {oD : Addr}
theorem kept_inst {pins : List (Addr × Obj)} {σ : L2.St} {H : Hp} {s : Shared} {fs : List (Str × V)} (I : Inv X pins σ H s) (ha : H a = some (KX a (.ref D) (some oD))) (hd : H oD = some (.xd fs)) :
    ∃ (ox : Obj) (od : Obj) (mA : Str → Option Value), PySem.W.InstAt s.heap a ox D (some od) ∧ s.heap.Ns1 oD mA ∧ (∀ f, RelO (fs.lookup f) (mA f)) ∧ ∀ n, PySem.W.lookIn n od = some (mA n) := by
  have x1 : ObjOk X.prog X.w H s.heap a (KX a (.ref D) (some oD)) := I.hok a _ ha
  obtain ⟨⟨ox, vs, e, z, dd⟩, _, _⟩ := x1
  have x2 : ObjOk X.prog X.w H s.heap oD (.xd fs) := I.hok oD _ hd
  obtain ⟨mA, hns, hr⟩ := x2
  obtain ⟨od, ho, hl⟩ := lookIn_ns hns
  exact ⟨ox, od, mA, ⟨e, z.1, by unfold PySem.W.notCls; rw [dd], by rw [z.2]; exact ho⟩, hns, hr, hl⟩
/-- isinstance(x, c), x a kept exception -/
def rIsK (K : PySem.W.Frag) (D : Addr) : List V → Hp → VK → Prop := fun xs H Q => ∃ (a oD : Addr) (fs : List (Str × V)) (c : V) (u : Value) (b : Bool), xs = [.ref a, c] ∧ H a = some (KX a (.ref D) (some oD)) ∧ H oD = some (.xd fs) ∧ ClsV c u ∧ PySem.W.kitOne K (.ref D) u = some b ∧ Q (.bl b) H
theorem call_isK (C : XcF X.K D) : CallR X (.builtin "isinstance") (rIsK X.K D) := by
  intro pins s σ H xs us Q I r h
  obtain ⟨a, oD, fs, c, u, b, rfl, ha, hd, hc, e, q⟩ := h
  obtain ⟨u1, u2, rfl, r1, r2⟩ := vals2 r
  cases (show u1 = Value.ref a from r1)
  have ec := hc.eq r2
  subst ec
  obtain ⟨ox, od, _, J, _⟩ := kept_inst I ha hd
  exact PySem.W.kia_one (kitx_kept C) I.kIn ⟨ox, _, J⟩ e (fun z => nomatch z) fun tk => ⟨.bl b, H, I.kept (t' := tk) fun _ _ z => z, rfl, q⟩
/-- x.f, x a kept exception -/
def tKf (D : Addr) (f : Str) (te : TE) : TE := fun σ H Q => te σ H fun x H1 => ∃ (a oD : Addr) (fs : List (Str × V)) (v : V), x = .ref a ∧ H1 a = some (KX a (.ref D) (some oD)) ∧ H1 oD = some (.xd fs) ∧ fs.lookup f = some v ∧ Q v H1
theorem pe_kf {e : Expr} {te : TE} {pos : Pos} {n : Str} (C : XcF X.K D) (hno : PySem.W.findIn X.K (.ref D) n = some none) (he : PE X e te) (hb : attributeBase e n X.env (eval e X.env) = eval e X.env := by rfl) : PE X (.Attribute e n pos) (tKf D n te) := by
  refine ⟨fun pins s σ H Q I h => attr_of hb (thn (he.run pins s σ H _ I h) fun u s1 hh => ?_)⟩
  obtain ⟨x, H1, I1, rx, a, oD, fs, v, rfl, ha, hd, l, q⟩ := hh
  cases (show u = Value.ref a from rx)
  obtain ⟨ox, od, mA, J, _, hr, hl⟩ := kept_inst I1 ha hd
  obtain ⟨u1, hu, ru⟩ := RelO.some_of (v := v) (o := mA n) (by rw [← l]; exact hr n)
  exact HandSPX.exc_get I1.kIn J C.ga C.gg C.sub (PySem.W.findObj_own C.hd hno rfl (by rw [hl, hu])) (handed_of ru) ⟨v, H1, I1.tok _, ru, q⟩
end
end MM
namespace MM
open PySem PySem.Spec PyProof.Rows L2
section
variable {K : PySem.W.Frag} {h : Heap} {mg : Str → Option Value} {x m qual : Str} {st : Stmt} {f C D CN : Addr} {b : Bool} {oc kV doc pm cdv ct : Value} {od an : Option Addr} {osl : Array (Option Value)}
/-- another class of errors, beside the class CN -/
structure Oc (K : PySem.W.Frag) (mg : Str → Option Value) (CN : Addr) (x : Str) (D : Addr) (b : Bool) : Prop where
  m : mg x = some (.ref D)
  i : PySem.W.isClsIn K D = true
  t : PySem.W.typeIn K (.ref D) = some (.type "type")
  e : PySem.W.subIn K (.ref D) (.type "BaseException") = some true
  s : PySem.W.subIn K (.ref CN) (.ref D) = some b
theorem Oc.cls (o : Oc K mg CN x D b) : PySem.W.kitCls K (.ref CN) (.ref D) = some b := by
  have iC' : (PySem.W.clsIn K D).isSome = true := o.i
  show (if ((PySem.W.clsIn K D).isSome && PySem.W.typeIn K (.ref D) == some (.type "type")) = true then PySem.W.subIn K (.ref CN) (.ref D) else none) = some b
  rw [iC', o.t, if_pos (by simp)]
  exact o.s
theorem Oc.kit (o : Oc K mg CN x D b) (hn : CN = D → b = true) : PySem.W.kitOne K (.ref CN) (.ref D) = some b := by
  unfold PySem.W.kitOne
  by_cases he : CN = D
  · rw [if_pos (by rw [he]; simp), hn he]
  · rw [if_neg (by simp [he])]
    exact o.cls
theorem Oc.exm (o : Oc K mg CN x D b) : PySem.W.exmOne K (.ref CN) (.ref D) = some b := by
  unfold PySem.W.exmOne
  rw [o.e, if_pos (by simp)]
  exact o.cls
theorem kit_typ {T : String} (m : PySem.W.kitMeta T = true) (s : PySem.W.subIn K (.ref CN) (.type T) = some b) : PySem.W.kitOne K (.ref CN) (.type T) = some b := by
  unfold PySem.W.kitOne
  rw [if_neg (by simp)]
  show (if PySem.W.kitMeta T = true then PySem.W.subIn K (.ref CN) (.type T) else none) = some b
  rw [if_pos m]
  exact s
end
end MM
namespace MM
open PySem PySem.Spec PySem.Calls PyProof.Rows L2
/-! ### own classes of errors right over a built-in one, their __init__ walked as a def -/
/-- what the written part says of the class at C, which stands right over the built-in B -/
structure OxG (K : PySem.W.Frag) (C : Addr) (B newId initId : String) (bm : List Value) : Prop where
  bf : ExcBaseFacts B newId initId bm
  sf : StoreFacts B bm "object.__setattr__" "object"
  tl : PySem.W.excTail bm bm = true
  cls : ∃ nm q N bs sn sub ab col dd k0 k1 k2 k3 k5, K.lookup C = some (excClassObj nm q C N bs bm true sn sub ab col dd k0 k1 k2 k3 k5 newId)
  sa : PySem.W.findIn K (.ref C) "__setattr__" = some (some (.builtin "object.__setattr__"))
  exC : PySem.W.subIn K (.ref C) (.type "BaseException") = some true
  tyC : PySem.W.typeIn K (.ref C) = some (.type "type")
  kC : PySem.W.keepIn K (.ref C) = true
section
variable {K : PySem.W.Frag} {C : Addr} {B newId initId : String} {bm : List Value}
theorem OxG.dat (T : OxG K C B newId initId bm) : ∃ cd, PySem.W.clsIn K C = some cd ∧ cd.mro = .ref C :: bm ∧ cd.hasDict = true := by
  obtain ⟨nm, q, N, bs, sn, sub, ab, col, dd, k0, k1, k2, k3, k5, hC⟩ := T.cls
  exact ⟨_, (by unfold PySem.W.clsIn; rw [hC] <;> rfl), rfl, rfl⟩
theorem OxG.over (T : OxG K C B newId initId bm) : PySem.W.excOver K C bm = true := by
  obtain ⟨cd, hc, hm, _⟩ := T.dat
  unfold PySem.W.excOver
  rw [hc]
  show (match cd.mro with | .ref C' :: b => C' == C && PySem.W.excTail bm b | _ => false) = true
  rw [hm]
  show (C == C && PySem.W.excTail bm bm) = true
  rw [T.tl]
  simp
theorem OxG.taker (T : OxG K C B newId initId bm) {f : Str} (hno : PySem.W.findIn K (.ref C) f = some none) : PySem.W.takerIn K C f = some none := by
  unfold PySem.W.takerIn
  rw [hno]
  rfl
end
section
variable {X : Cx} {pins : List (Addr × Obj)} {σ : L2.St} {H : Hp} {s : Shared} {a C dx : Addr} {f : Str} {y : V} {u : Value} {fs : List (Str × V)} {Q : Unit → Shared → Prop} {E : Value → Shared → Prop} {A : Around} {B newId initId : String} {bm : List Value}
/-- the first field -/
theorem gx_new (T : OxG X.K C B newId initId bm) (I : Inv X pins σ H s) (e : H a = some (exo a C none)) (hno : PySem.W.findIn X.K (.ref C) f = some none) (ry : RelV y u)
    (h : ∀ dx s', H dx = none → dx ≠ a → Inv X pins σ (L2.upd (L2.upd H dx (exd dx [(f, y)])) a (exo a C (some dx))) s' → Q () s') : wpAny (model X.prog X.w) A (setAttr (.ref a) f u) Q E s := by
  obtain ⟨cd, hcd, hmr, hhd⟩ := T.dat
  obtain ⟨t1, ho⟩ := exo_at I.hok e
  obtain ⟨hp, g, dn, t, os⟩ := s
  have key : ∀ (h' : Heap) (tk' : Nat), (∀ b o, b ≠ a → hp.get? b = some o → h'.get? b = some o) → h'.get? a = some ({ cls := .ref C, dict := some hp.objs.size, data := .fields #[.ref t1, .none, .none, .none, .bool false, .none] } : Obj) →
      h'.Ns1 hp.objs.size (fun z => if z = f then some u else none) → Q () ⟨h', g, dn, tk', os⟩ := by
    intro h' tk' k hx hn
    have nlt : ∀ {b : Addr} {o : Obj}, hp.get? b = some o → b ≠ hp.objs.size := fun q => Nat.ne_of_lt (Heap.lt_size q)
    have hnd : H hp.objs.size = none := I.hok.fresh (Nat.le_refl _)
    have dne : hp.objs.size ≠ a := (nlt ho).symm
    have na : ∀ {b : Addr}, H b = none → b ≠ a := fun n z => by
      subst z
      cases e.symm.trans n
    refine h hp.objs.size _ hnd dne (I.un (t' := tk') ⟨fun b o q n _ _ => k b o (na n) q, fun b o q n _ _ => ⟨o.slots, k b o (na n) q⟩, fun b o q n _ => ?_, fun b o q _ => ?_, fun b xs q => ?_, fun b o v q => ?_, fun b ps q => ⟨#[], ?_⟩⟩ fun b o q => ?_)
    · rw [upd_ne (na n), upd_ne (nlt q)]
      exact n
    · by_cases hb : b = a
      · exact ⟨_, by rw [hb]; exact hx⟩
      · exact ⟨o, k b o hb q⟩
    · rw [upd_ne (at_ne e q exo_tup), upd_ne (ne_of_none q hnd)]
      exact q
    · rw [upd_ne (at_ne e q exo_frz), upd_ne (ne_of_none q hnd)]
      exact q
    · rw [upd_ne (at_ne e q exo_tbl), upd_ne (ne_of_none q hnd), q]
      simp
    · by_cases hb : b = a
      · subst hb
        cases upd_same.symm.trans q
        exact exo_ok hx
      rw [upd_ne hb] at q
      by_cases hd : b = hp.objs.size
      · subst hd
        cases upd_same.symm.trans q
        exact exd_ok hn (relO_put (fs := []) ry fun g => True.intro)
      rw [upd_ne hd] at q
      refine (I.hok b o q).stay (fun c v hc z => k c v ?_ z) (fun c hc => ?_) (fun c xs hc => ?_)
      · rcases hc with hc | hc
        · exact fun z => hb (hc ▸ z)
        · exact at_ne e hc exo_own
      · rw [upd_ne (at_ne e hc exo_own), upd_ne (ne_of_none hc hnd)]
        exact hc
      · rw [upd_ne (at_ne e hc exo_tup), upd_ne (ne_of_none hc hnd)]
        exact hc
  have J : PySem.W.InstAt hp a ({ cls := .ref C, dict := none, data := .fields #[.ref t1, .none, .none, .none, .bool false, .none] } : Obj) C none := ⟨ho, rfl, rfl, trivial⟩
  refine PySem.W.set_plain I.kIn J T.sa (PySem.W.osa_openX T.sf I.kIn J T.over (T.taker hno) fun b => ?_)
  have hs : a ≠ hp.objs.size := Nat.ne_of_lt (Heap.lt_size ho)
  refine wpAny_bind (wpAny_pure (wpAny_bind (PySem.W.instanceDict_exc (t := t1) (c2 := .none) ho (PySem.W.looks_clsIn I.kIn hcd) hhd ?_)))
  refine PySem.HandSPX.store_in_new ?_ fun h' tk' hn' hsb => ?_
  · exact ⟨_, #[], _, (Heap.get?_update_ne _ _ _ _ hs.symm).trans (Heap.get?_push_at rfl rfl), rfl, fun e he => absurd he (by simp), fun _ => rfl⟩
  · refine key h' _ (fun b o hb hq => ?_) ?_ hn'
    · exact (hsb.2 b (Nat.ne_of_lt (Heap.lt_size hq))).trans ((Heap.get?_update_ne _ _ _ _ hb).trans (Heap.get?_push_of_some _ hq))
    · exact (hsb.2 a hs).trans (Heap.get?_update_self _ (Heap.get?_push_of_some _ ho) rfl)
/-- a further field -/
theorem gx_old (T : OxG X.K C B newId initId bm) (I : Inv X pins σ H s) (e : H a = some (exo a C (some dx))) (ed : H dx = some (exd dx fs)) (hl : fs.length ≤ 900) (hno : PySem.W.findIn X.K (.ref C) f = some none) (ry : RelV y u)
    (h : ∀ s', Inv X pins σ (L2.upd H dx (exd dx ((f, y) :: fs))) s' → Q () s') : wpAny (model X.prog X.w) A (setAttr (.ref a) f u) Q E s := by
  obtain ⟨t1, ho⟩ := exo_at I.hok e
  obtain ⟨mA, hns, rel⟩ := exd_at I.hok ed
  obtain ⟨hp, g, dn, t, os⟩ := s
  obtain ⟨oD, _, _, hoD, _, _⟩ := hns.count (within_of rel)
  have J : PySem.W.InstAt hp a ({ cls := .ref C, dict := some dx, data := .fields #[.ref t1, .none, .none, .none, .bool false, .none] } : Obj) C (some oD) := ⟨ho, rfl, rfl, hoD⟩
  refine PySem.W.set_plain I.kIn J T.sa (PySem.W.osa_openX T.sf I.kIn J T.over (T.taker hno) fun b => ?_)
  refine wpAny_bind (wpAny_pure (wpAny_bind ?_))
  show wpAny _ _ (instanceDict a true) _ _ _
  unfold instanceDict
  refine wpAny_bind (wpAny_loadPart ho ?_)
  obtain ⟨cd, hcd, hmr, hhd⟩ := T.dat
  dsimp only
  refine wpAny_bind ((PySem.W.looks_clsIn I.kIn hcd).at ?_)
  rw [hhd]
  refine wpAny_pure ?_
  refine PySem.OEX.store_in_old hns (within_of rel) (by rw [List.length_map]; omega) fun h' tk' hn hsb => ?_
  have hd : ∃ o, h'.get? dx = some o := by
    obtain ⟨o, _, _, e', _⟩ := hn
    exact ⟨o, e'⟩
  exact h _ (I.write (t' := tk') (x := dx) (e := dx) (o := exd dx ((f, y) :: fs)) (by rw [ed]; exact True.intro) (.inl rfl) (fun b o hb q => (hsb.2 b hb).trans q) hd (exd_ok hn (relO_put ry rel)))
/-- B.__init__(self, ..) -/
theorem gx_init {us : List Value} {Q : Value → Shared → Prop} (T : OxG X.K C B newId initId bm) (I : Inv X pins σ H s) (e : H a = some (exo a C none)) (hl : us.length ≤ sizeLine) (h : ∀ s', Inv X pins σ H s' → Q .none s') : wpAny (model X.prog X.w) A (call (.builtin initId) (.ref a :: us)) Q E s := by
  obtain ⟨nm, q, N, bs, sn, sub, ab, col, dd, k0, k1, k2, k3, k5, hC⟩ := T.cls
  obtain ⟨t1, ho⟩ := exo_at I.hok e
  obtain ⟨hp, g, dn, t, os⟩ := s
  refine wpAny_call (PySem.HandSPX.init_base T.bf (fun _ => rfl) (I.kIn _ _ hC) ho hl fun h' t2 k hx => h _ ?_)
  have J := I.write (t' := t) (x := a) (e := a) (o := exo a C none) (by rw [e]; exact True.intro) (.inl rfl) k ⟨_, hx⟩ (exo_ok hx)
  rwa [show L2.upd H a (exo a C none) = H from funext fun b => by
    by_cases hb : b = a
    · rw [hb, upd_same, e]
    · rw [upd_ne hb]] at J
end
/-! ### the rules -/
/-- B.__init__(self, ..) -/
def tBi (K : PySem.W.Frag) (B newId initId : String) (bm : List Value) (ta : TA) : TE := fun σ H Q => ta σ H fun vs H1 => ∃ (a C : Addr) (ws : List V), vs = .ref a :: ws ∧ ws.length ≤ 1000 ∧ OxG K C B newId initId bm ∧ H1 a = some (exo a C none) ∧ Q .non H1
/-- self.f = e -/
def tGs (K : PySem.W.Frag) (B newId initId : String) (bm : List Value) (f : Str) (to te : TE) : TS := fun D σ H => te σ H fun y H1 => to σ H1 fun x H2 => ∃ a C : Addr, x = .ref a ∧ OxG K C B newId initId bm ∧ PySem.W.findIn K (.ref C) f = some none ∧
  ((H2 a = some (exo a C none) ∧ ∀ dx, H2 dx = none → dx ≠ a → D.nx σ (L2.upd (L2.upd H2 dx (exd dx [(f, y)])) a (exo a C (some dx)))) ∨
    ∃ (dx : Addr) (fs : List (Str × V)), H2 a = some (exo a C (some dx)) ∧ H2 dx = some (exd dx fs) ∧ fs.length ≤ 900 ∧ D.nx σ (L2.upd H2 dx (exd dx ((f, y) :: fs))))
section
variable {X : Cx} {o e : Expr} {es : List Expr} {to te : TE} {ta : TA} {f : Str} {p p' p1 p2 pos : Pos} {B newId initId : String} {bm : List Value} {bn : Str}
theorem pe_bini {pl : Sem Bool} (hg : Gl X bn) (hm : X.mg bn = none) (hbt : bootBuiltins bn = some (.type B)) (hty : typeOf (.type B) = pure (.type "type")) (vV : PySem.W.findCls X.K (.type B) (.type "type") "__init__" = some (.val (.builtin initId))) (ha : PA X (e :: es) ta)
    (hn : bn ≠ "__name__" := by decide) (hdb : (bn == ("__debug__" : Str)) = false := by decide) (hst : Manifest.isStub B = false := by decide +kernel) (hha : PySem.W.handedIn (.builtin initId) = true := by decide +kernel)
    (hc : eval (.Call (.Attribute (.Name bn p1) "__init__" p2) (e :: es) [] pos) X.env = (do
      let v0 ← eval (.Name bn p1) X.env
      standAt p2.atName
      let (f, first) ← holding [v0] (getMethod v0 "__init__" pl)
      callWith pos f first (backTo pos (starEach (e :: es) X.env)) (backToKw pos (keywordEach [] X.env))) := by rfl)
    (he : starEach (e :: es) X.env = (false, eval e X.env) :: starEach es X.env := by rfl) (hpl : (backTo pos (starEach es X.env)).any (·.1) = false := by rfl) :
    PE X (.Call (.Attribute (.Name bn p1) "__init__" p2) (e :: es) [] pos) (tBi X.K B newId initId bm ta) := by
  refine ⟨fun pins s σ H Q I h => ?_⟩
  refine PySem.W.methodCall_KW (ld_blt I hg hm hbt ?_ hn hdb) hc
  obtain ⟨m, fr⟩ := I.fr
  refine PySem.W.method_type fr I.ok.mod.kin hty hst vV hha ?_
  show wpAny _ _ (callWith pos (Value.builtin initId) [] (backTo pos (starEach (e :: es) X.env)) []) _ _ _
  refine PyProof.Rows.callWith_method1 (thn (ha.run pos pins _ σ H _ (I.tok _) h) fun us s1 hh => ?_) he hpl
  obtain ⟨vs, H1, I1, r1, a, C, ws, rfl, hl, T, ea, q⟩ := hh
  cases r1 with
  | @cons _ u0 _ ur ra rr =>
    cases (show u0 = Value.ref a from ra)
    exact gx_init T I1 ea (by rw [← Paired.length rr, sizeLine_eq]; omega) fun s' J => ⟨.non, H1, J, rfl, q⟩
theorem ps_gst (ho : PE X o to) (he : PE X e te) (hs : swapsWith e (some (.Attribute o f p')) pos.line X.env = pure false := by rfl) : PS X (.Assign [.Attribute o f p'] e pos) (tGs X.K B newId initId bm f to te) := by
  refine ⟨fun pins s σ H D I h => ?_⟩
  refine plainObj_wpAny_Assign_Attribute (thn (he.run pins s σ H _ I h) fun v s1 ⟨y, H1, I1, r1, q1⟩ => thn (ho.run pins s1 σ H1 _ I1 q1) fun u s2 hh => ?_) hs
  obtain ⟨x, H2, I2, r2, a, C, rfl, T, hno, q⟩ := hh
  cases (show u = Value.ref a from r2)
  rcases q with ⟨ea, q⟩ | ⟨dx, fs, ea, ed, hl, q⟩
  · exact gx_new T I2 ea hno r1 fun dx s' n ne J => ⟨σ, _, J, q dx n ne⟩
  · exact gx_old T I2 ea ed hl hno r1 fun s' J => ⟨σ, _, J, q⟩
/-- C(e, ..), C's own __init__ keeping sp -/
theorem pmk_g {CX : CXT} {x : Str} {C fI : Addr} {k : Nat} {fd : FuncData} {ps : List Str} {sp : Sp} {ds : List Value} {dvs : List V} (T : OxG X.K C B newId initId bm) (iC : PySem.W.findIn X.K (.ref C) "__init__" = some (some (.ref fI))) (tI : PySem.W.typeIn X.K (.ref fI) = some (.type "function"))
    (F1 : FnOk X.prog X.w X.K X.mg X.base CX k fI fd ps sp) (hr : Room (k + 1) X.A) (hb : Binds X.K fd ps ds) (hd : Vals dvs ds) (hx : Passes CX X (fun _ _ _ => False)) (hg : Gl X x) (hm : X.mg x = some (.ref C)) (ha : PA X (e :: es) ta)
    (hdb : (x == ("__debug__" : Str)) = false := by decide) (he : starEach (e :: es) X.env = (false, eval e X.env) :: starEach es X.env := by rfl) (hpl : (backTo pos (starEach es X.env)).any (·.1) = false := by rfl) : PMk X (.Call (.Name x p) (e :: es) [] pos) (tMkO C sp dvs ta) := by
  intro pins s σ H Q I h
  obtain ⟨nm, q, N, bs, sn, sub, ab, col, dd, k0, k1, k2, k3, k5, hC⟩ := T.cls
  refine wpAny_Call_Name_kw (ld_glob I hg hm ?_ hdb)
  refine PySem.W.callWith_K (h₀ := X.base) I.ok.mod.kin T.kC (thn (ha.run pos pins s σ H _ I h) fun us s1 hh => ?_) he hpl
  obtain ⟨vs, H1, I1, r1, hz, q1⟩ := hh
  refine ⟨I1.kIn, ?_⟩
  show wpAny _ _ (call (.ref C) us) _ _ _
  obtain ⟨hp, g, dr, tk, os⟩ := s1
  have le1 : hp.objs.size ≤ hp.objs.size + 1 := Nat.le_succ _
  have hq := q1 (hp.objs.size + 1) (I1.hok.fresh le1)
  have grow : ∀ b o', hp.get? b = some o' → ((hp.push (PySem.W.kdv_tup us)).push (PySem.HandSPX.excO C hp.objs.size)).get? b = some o' := fun b o' z => Heap.get?_push_of_some _ (Heap.get?_push_of_some _ z)
  have got : ((hp.push (PySem.W.kdv_tup us)).push (PySem.HandSPX.excO C hp.objs.size)).get? (hp.objs.size + 1) = some (PySem.HandSPX.excO C hp.objs.size) := by heap_get
  have I2 := I1.laid (t' := tk) (a := hp.objs.size + 1) (o := exo (hp.objs.size + 1) C none) (h' := (hp.push (PySem.W.kdv_tup us)).push (PySem.HandSPX.excO C hp.objs.size)) grow le1 (exo_ok got)
  have r2 : Vals (V.ref (hp.objs.size + 1) :: (vs ++ dvs)) (Value.ref (hp.objs.size + 1) :: (us ++ ds)) := .cons rfl (r1.append hd)
  have hl : (Value.ref (hp.objs.size + 1) :: us ++ ds).length = ps.length := r2.length.symm.trans (F1.len _ _ _ _ hq)
  have hus : us.length ≤ sizeLine := by rw [← Paired.length r1, sizeLine_eq]; omega
  refine wpAny_call (PySem.HandSPX.call_own T.bf (fun _ => rfl) (I1.kIn _ _ hC) (PySem.W.looks_findIn I1.kIn iC) (fun self => PySem.W.bind_fn I1.kIn self tI) hus (codeAny_mono (F1.run _ X.stack _ _ ⟨Value.ref (hp.objs.size + 1) :: us, []⟩ (Value.ref (hp.objs.size + 1) :: (us ++ ds)) _ _ (fun _ _ _ => False)
    (hr.make C us []) (I2.env0.make C us []) (hb _ (Value.ref (hp.objs.size + 1) :: us) I2.kIn hl) r2 hq) fun r s' hq' => ?_))
  match r, hq' with
  | .error er, hq' => exact hx pins σ _ _ er s' I2 hq'
  | .ok .next, hq' => exact hq'.elim
  | .ok .brk, hq' => exact hq'.elim
  | .ok .cont, hq' => exact hq'.elim
  | .ok (.ret u), hq' =>
    obtain ⟨v, H2, os2, bare2, un2, hok2, rv, rfl, d, fs, ea, ed, hd1, q2⟩ := hq'
    obtain ⟨h2, g2, d2, t2, os'⟩ := s'
    exact ⟨rv, mk_end (raises_own T.exC T.tyC) I1 le1 grow un2 hok2 os2 bare2 ea ed hd1 q2⟩
end
end MM
namespace MM
open PySem PySem.Spec PySem.Calls PyProof.Rows L2
/-! ### str(x) of an instance with its own __str__ -/
def rStrO (C : Addr) (sp : Sp) (E : XK) : List V → Hp → VK → Prop := fun xs H Q => ∃ (a dx : Addr) (fs : List (Str × V)), xs = [.ref a] ∧ H a = some (.ins C dx fs) ∧ sp [.ref a] H (fun v H' => ∃ x : Str, v = .str x ∧ Q (.str x) H') E
section
variable {X : Cx} {CX : CXT} {k : Nat} {C f : Addr} {fd : FuncData} {ps : List Str} {sp : Sp} {E : XK}
theorem call_strO (F : FnOk X.prog X.w X.K X.mg X.base CX k f fd ps sp) (hs : PySem.W.findIn X.K (.ref C) "__str__" = some (some (.ref f))) (hf : PySem.W.isFn X.K (.ref f) = true) (hb : Binds X.K fd ps []) (hx : Passes CX X E) (hr : Room (k + 2) X.A) : CallR X (.type "str") (rStrO C sp E) := by
  intro pins s σ H xs us Q I r h
  obtain ⟨a, dx, fs, rfl, ha, hq⟩ := h
  obtain ⟨u, rfl, r1⟩ := vals1 r
  cases (show u = Value.ref a from r1)
  obtain ⟨mA, J, _⟩ := ins_get I.hok ha
  obtain ⟨od, J, _⟩ := J.look
  have hr1 : Room (k + 1) X.A.in1 := hr.in1
  have hr2 : Room k X.A.in1.in1 := hr1.in1
  have hl : ([Value.ref a] ++ []).length = ps.length := (show ([V.ref a] : List V).length = _ from F.len _ _ _ _ hq)
  refine PySem.W.kso_call hr2.units0 I.kIn J hs hf (wpAny_call (codeAny_mono (F.run X.A.in1.in1 X.stack s H ⟨[.ref a], []⟩ [.ref a] [.ref a] _ E hr2 I.env0.in1.in1 (hb s [.ref a] I.kIn hl) (.cons rfl .nil) hq) fun res s' hres => ?_))
  match res, hres with
  | .error er, hres => exact hx pins σ H s er s' I hres
  | .ok .next, hres => exact hres.elim
  | .ok .brk, hres => exact hres.elim
  | .ok .cont, hres => exact hres.elim
  | .ok (.ret u), hres =>
    obtain ⟨z, H', I', rz, x, rfl, q⟩ := I.after hres
    obtain ⟨t, rfl⟩ := rz
    exact ⟨.str x, H', I', ⟨t, rfl⟩, q⟩
/-- x == y by x's own __eq__, whatever y is -/
def rEqO (K : PySem.W.Frag) (C : Addr) (sp : Sp) (E : XK) : R2 := fun x y H Q => ∃ (a dx : Addr) (fs : List (Str × V)) (t : Value), x = .ref a ∧ H a = some (.ins C dx fs) ∧ TyX K H y t ∧ PySem.W.notFirst K C t = true ∧ sp [.ref a, y] H (fun v H' => ∃ b : Bool, v = .bl b ∧ Q (.bl b) H') E
theorem op_eqO (F : FnOk X.prog X.w X.K X.mg X.base CX k f fd ps sp) (hs : PySem.W.findIn X.K (.ref C) "__eq__" = some (some (.ref f))) (hf : PySem.W.isFn X.K (.ref f) = true) (hb : Binds X.K fd ps []) (hx : Passes CX X E) (hr : Room k X.A) : OpR X (compareOp .Eq) (rEqO X.K C sp E) := by
  intro pins s σ H x y v u Q I rx ry h
  obtain ⟨a, dx, fs, t, rfl, ha, ty, nf, hq⟩ := h
  cases (show v = Value.ref a from rx)
  obtain ⟨mA, J, _⟩ := ins_get I.hok ha
  obtain ⟨od, J, _⟩ := J.look
  obtain ⟨P, kx, hP, _⟩ := kit_of I ry ty
  obtain ⟨m, fr⟩ := I.fr
  have hl : ([Value.ref a, u] ++ []).length = ps.length := (show ([V.ref a, y] : List V).length = _ from F.len _ _ _ _ hq)
  show wpAny (model X.prog X.w) X.A (richCompare .Eq (.ref a) u) _ _ s
  refine PySem.W.cmp_K (op := .Eq) hr.units0 fr I.ok.mod.kin J (kx.ty _ _ I.kIn hP) nf hs hf (wpAny_call (codeAny_mono (F.run X.A X.stack s H ⟨[.ref a, u], []⟩ [.ref a, u] [.ref a, y] _ E hr I.env0 (hb s [.ref a, u] I.kIn hl) (.cons rfl (.cons ry .nil)) hq) fun res s' hres => ?_))
  match res, hres with
  | .error er, hres => exact hx pins σ H s er s' I hres
  | .ok .next, hres => exact hres.elim
  | .ok .brk, hres => exact hres.elim
  | .ok .cont, hres => exact hres.elim
  | .ok (.ret z0), hres =>
    obtain ⟨z, H', I', rz, b, rfl, q⟩ := I.after hres
    cases (show z0 = Value.bool b from rz)
    exact ⟨.bl b, H', I', rfl, q⟩
end
end MM
namespace MM
open PySem PySem.Spec PyProof.Rows L2
/-! ### sep.join(reversed(xs)) -/
theorem strs_of : ∀ {zs : List Str} {l : List Value}, Vals (zs.map V.str) l → StrsAre l zs
  | [], _, h => by
    cases h
    exact .nil
  | z :: zs, _, h => by
    cases h with
    | cons a r =>
      obtain ⟨t, rfl⟩ := a
      exact .cons z t (strs_of r)
section
variable {prog : Program} {w : World} {A : Around} {E : Value → Shared → Prop} {s : Shared}
theorem join_rev {x : Str} {t : Tok} {ys : List Str} {it l : Addr} {items : Array Value} {Q : Value → Shared → Prop} (hh : A.handled = none) (hit : s.heap.IsRevIter it l ((items.size : Int) - 1)) (hl : s.heap.IsList l items) (hne : l ≠ it) (hn : items.size ≤ sizeLine)
    (hP : ∀ acc : Array Value, ItemsOf (fun i v => items[items.size - 1 - i]? = some v) acc items.size → StrsAre acc.toList ys) (hok : (ys.map (·.length)).sum + ys.length * x.length ≤ 16777216)
    (hq : ∀ (h' : Heap) (t' : Tok) (k : Nat), (∀ b o, b ≠ it → s.heap.get? b = some o → h'.get? b = some o) → Q (.str (Txt.join x ys) t') { s with heap := h', toks := k }) :
    wpAny (model prog w) A (call (.builtin "str.join") [.str x t, .ref it]) Q E s := by
  refine wpAny_call (codeAny_call_builtin F.slot_str_join.plain F.entry_str_join (F.slot_str_join.check _ _ _ _ _ _ _ _ (typeIs_str _ _ _) (F.args_str_join_2 _ _) ?_))
  rw [join_tree_other]
  refine wpAny_bind (wpAny_typeOf (Heap.IsRevIter.typeIs hit) ?_)
  show wpAny _ A.in1 ((pyIter (.ref it)).tryCatch _ >>= fun i0 => collect i0 >>= fun c0 => joinTail x c0) _ _ s
  refine wpAny_bind (wpAny_tryCatch (wpAny_pyIter_revIter hit ?_))
  refine wpAny_bind (RT.collect_rev (A := A.in1) hh hit hl hne hn fun h' tk acc hk hacc => ?_)
  obtain ⟨l0, h0, e0⟩ := strsAre_values (hP acc hacc)
  subst e0
  rw [h0]
  have fit := joinOk_of hok
  unfold JoinOk at fit
  rw [Bool.not_eq_true'] at fit
  have g : Gives (joinTail x (strValues l0)) (joinMade x l0) := by
    have g0 := gives_joinTail x l0 fit
    rcases l0 with _ | ⟨p, _ | ⟨q, r⟩⟩ <;> exact g0
  exact g prog w A (wants Q E) _ (post_join l0 ⟨joinFit_length fit, fun t' k => hq h' t' k hk⟩)
end
section
variable {X : Cx}
def tJoinRev (K : PySem.W.Frag) (to te : TE) : TE := fun σ H Q => to σ H fun x H1 => (∃ a, x = .str a) ∧ te σ H1 fun v H2 => ∃ (a : Str) (q : Addr) (ys : List Str), x = .str a ∧ v = .ref q ∧ SqL K H2 q (ys.map V.str) ∧ (ys.reverse.map (·.length)).sum + ys.reverse.length * a.length ≤ 16777216 ∧ Q (.str (Txt.join a ys.reverse)) H2
theorem pe_joinRev {o e : Expr} {to te : TE} {apos pos p pos2 : Pos} (hc : X.calm = true) (ho : PE X o to) (hg : Gl X "reversed") (hm : X.mg "reversed" = none) (he : PE X e te)
    (hs1 : starEach [.Call (.Name "reversed" p) [e] [] pos2] X.env = [(false, eval (.Call (.Name "reversed" p) [e] [] pos2) X.env)] := by rfl) (hs : starEach [e] X.env = (false, eval e X.env) :: starEach [] X.env := by rfl)
    (hbase : attributeBase o "join" X.env (eval o X.env) = eval o X.env := by rfl) (hline : (apos.endLine == pos.line) = true := by rfl) :
    PE X (.Call (.Attribute o "join" apos) [.Call (.Name "reversed" p) [e] [] pos2] [] pos) (tJoinRev X.K to te) := by
  refine ⟨fun pins s σ H Q I h => ?_⟩
  refine PySem.Call_method1 hbase hs1 hline (thn (ho.run pins s σ H _ I h) fun v s1 hh => ?_)
  obtain ⟨x, H1, I1, r1, ⟨a, rfl⟩, q1⟩ := hh
  obtain ⟨t, rfl⟩ := _root_.id r1
  refine ⟨"str", _, F.plainAttrs_str, F.slot_str_join, F.type_str_join, typeIs_str _ _ _, (fun _ e => nomatch e), Calls.callWith_builtin rfl (Calls.evalArgs_plain (Calls.spliced_cons ?_))⟩
  refine Call_ (ld_blt I1 hg hm PyProof.Rows.boot_reversed (PyProof.Rows.callWith_type1 (args_cons (thn (he.run pins s1 σ H1 _ I1 q1) fun u s2 hh => args_nil ?_) hs) hs rfl))
  obtain ⟨v, H2, I2, r2, a', q, ys, ea, rfl, hq, hz, q2⟩ := hh
  cases ea
  cases (show u = Value.ref q from r2)
  obtain ⟨its, rv, p', hsz⟩ := I2.list hq
  refine call_reversed_list p'.isList ?_
  have grow : ∀ b o, s2.heap.get? b = some o → (s2.heap.push (revObj q ((its.toArray.size : Int) - 1))).get? b = some o := fun b o z => Heap.get?_push_of_some _ z
  have I3 : Inv X pins σ H2 { s2 with heap := s2.heap.push (revObj q ((its.toArray.size : Int) - 1)) } := I2.kept (t' := s2.toks) grow
  obtain ⟨f0, f1, f2, f3, f4, f5⟩ := I2.fpOk (H' := H2) (b := s2.heap.objs.size) (Nat.le_refl _) (I2.hok.fresh (Nat.le_refl _))
  have hl := p'.isList
  obtain ⟨ol, hol, _⟩ := _root_.id hl
  have hne : q ≠ s2.heap.objs.size := Nat.ne_of_lt (Heap.lt_size hol)
  have hn : its.toArray.size ≤ sizeLine := by rw [List.size_toArray, ← rv.length]; exact hsz
  refine Calls.spliced_nil ?_
  refine join_rev (s := { s2 with heap := s2.heap.push (revObj q ((its.toArray.size : Int) - 1)) }) (ys := ys.reverse) (I2.ok.hd hc) ⟨_, Heap.get?_push_size _ rfl, rfl, rfl⟩ (hl.push _) hne hn (fun acc hacc => strs_of ?_) hz fun h' t' k hk => ?_
  · rw [List.map_reverse]
    exact RT.vals_rev rv hacc
  · exact ⟨.str _, H2, I3.turned (t' := k) (fun b o hb z => hk b o hb z) f0 f1 f3 f4 f5, ⟨t', rfl⟩, q2⟩
end
end MM
namespace MM
open PySem PySem.Spec PySem.Calls PyProof.Rows L2
section
variable {X : Cx} {CX : CXT} {k j : Nat} {C : Addr} {qual : Str} {st : Stmt} {ps : List Str} {sp : Sp} {E : XK}
/-- x == y by the __eq__ of x's class -/
theorem op_eqC (c : Cm X.prog X.w X.K X.mg X.base CX k C "__eq__" qual st ps sp) (b : Bd "__eq__" qual st ps) (hx : Passes CX X E) (hr : Room j X.A) (hk : k ≤ j) : OpR X (compareOp .Eq) (rEqO X.K C sp E) := by
  obtain ⟨f, fd, F, M, hc, G⟩ := c.ex
  exact op_eqO G M.1 M.2 (F.bindsN b) hx (hr.mono hk)
theorem nf_self {K : PySem.W.Frag} {C : Addr} : PySem.W.notFirst K C (.ref C) = true := by
  unfold PySem.W.notFirst
  simp
end
end MM
namespace MM
open PySem PySem.Spec PyProof.Rows L2
theorem no' {A B : Prop} {b : Bool} (hb : b = false) (h : B) : if b = true then A else B := by
  subst hb
  exact iteF h
theorem upd_keep {H H1 : Hp} {D : Addr} {o : HO} (nD : H D = none) (s : Same H H1) : Same H (L2.upd H1 D o) := fun b u e => by
  rw [upd_ne (ne_of_none e nD)]
  exact s b u e
section
variable {J : It} {n : Nat} {G : Hp → Prop} {Y : Nat → Hp → V → Hp → Prop}
/-- a comprehension without a test whose i-th thing has Ps i -/
theorem lc_all (w : Walk J n G Y) (hY : ∀ i H x H', Y i H x H' → Same H H') {g : TG} {te : TE} {vs : List Nat} {σ : L2.St} {H : Hp} {D : Addr} {Qd : Hp → Prop} (nD : H D = none) (hn : n < sizeLine) (Ps : Nat → V → Hp → Prop)
    (hm : ∀ j v H1 H2, Same H1 H2 → Ps j v H1 → Ps j v H2) (hp : ∀ j v H1 acc acc', H1 D = some (.lst acc) → Ps j v H1 → Ps j v (L2.upd H1 D (.lst acc'))) (hG : ∀ H', Same H H' → G H')
    (hs : ∀ i x H1 H2 (R : V → Hp → Prop), i < n → Same H H1 → Y i H1 x H2 → (∀ v H3, Same H2 H3 → Ps i v H3 → R v H3) → g x (wipe σ vs) H2 fun σ2 H3 => wipe σ2 vs = wipe σ vs ∧ te σ2 H3 R)
    (hd : ∀ (us : List V) H', us.length = n → H' D = some (.lst us) → Same H H' → (∀ j v, us[j]? = some v → Ps j v H') → Qd H') :
    ∃ W : Nat → Nat → Hp → Prop, (∃ m, W 0 m (L2.upd H D (.lst []))) ∧ ∀ i m H, W i m H →
      (J.stop i H ∧ Qd H) ∨ (J.go i H ∧ ∃ Nx : Hp → Prop, (∀ H', Nx H' → ∃ m', m' < m ∧ W (i + 1) m' H') ∧ ∀ x H', J.yld i H x H' → g x (wipe σ vs) H' fun σ2 H2 => wipe σ2 vs = wipe σ vs ∧ tYes σ2 H2 fun b H3 =>
        if b = true then te σ2 H3 fun y H4 => ∃ acc, H4 D = some (.lst acc) ∧ acc.length < sizeLine ∧ Nx (L2.upd H4 D (.lst (acc ++ [y]))) else Nx H3) := by
  refine lc_it w (fun i H' => ∃ us : List V, us.length = i ∧ H' D = some (.lst us) ∧ Same H H' ∧ ∀ j v, us[j]? = some v → Ps j v H') ⟨[], rfl, upd_same, upd_keep nD (Same.refl H), fun j v h => by simp at h⟩ (fun i H' _ ⟨_, _, _, s, _⟩ => hG H' s) ?_ (fun H' ⟨us, l, e, s, p⟩ => hd us H' l e s p)
  rintro i x H1 H2 hi ⟨us, hl, e, s, p⟩ y
  refine hs i x H1 H2 _ hi s y fun v H3 s3 pv => ?_
  have s2 := hY _ _ _ _ y
  have e3 := s3 _ _ (s2 _ _ e)
  refine ⟨us, e3, by omega, us ++ [v], by rw [List.length_append, hl]; rfl, upd_same, upd_keep nD (s.trans (s2.trans s3)), fun j u hj => ?_⟩
  by_cases hjl : j < us.length
  · rw [List.getElem?_append_left hjl] at hj
    exact hp _ _ _ _ _ e3 (hm _ _ _ _ (s2.trans s3) (p j u hj))
  · rw [List.getElem?_append_right (by omega)] at hj
    have ej : j = us.length := by
      by_cases hz : j - us.length = 0
      · omega
      · have : ([v] : List V)[j - us.length]? = none := List.getElem?_eq_none_iff.mpr (by simp; omega)
        rw [this] at hj
        cases hj
    subst ej
    rw [Nat.sub_self] at hj
    cases hj
    rw [hl]
    exact hp _ _ _ _ _ e3 pv
/-- a comprehension whose i-th thing is the whole number f i -/
theorem lc_ints (w : Walk J n G Y) (hY : ∀ i H x H', Y i H x H' → Same H H') {g : TG} {te : TE} {vs : List Nat} {σ : L2.St} {H : Hp} {D : Addr} {Qd : Hp → Prop} (nD : H D = none) (hn : n < sizeLine) (f : Nat → Int) (hG : ∀ H', Same H H' → G H')
    (hs : ∀ i x H1 H2 (R : V → Hp → Prop), i < n → Same H H1 → Y i H1 x H2 → (∀ H3, Same H2 H3 → R (.int (f i)) H3) → g x (wipe σ vs) H2 fun σ2 H3 => wipe σ2 vs = wipe σ vs ∧ te σ2 H3 R)
    (hd : ∀ H', H' D = some (.lst (((List.range n).map f).map V.int)) → Same H H' → Qd H') :
    ∃ W : Nat → Nat → Hp → Prop, (∃ m, W 0 m (L2.upd H D (.lst []))) ∧ ∀ i m H, W i m H →
      (J.stop i H ∧ Qd H) ∨ (J.go i H ∧ ∃ Nx : Hp → Prop, (∀ H', Nx H' → ∃ m', m' < m ∧ W (i + 1) m' H') ∧ ∀ x H', J.yld i H x H' → g x (wipe σ vs) H' fun σ2 H2 => wipe σ2 vs = wipe σ vs ∧ tYes σ2 H2 fun b H3 =>
        if b = true then te σ2 H3 fun y H4 => ∃ acc, H4 D = some (.lst acc) ∧ acc.length < sizeLine ∧ Nx (L2.upd H4 D (.lst (acc ++ [y]))) else Nx H3) := by
  refine lc_all w hY nD hn (fun i v _ => v = .int (f i)) (fun _ _ _ _ _ h => h) (fun _ _ _ _ _ _ h => h) hG (fun i x H1 H2 R hi s y k => hs i x H1 H2 R hi s y fun H3 s3 => k _ H3 s3 rfl) fun us H' l e s p => ?_
  have eu : us = ((List.range n).map f).map V.int := by
    refine List.ext_getElem? fun j => ?_
    by_cases hj : j < us.length
    · have h1 := List.getElem?_eq_getElem hj
      rw [h1, p j _ h1]
      rw [List.getElem?_map, List.getElem?_map, List.getElem?_range (by omega)]
      rfl
    · rw [List.getElem?_eq_none_iff.mpr (by omega), List.getElem?_eq_none_iff.mpr (by simp; omega)]
  subst eu
  exact hd H' e s
end
theorem yFn_same {f : Nat → V} : ∀ i H x H', YFn f i H x H' → Same H H' := fun _ _ _ _ h => by rw [h.1]; exact Same.refl _
theorem yAt_same {xs : List V} : ∀ i H x H', YAt xs i H x H' → Same H H' := fun _ _ _ _ h => by rw [h.1]; exact Same.refl _
theorem yPair_same {xs ys : Nat → Option V} : ∀ i H x H', YPair xs ys i H x H' → Same H H' := by
  rintro i H x H' ⟨T, a, b, rfl, nT, rfl, _⟩
  exact upd_keep nT (Same.refl H)
/-! ### lists of whole numbers, compared -/
theorem dps_ints {K : PySem.W.Frag} {H : Hp} : ∀ ns : List Int, DpAll K H (ns.map V.int) (ns.map PyData.int)
  | [] => .nil
  | n :: ns => .cons (.int n) (dps_ints ns)
theorem dp_ints {K : PySem.W.Frag} {H : Hp} {a : Addr} {ns : List Int} (h : H a = some (.lst (ns.map V.int))) : Dp K H (.ref a) (.list (ns.map PyData.int)) := .lst (SqL.of h) (dps_ints ns)
theorem lay_ints : ∀ ns : List Int, PyData.canLayAll0 (ns.map PyData.int) = true
  | [] => rfl
  | n :: ns => by
    rw [List.map_cons, PyData.canLayAll0, lay_ints ns]
    rfl
theorem dep_ints : ∀ ns : List Int, PyData.depthAll (ns.map PyData.int) ≤ 1
  | [] => by simp [PyData.depthAll]
  | n :: ns => by
    have h := dep_ints ns
    simp only [List.map_cons, PyData.depthAll, PyData.depth]
    omega
theorem sh_ints (ns : List Int) : SeqAt.shaped (.list (ns.map PyData.int)) = true := by
  have h := dep_ints ns
  show (PyData.canLay0 (.list (ns.map PyData.int)) && decide (PyData.depth (.list (ns.map PyData.int)) ≤ 64)) = true
  rw [Bool.and_eq_true]
  refine ⟨by simp only [PyData.canLay0]; exact lay_ints ns, decide_eq_true ?_⟩
  simp only [PyData.depth]
  omega
theorem eqv_intL (ns : List Int) : PyData.eqv (.list (ns.map PyData.int)) (.list (ns.map PyData.int)) = true := SeqAt.eqv_refl _ (by simp only [PyData.canLay0]; exact lay_ints ns)
/-! ### steps from each to the next -/
def stp (f : Nat → Int) (n : Nat) : List Int := (List.range n).map fun i => f (i + 1) - f i
theorem stp_sum (f : Nat → Int) : ∀ n, (stp f n).sum = f n - f 0
  | 0 => by simp [stp]
  | n + 1 => by
    have h := stp_sum f n
    unfold stp at *
    rw [List.range_succ, List.map_append, List.sum_append, h]
    simp
    omega
end MM
namespace MM
open PySem PySem.Spec PySem.Calls PyProof.Rows L2
/-! ### x != y where the class has an own __eq__ and no __ne__ -/
section
variable {prog : Program} {w : World} {A : Around} {E : Value → Shared → Prop} {s : Shared} {K : PySem.W.Frag} {x C L f : Addr} {h₀ : Heap} {m : Str → Option Value} {ox : Obj} {od : Option Obj} {name : Str} {b tb : Value}
theorem ifBound_B {M : Model} {id : String} {args : List Value} {Q : Option Value → Shared → Prop} (X : K.In s.heap) (I : PySem.W.InstAt s.heap x ox C od) (hs : PySem.W.findIn K (.ref C) name = some (some (.builtin id))) (S : Slot "object" name id)
    (h : wpAny M A (call (.builtin id) (.ref x :: args)) (fun v => Q (some v)) E s) : wpAny M A (callSpecialIfBound? (.ref x) name args) Q E s := by
  simp only [callSpecialIfBound?, bindSpecialIfBound?]
  refine wpAny_holding (wpAny_bind (wpAny_bind (wpAny_bind (I.type.here ((PySem.W.looks_findIn X hs).here ?_)))))
  simp only [S.bind]
  refine wpAny_bind (wpAny_askSetting (wpAny_ite ?_))
  have fin : wpAny M A (call (.builtin id) ([.ref x] ++ args) >>= fun v => pure (some v)) Q E s := wpAny_bind (wpAny_mono h (fun v s' h' => wpAny_pure h') fun _ _ h' => h')
  split
  · exact wpAny_bind (wpAny_pure (wpAny_pure fin))
  · exact wpAny_tryCatch (wpAny_bind (wpAny_pure (wpAny_pure fin)))
theorem objNe_own {Q : Fin → Shared → Prop} (X : K.In s.heap) (I : PySem.W.InstAt s.heap x ox C od) (hs : PySem.W.findIn K (.ref C) "__eq__" = some (some (.ref f))) (hf : PySem.W.isFn K (.ref f) = true) (hu : A.units < cLine)
    (hcall : wpAny (model prog w) A (call (.ref f) [.ref x, b]) (fun v s' => ∃ r, v = .bool r ∧ Q (.done (.ret (.bool (!r)))) s') E s) :
    wpAny (model prog w) A (Builtin.«object.__ne__» ⟨[.ref x, b], []⟩) Q E s := by
  obtain ⟨h, g, d, t, os⟩ := s
  unfold Builtin.«object.__ne__»
  repeat (first
    | with_reducible refine wpAny_cRoomFor hu ?_
    | (refine wpAny_bind (m := callSpecialIfBound? (.ref x) (Str.ofString "__eq__") [b])
        (PySem.W.ifBound_K X I hs hf (wpAny_mono hcall (fun r s' hr => by
          obtain ⟨b, rfl, hq⟩ := hr
          repeat (first | exact hq | exact wpAny_pure hq | exact wpAny_truthy_bool hq | (refine wpAny_bind (m := truthy (.bool _)) (wpAny_truthy_bool ?_)) | wp_step)) fun _ _ e => e)))
    | wp_step)
/-- what the written part says of such a class -/
structure NeT (K : PySem.W.Frag) (C : Addr) : Prop where
  ne : PySem.W.findIn K (.ref C) "__ne__" = some (some (.builtin "object.__ne__"))
  cls : ∃ nm q N bs hd sn sub ab col dd k0 k1 k2 k3 k5 nw, K.lookup C = some (excClassObj nm q C N bs [.type "object"] hd sn sub ab col dd k0 k1 k2 k3 k5 nw)
theorem ne_K {Q : Value → Shared → Prop} (T : NeT K C) (hu : A.units + 1 < cLine) (F : Fr h₀ L s.heap m) (X₀ : K.In h₀) (I : PySem.W.InstAt s.heap x ox C od) (hb : PySem.W.Looks (model prog w) s.heap (typeOf b) tb) (hn : PySem.W.notFirst K C tb = true)
    (hs : PySem.W.findIn K (.ref C) "__eq__" = some (some (.ref f))) (hf : PySem.W.isFn K (.ref f) = true)
    (h : wpAny (model prog w) A.in1 (call (.ref f) [.ref x, b]) (fun v s' => ∃ r, v = .bool r ∧ Q (.bool (!r)) s') E s) : wpAny (model prog w) A (richCompare .NotEq (.ref x) b) Q E s := by
  have X := X₀.keeps F.keep
  obtain ⟨nm, q, N, bs, hd, sn, sub, ab, col, dd, k0, k1, k2, k3, k5, nw, hC⟩ := T.cls
  have one : wpAny (model prog w) A (tryCompare (.ref x) "__ne__" b) (fun r s' => ∃ v, r = some v ∧ Q v s') E s := by
    unfold tryCompare
    obtain ⟨hp, g, d, t, os⟩ := s
    refine wpAny_bind (ifBound_B X I T.ne PySem.F.cmp_object.ne (wpAny_call (codeAny_call_builtin PySem.F.cmp_object.ne.plain PySem.F.cmpEntry_ne (wpAny_check_slot_inst PySem.F.cmpKind_ne PySem.F.cmpSplit_ne (PySem.F.cmpArgs_ne _ _) PySem.F.cmp_object.hasObject I.at_ I.cls (X _ _ hC) (objNe_own (A := A.in1) X I hs hf hu (wpAny_mono h (fun v s' hv => ?_) fun _ _ e => e))))))
    obtain ⟨r, rfl, hq⟩ := hv
    first | exact ⟨r, rfl, wpAny_pure ⟨_, rfl, hq⟩⟩ | exact ⟨r, rfl, wpAny_pure (wpAny_pure ⟨_, rfl, hq⟩)⟩ | exact ⟨r, rfl, ⟨_, rfl, hq⟩⟩
  unfold richCompare
  simp only [oneThing_ref]
  refine wpAny_holding (wpAny_bind (wpAny_cRoomFor (Nat.lt_of_succ_lt hu) ?_))
  refine wpAny_bind (I.type.here (wpAny_bind (hb.here ?_)))
  split
  · rename_i q
    have e : PySem.W.subIn K tb (.ref C) = some false := by
      rcases Bool.or_eq_true_iff.mp hn with e | e
      · rw [beq_iff_eq.mp e] at q
        simp at q
      · exact beq_iff_eq.mp e
    refine wpAny_bind ((PySem.W.looks_subIn X e).here ?_)
    simp only [Bool.false_eq_true, if_false]
    refine wpAny_bind (wpAny_mono one (fun r s' z => ?_) fun _ _ e => e)
    obtain ⟨v, rfl, hq⟩ := z
    exact wpAny_pure hq
  · refine wpAny_bind (wpAny_pure ?_)
    simp only [Bool.false_eq_true, if_false]
    refine wpAny_bind (wpAny_mono one (fun r s' z => ?_) fun _ _ e => e)
    obtain ⟨v, rfl, hq⟩ := z
    exact wpAny_pure hq
end
section
variable {X : Cx} {CX : CXT} {k j : Nat} {C f : Addr} {fd : FuncData} {qual : Str} {st : Stmt} {ps : List Str} {sp : Sp} {E : XK}
def rNeO (K : PySem.W.Frag) (C : Addr) (sp : Sp) (E : XK) : R2 := fun x y H Q => ∃ (a dx : Addr) (fs : List (Str × V)) (t : Value), x = .ref a ∧ H a = some (.ins C dx fs) ∧ TyX K H y t ∧ PySem.W.notFirst K C t = true ∧ sp [.ref a, y] H (fun v H' => ∃ b : Bool, v = .bl b ∧ Q (.bl (!b)) H') E
theorem op_neO (T : NeT X.K C) (F : FnOk X.prog X.w X.K X.mg X.base CX k f fd ps sp) (hs : PySem.W.findIn X.K (.ref C) "__eq__" = some (some (.ref f))) (hf : PySem.W.isFn X.K (.ref f) = true) (hb : Binds X.K fd ps []) (hx : Passes CX X E) (hr : Room (k + 1) X.A) : OpR X (compareOp .NotEq) (rNeO X.K C sp E) := by
  intro pins s σ H x y v u Q I rx ry h
  obtain ⟨a, dx, fs, t, rfl, ha, ty, nf, hq⟩ := h
  cases (show v = Value.ref a from rx)
  obtain ⟨mA, J, _⟩ := ins_get I.hok ha
  obtain ⟨od, J, _⟩ := J.look
  obtain ⟨P, kx, hP, _⟩ := kit_of I ry ty
  obtain ⟨m, fr⟩ := I.fr
  have hl : ([Value.ref a, u] ++ []).length = ps.length := (show ([V.ref a, y] : List V).length = _ from F.len _ _ _ _ hq)
  have hr1 : Room k X.A.in1 := hr.in1
  have hun : X.A.units + 1 < cLine := by
    have := hr.un
    omega
  show wpAny (model X.prog X.w) X.A (richCompare .NotEq (.ref a) u) _ _ s
  refine ne_K T hun fr I.ok.mod.kin J (kx.ty _ _ I.kIn hP) nf hs hf (wpAny_call (codeAny_mono (F.run X.A.in1 X.stack s H ⟨[.ref a, u], []⟩ [.ref a, u] [.ref a, y] _ E hr1 I.env0.in1 (hb s [.ref a, u] I.kIn hl) (.cons rfl (.cons ry .nil)) hq) fun res s' hres => ?_))
  match res, hres with
  | .error er, hres => exact hx pins σ H s er s' I hres
  | .ok .next, hres => exact hres.elim
  | .ok .brk, hres => exact hres.elim
  | .ok .cont, hres => exact hres.elim
  | .ok (.ret z0), hres =>
    obtain ⟨z, H', I', rz, b, rfl, q⟩ := I.after hres
    cases (show z0 = Value.bool b from rz)
    exact ⟨b, rfl, .bl (!b), H', I', rfl, q⟩
theorem op_neC (T : NeT X.K C) (c : Cm X.prog X.w X.K X.mg X.base CX k C "__eq__" qual st ps sp) (b : Bd "__eq__" qual st ps) (hx : Passes CX X E) (hr : Room j X.A) (hk : k + 1 ≤ j) : OpR X (compareOp .NotEq) (rNeO X.K C sp E) := by
  obtain ⟨f, fd, F, M, hc, G⟩ := c.ex
  exact op_neO T G M.at_ M.fn (F.bindsN b) hx (hr.mono hk)
end
end MM
namespace MM
open PySem PySem.Spec PyProof.Rows L2
theorem hu65 {k : Nat} {A : Around} (r : Room k A) : A.units + 65 < cLine := by
  have := r.un
  omega
section
variable {X : Cx}
/-- sum(t) of a tuple of whole numbers -/
def rSumT (K : PySem.W.Frag) : List V → Hp → VK → Prop := fun vs H Q => ∃ (a : Addr) (ns : List Int), vs = [V.ref a] ∧ SqT K H a (ns.map V.int) ∧ Q (.int ns.sum) H
theorem cr_sumT (hc : X.calm = true) : CallR X (.builtin "sum") (rSumT X.K) := by
  intro pins s σ H vs us Q I r h
  obtain ⟨a, ns, rfl, hs, q⟩ := h
  obtain ⟨its, rv, hl, _⟩ := I.tuple hs
  rw [Vals.ref1 r]
  have hi := rv.ints
  obtain ⟨xs, hx⟩ := hi.allInts.items
  have hn : numsOf its.toArray.toList = ns := by rw [show its.toArray.toList = its from rfl, hi.numsOf]
  have hl : s.heap.IsTuple a its.toArray := hl
  rw [hx] at hl hn
  rw [nums_intItems] at hn
  refine PySem.W.ktm_sumG (I.ok.hd hc) hl fun h' tk t' hk => ⟨.int _, H, I.kept hk, ⟨_, rfl⟩, ?_⟩
  rw [preSum_eq, List.take_of_length_le (by simp), hn]
  exact q
end
/-! ### data of rows of whole numbers -/
def tupD (ns : List Int) : PyData := .tuple (ns.map PyData.int)
theorem dp_tup {K : PySem.W.Frag} {H : Hp} {a : Addr} {ns : List Int} (h : H a = some (.tup (ns.map V.int))) : Dp K H (.ref a) (tupD ns) := .tup (SqT.of h) (dps_ints ns)
theorem lay_tups : ∀ zs : List (List Int), PyData.canLayAll0 (zs.map tupD) = true
  | [] => rfl
  | z :: zs => by
    rw [List.map_cons, PyData.canLayAll0, lay_tups zs, tupD, PyData.canLay0, lay_ints]
    rfl
theorem dep_tups : ∀ zs : List (List Int), PyData.depthAll (zs.map tupD) ≤ 3
  | [] => by simp [PyData.depthAll]
  | z :: zs => by
    have h := dep_tups zs
    have h2 := dep_ints z
    simp only [List.map_cons, PyData.depthAll, tupD, PyData.depth]

    omega
theorem sh_tups (zs : List (List Int)) : SeqAt.shaped (.list (zs.map tupD)) = true := by
  have h := dep_tups zs
  show (PyData.canLay0 (.list (zs.map tupD)) && decide (PyData.depth (.list (zs.map tupD)) ≤ 64)) = true
  rw [Bool.and_eq_true]
  refine ⟨by simp only [PyData.canLay0]; exact lay_tups zs, decide_eq_true ?_⟩
  simp only [PyData.depth]
  omega
theorem sh_tup (ns : List Int) : SeqAt.shaped (tupD ns) = true := by
  have h := dep_ints ns
  show (PyData.canLay0 (tupD ns) && decide (PyData.depth (tupD ns) ≤ 64)) = true
  rw [Bool.and_eq_true]
  refine ⟨by simp only [tupD, PyData.canLay0]; exact lay_ints ns, decide_eq_true ?_⟩
  simp only [tupD, PyData.depth]
  omega
theorem eqv_tup (ns : List Int) : PyData.eqv (tupD ns) (tupD ns) = true := SeqAt.eqv_refl _ (by simp only [tupD, PyData.canLay0]; exact lay_ints ns)
/-- a list whose things are the rows zs -/
def Rows (H : Hp) (us : List V) (zs : List (List Int)) : Prop := us.length = zs.length ∧ ∀ (j : Nat) (u : V), us[j]? = some u → ∃ (q : Addr) (z : List Int), u = .ref q ∧ zs[j]? = some z ∧ H q = some (.tup (z.map V.int))
theorem Rows.same {H H1 : Hp} {us : List V} {zs : List (List Int)} (h : Rows H us zs) (s : Same H H1) : Rows H1 us zs := ⟨h.1, fun j u hu => by
  obtain ⟨q, z, e1, e2, e3⟩ := h.2 j u hu
  exact ⟨q, z, e1, e2, s _ _ e3⟩⟩
theorem Rows.dps {K : PySem.W.Frag} {H : Hp} : ∀ {us : List V} {zs : List (List Int)}, Rows H us zs → DpAll K H us (zs.map tupD)
  | [], [], _ => .nil
  | [], _ :: _, h => by have := h.1; simp at this
  | _ :: _, [], h => by have := h.1; simp at this
  | u :: us, z :: zs, h => by
    obtain ⟨q, z', rfl, e2, e3⟩ := h.2 0 u rfl
    cases e2
    refine .cons (dp_tup e3) (Rows.dps ⟨by have := h.1; simpa using this, fun j v hv => h.2 (j + 1) v (by simpa using hv)⟩)
theorem Rows.dp {K : PySem.W.Frag} {H : Hp} {a : Addr} {us : List V} {zs : List (List Int)} (h : Rows H us zs) (e : H a = some (.lst us)) : Dp K H (.ref a) (.list (zs.map tupD)) := .lst (SqL.of e) h.dps
theorem any_row {zs : List (List Int)} {z : List Int} (h : z ∈ zs) : ((zs.map tupD).any fun d => PyData.eqv d (tupD z)) = true := List.any_eq_true.mpr ⟨tupD z, List.mem_map.mpr ⟨z, h, rfl⟩, eqv_tup z⟩
end MM
namespace MM
open PySem PySem.Spec PyProof.Rows L2
/-! ### calls that may raise, the names as they stand at the call -/
section
variable {X : Cx} {k j : Nat} {f : Addr} {fd : FuncData} {ps ks : List Str} {sp : Sp} {dvs : List V} {ds : List Value} {x : Str} {st : Stmt} {p pos : Pos} {e : Expr} {es : List Expr} {kws : List Keyword} {t tk : TA} {W : WX}
theorem run_fnS {pins : List (Addr × Obj)} {σ : L2.St} {H : Hp} {s : Shared} {Q : VK} {us : List Value} {vs : List V} (F : FnOk X.prog X.w X.K X.mg X.base (L2.CX X.prog X.w) k f fd ps sp) (hr : Room k X.A) (hb : Binds X.K fd ps ds) (hd : Vals dvs ds) (ht : Takes X W)
    (I : Inv X pins σ H s) (r : Vals vs us) (h : sp (vs ++ dvs) H Q (fun c d H' => W c d σ H')) : wpAny (model X.prog X.w) X.A (call (.ref f) us) (EP X pins σ Q) X.xe s := by
  have r2 : Vals (vs ++ dvs) (us ++ ds) := r.append hd
  have hl : (us ++ ds).length = ps.length := by rw [← r2.length]; exact F.len _ _ _ _ h
  refine wpAny_call (codeAny_mono (F.run X.A X.stack s H ⟨us, []⟩ (us ++ ds) (vs ++ dvs) Q _ hr I.env0 (hb s us I.kIn hl) r2 h) fun r s' hq => ?_)
  match r, hq with
  | .error e, hq => exact ht e s' (XE.of_call I (fun _ _ _ z => z) hq)
  | .ok (.ret u), hq => exact I.after hq
  | .ok .next, hq => exact False.elim hq
  | .ok .brk, hq => exact False.elim hq
  | .ok .cont, hq => exact False.elim hq
theorem pe_caS (c : Ca X.prog X.w X.K X.mg X.base (L2.CX X.prog X.w) k x st [] ps sp) (b : Bd x x st ps) (hr : Room j X.A) (hk : k ≤ j) (ht : Takes X W) (hg : Gl X x) (ha : PA X (e :: es) t)
    (hdb : (x == ("__debug__" : Str)) = false := by decide) (he : starEach (e :: es) X.env = (false, eval e X.env) :: starEach es X.env := by rfl) (hpl : (backTo pos (starEach es X.env)).any (·.1) = false := by rfl) :
    PE X (.Call (.Name x p) (e :: es) [] pos) (fun σ H Q => t σ H fun vs H1 => sp (vs ++ []) H1 Q (fun c d H' => W c d σ H')) := by
  obtain ⟨f, fd, F, hm, G⟩ := c.ex
  refine ⟨fun pins s σ H Q I h => ?_⟩
  refine wpAny_Call_Name_kw (ld_glob I hg hm ?_ hdb)
  refine PySem.W.callWith_K (h₀ := X.base) I.ok.mod.kin F.kp (thn (ha.run pos pins s σ H _ I h) fun us s1 ⟨vs, H1, I1, r, q⟩ => ⟨I1.kIn, ?_⟩) he hpl
  exact run_fnS G (hr.mono hk) (F.bindsN b) .nil ht I1 r q
theorem pe_caKS {g : {α : Type} → List α → List α → List α} (c : Ca X.prog X.w X.K X.mg X.base (L2.CX X.prog X.w) k x st [] ps sp) (b : Kb x st 0 ks ps g) (hr : Room j X.A) (hk : k ≤ j) (ht : Takes X W) (hg : Gl X x) (hkw : PK X kws tk)
    (hall : (backToKw pos (keywordEach kws X.env)).all (·.1.isSome) = true := by rfl) (hks : (backToKw pos (keywordEach kws X.env)).filterMap (·.1) = ks := by rfl) (hdb : (x == ("__debug__" : Str)) = false := by decide)
    (hpl : ((backTo pos (starEach [] X.env)).any (·.1) || (backToKw pos (keywordEach kws X.env)).any (·.1.isNone)) = false := by rfl) :
    PE X (.Call (.Name x p) [] kws pos) (fun σ H Q => tk σ H fun zs H2 => zs.length = ks.length ∧ sp (g [] zs) H2 Q (fun c d H' => W c d σ H')) := by
  obtain ⟨f, fd, F, hm, G⟩ := c.ex
  obtain ⟨kV, doc, pm, an, cdv, ct, rfl⟩ := FunD.none F
  refine ⟨fun pins s σ H Q I h => ?_⟩
  refine wpAny_Call_Name_kw (ld_glob I hg hm ?_ hdb)
  refine PySem.W.callWith_KW0 (h₀ := X.base) I.ok.mod.kin F.kp hall ?_ hpl
  refine thn (hkw.run pos pins s σ H _ I h) fun ws s2 ⟨zs, H2, I2, rz, l2, q2⟩ => ⟨I2.kIn, ?_⟩
  rw [hks]
  have r2 : Vals (g [] zs) (g [] ws) := b.rel rfl l2 .nil rz
  refine wpAny_call (codeAny_mono (G.run X.A X.stack s2 H2 ⟨[], ks.zip ws⟩ (g [] ws) (g [] zs) Q _ (hr.mono hk) I2.env0 (.of_eq (b.bind kV doc pm an cdv ct [] ws rfl (rz.length.symm.trans l2))) r2 q2) fun r s' hq => ?_)
  match r, hq with
  | .error e, hq => exact ht e s' (XE.of_call I2 (fun _ _ _ z => z) hq)
  | .ok (.ret u), hq => exact I2.after hq
  | .ok .next, hq => exact False.elim hq
  | .ok .brk, hq => exact False.elim hq
  | .ok .cont, hq => exact False.elim hq
end
end MM
namespace MM
open PySem PySem.Spec PyProof.Rows L2
/-! ### calls of a def with defaults, which may raise -/
/-- how f(.., k = v, ..) binds where f has defaults -/
structure Kdf (x : Str) (st : Stmt) (dn n : Nat) (ks ps : List Str) (g : {α : Type} → List α → List α → List α → List α) : Prop where
  bind : ∀ (T : Addr) (kV doc pm : Value) (an : Option Addr) (cdv ct : Value) (us its ws : List Value), us.length = n → its.length = dn → ws.length = ks.length →
    ∃ k, bindArgs (PySem.W.fnOf x x (defArgs st) (defBody st) (defScope st) (.ref T) kV doc pm an cdv ct) ⟨us, ks.zip ws⟩ = seqItems? (.ref T) >>= k ∧ k (some its.toArray) = pure (ps.zip (g us its ws))
  rel : ∀ {vs ds zs : List V} {us its ws : List Value}, Vals vs us → Vals ds its → Vals zs ws → Vals (g vs ds zs) (g us its ws)
theorem op_eqDK {X : Cx} {K : PySem.W.Frag} (hK : X.K = K) (hu : X.A.units + 64 < cLine) : OpR X (compareOp .Eq) (rEqD K) := by
  subst hK
  exact op_eqD hu
section
variable {X : Cx} {k j n d : Nat} {f : Addr} {fd : FuncData} {ps ks : List Str} {sp : Sp} {dvs : List V} {x : Str} {st : Stmt} {p pos : Pos} {e : Expr} {es : List Expr} {kws : List Keyword} {t tk : TA} {W : WX}
/-- f(e, ..): n values, the defaults from the d-th on -/
theorem pe_caDS (c : Ca X.prog X.w X.K X.mg X.base (L2.CX X.prog X.w) k x st dvs ps sp) (b : Bd1 x x st ps n d dvs.length) (hd : dvs ≠ []) (hn : n + (dvs.length - d) = ps.length) (hr : Room j X.A) (hk : k ≤ j) (ht : Takes X W) (hg : Gl X x) (ha : PA X (e :: es) t)
    (hdb : (x == ("__debug__" : Str)) = false := by decide) (he : starEach (e :: es) X.env = (false, eval e X.env) :: starEach es X.env := by rfl) (hpl : (backTo pos (starEach es X.env)).any (·.1) = false := by rfl) :
    PE X (.Call (.Name x p) (e :: es) [] pos) (fun σ H Q => t σ H fun vs H1 => sp (vs ++ dvs.drop d) H1 Q (fun c d H' => W c d σ H')) := by
  obtain ⟨f, fd, F, hm, G⟩ := c.ex
  obtain ⟨ds, r, bb⟩ := F.binds1 n d hd hn b
  refine ⟨fun pins s σ H Q I h => ?_⟩
  refine wpAny_Call_Name_kw (ld_glob I hg hm ?_ hdb)
  refine PySem.W.callWith_K (h₀ := X.base) I.ok.mod.kin F.kp (thn (ha.run pos pins s σ H _ I h) fun us s1 ⟨vs, H1, I1, rv, q⟩ => ⟨I1.kIn, ?_⟩) he hpl
  exact run_fnS G (hr.mono hk) bb r ht I1 rv q
theorem run_fnkS {pins : List (Addr × Obj)} {σ : L2.St} {H : Hp} {s : Shared} {Q : VK} {us ws : List Value} {vs zs : List V} {g : List Value → List Value → List Value} {gV : List V → List V → List V} (F : FnOk X.prog X.w X.K X.mg X.base (L2.CX X.prog X.w) k f fd ps sp) (hr : Room k X.A) (hb : KBn X.K fd ps n ks g gV) (ht : Takes X W)
    (I : Inv X pins σ H s) (r : Vals vs us) (rz : Vals zs ws) (l1 : vs.length = n) (l2 : zs.length = ks.length) (h : sp (gV vs zs) H Q (fun c d H' => W c d σ H')) : wpAny (model X.prog X.w) X.A (call (.ref f) us (ks.zip ws)) (EP X pins σ Q) X.xe s := by
  have r2 := hb.rel r rz
  refine wpAny_call (codeAny_mono (F.run X.A X.stack s H ⟨us, ks.zip ws⟩ (g us ws) (gV vs zs) Q _ hr I.env0 (hb.to s us ws I.kIn (r.length.symm.trans l1) (rz.length.symm.trans l2)) r2 h) fun r s' hq => ?_)
  match r, hq with
  | .error e, hq => exact ht e s' (XE.of_call I (fun _ _ _ z => z) hq)
  | .ok (.ret u), hq => exact I.after hq
  | .ok .next, hq => exact False.elim hq
  | .ok .brk, hq => exact False.elim hq
  | .ok .cont, hq => exact False.elim hq
/-- f(e, .., k = v, ..) -/
theorem pe_caDK {g : {α : Type} → List α → List α → List α → List α} (c : Ca X.prog X.w X.K X.mg X.base (L2.CX X.prog X.w) k x st dvs ps sp) (b : Kdf x st dvs.length n ks ps g) (hd : dvs ≠ []) (hr : Room j X.A) (hk : k ≤ j) (ht : Takes X W) (hg : Gl X x) (ha : PA X (e :: es) t) (hkw : PK X kws tk)
    (hall : (backToKw pos (keywordEach kws X.env)).all (·.1.isSome) = true := by rfl) (hks : (backToKw pos (keywordEach kws X.env)).filterMap (·.1) = ks := by rfl) (hdb : (x == ("__debug__" : Str)) = false := by decide)
    (he : starEach (e :: es) X.env = (false, eval e X.env) :: starEach es X.env := by rfl) (hpl : ((backTo pos (starEach (e :: es) X.env)).any (·.1) || (backToKw pos (keywordEach kws X.env)).any (·.1.isNone)) = false := by rfl) :
    PE X (.Call (.Name x p) (e :: es) kws pos) (fun σ H Q => t σ H fun vs H1 => tk σ H1 fun zs H2 => vs.length = n ∧ zs.length = ks.length ∧ sp (g vs dvs zs) H2 Q (fun c d H' => W c d σ H')) := by
  obtain ⟨f, fd, F, hm, G⟩ := c.ex
  obtain ⟨its, hb⟩ := F.kbindsD n ks g hd b.rel b.bind
  refine ⟨fun pins s σ H Q I h => ?_⟩
  refine wpAny_Call_Name_kw (ld_glob I hg hm ?_ hdb)
  refine PySem.W.callWith_KW (h₀ := X.base) I.ok.mod.kin F.kp hall (thn (ha.run pos pins s σ H _ I h) fun us s1 ⟨vs, H1, I1, r, q⟩ => ?_) hpl he
  refine thn (hkw.run pos pins s1 σ H1 _ I1 q) fun ws s2 ⟨zs, H2, I2, rz, l1, l2, q2⟩ => ⟨I2.kIn, ?_⟩
  rw [hks]
  exact run_fnkS G (hr.mono hk) hb ht I2 r rz l1 l2 q2
/-- f(k = v, ..) -/
theorem pe_caDK0 {g : {α : Type} → List α → List α → List α → List α} (c : Ca X.prog X.w X.K X.mg X.base (L2.CX X.prog X.w) k x st dvs ps sp) (b : Kdf x st dvs.length 0 ks ps g) (hd : dvs ≠ []) (hr : Room j X.A) (hk : k ≤ j) (ht : Takes X W) (hg : Gl X x) (hkw : PK X kws tk)
    (hall : (backToKw pos (keywordEach kws X.env)).all (·.1.isSome) = true := by rfl) (hks : (backToKw pos (keywordEach kws X.env)).filterMap (·.1) = ks := by rfl) (hdb : (x == ("__debug__" : Str)) = false := by decide)
    (hpl : ((backTo pos (starEach [] X.env)).any (·.1) || (backToKw pos (keywordEach kws X.env)).any (·.1.isNone)) = false := by rfl) :
    PE X (.Call (.Name x p) [] kws pos) (fun σ H Q => tk σ H fun zs H2 => zs.length = ks.length ∧ sp (g [] dvs zs) H2 Q (fun c d H' => W c d σ H')) := by
  obtain ⟨f, fd, F, hm, G⟩ := c.ex
  obtain ⟨its, hb⟩ := F.kbindsD 0 ks g hd b.rel b.bind
  refine ⟨fun pins s σ H Q I h => ?_⟩
  refine wpAny_Call_Name_kw (ld_glob I hg hm ?_ hdb)
  refine PySem.W.callWith_KW0 (h₀ := X.base) I.ok.mod.kin F.kp hall ?_ hpl
  refine thn (hkw.run pos pins s σ H _ I h) fun ws s2 ⟨zs, H2, I2, rz, l2, q2⟩ => ⟨I2.kIn, ?_⟩
  rw [hks]
  exact run_fnkS (us := []) (vs := []) G (hr.mono hk) hb ht I2 .nil rz rfl l2 q2
end
end MM
namespace MM
open PySem PySem.Spec PyProof.Rows L2
/-! ### calls of a def with defaults, which never raises -/
/-- how f(.., k = v, ..) binds where f has defaults -/
structure Kdn (x : Str) (st : Stmt) (dn n : Nat) (ks ps : List Str) (g : {α : Type} → List α → List α → List α → List α) : Prop where
  bind : ∀ (T : Addr) (kV doc pm : Value) (an : Option Addr) (cdv ct : Value) (us its ws : List Value), us.length = n → its.length = dn → ws.length = ks.length →
    ∃ k, bindArgs (PySem.W.fnOf x x (defArgs st) (defBody st) (defScope st) (.ref T) kV doc pm an cdv ct) ⟨us, ks.zip ws⟩ = seqItems? (.ref T) >>= k ∧ k (some its.toArray) = pure (ps.zip (g us its ws))
  rel : ∀ {vs ds zs : List V} {us its ws : List Value}, Vals vs us → Vals ds its → Vals zs ws → Vals (g vs ds zs) (g us its ws)
section
variable {X : Cx} {CX : CXT} {k j n d : Nat} {f : Addr} {fd : FuncData} {ps ks : List Str} {sp : Sp} {dvs : List V} {x : Str} {st : Stmt} {p pos : Pos} {e : Expr} {es : List Expr} {kws : List Keyword} {t tk : TA} {E : XK}
/-- f(e, ..): n values, the defaults from the d-th on -/
theorem pe_caD (c : Ca X.prog X.w X.K X.mg X.base CX k x st dvs ps sp) (b : Bd1 x x st ps n d dvs.length) (hd : dvs ≠ []) (hn : n + (dvs.length - d) = ps.length) (hr : Room j X.A) (hk : k ≤ j) (hx : Passes CX X E) (hg : Gl X x) (ha : PA X (e :: es) t)
    (hdb : (x == ("__debug__" : Str)) = false := by decide) (he : starEach (e :: es) X.env = (false, eval e X.env) :: starEach es X.env := by rfl) (hpl : (backTo pos (starEach es X.env)).any (·.1) = false := by rfl) :
    PE X (.Call (.Name x p) (e :: es) [] pos) (tCall sp (dvs.drop d) E t) := by
  obtain ⟨f, fd, F, hm, G⟩ := c.ex
  obtain ⟨ds, r, bb⟩ := F.binds1 n d hd hn b
  exact pe_call G (hr.mono hk) hg hm F.kp bb r hx ha hdb he hpl
theorem run_fnkP {pins : List (Addr × Obj)} {σ : L2.St} {H : Hp} {s : Shared} {Q : VK} {us ws : List Value} {vs zs : List V} {g : List Value → List Value → List Value} {gV : List V → List V → List V} (F : FnOk X.prog X.w X.K X.mg X.base CX k f fd ps sp) (hr : Room k X.A) (hb : KBn X.K fd ps n ks g gV) (hx : Passes CX X E)
    (I : Inv X pins σ H s) (r : Vals vs us) (rz : Vals zs ws) (l1 : vs.length = n) (l2 : zs.length = ks.length) (h : sp (gV vs zs) H Q E) : wpAny (model X.prog X.w) X.A (call (.ref f) us (ks.zip ws)) (EP X pins σ Q) X.xe s := by
  have r2 := hb.rel r rz
  refine wpAny_call (codeAny_mono (F.run X.A X.stack s H ⟨us, ks.zip ws⟩ (g us ws) (gV vs zs) Q _ hr I.env0 (hb.to s us ws I.kIn (r.length.symm.trans l1) (rz.length.symm.trans l2)) r2 h) fun r s' hq => ?_)
  match r, hq with
  | .error e, hq => exact hx pins σ H s e s' I hq
  | .ok (.ret u), hq => exact I.after hq
  | .ok .next, hq => exact False.elim hq
  | .ok .brk, hq => exact False.elim hq
  | .ok .cont, hq => exact False.elim hq
/-- f(e, .., k = v, ..) -/
theorem pe_caDk {g : {α : Type} → List α → List α → List α → List α} (c : Ca X.prog X.w X.K X.mg X.base CX k x st dvs ps sp) (b : Kdn x st dvs.length n ks ps g) (hd : dvs ≠ []) (hr : Room j X.A) (hk : k ≤ j) (hx : Passes CX X E) (hg : Gl X x) (ha : PA X (e :: es) t) (hkw : PK X kws tk)
    (hall : (backToKw pos (keywordEach kws X.env)).all (·.1.isSome) = true := by rfl) (hks : (backToKw pos (keywordEach kws X.env)).filterMap (·.1) = ks := by rfl) (hdb : (x == ("__debug__" : Str)) = false := by decide)
    (he : starEach (e :: es) X.env = (false, eval e X.env) :: starEach es X.env := by rfl) (hpl : ((backTo pos (starEach (e :: es) X.env)).any (·.1) || (backToKw pos (keywordEach kws X.env)).any (·.1.isNone)) = false := by rfl) :
    PE X (.Call (.Name x p) (e :: es) kws pos) (fun σ H Q => t σ H fun vs H1 => tk σ H1 fun zs H2 => vs.length = n ∧ zs.length = ks.length ∧ sp (g vs dvs zs) H2 Q E) := by
  obtain ⟨f, fd, F, hm, G⟩ := c.ex
  obtain ⟨its, hb⟩ := F.kbindsD n ks g hd b.rel b.bind
  refine ⟨fun pins s σ H Q I h => ?_⟩
  refine wpAny_Call_Name_kw (ld_glob I hg hm ?_ hdb)
  refine PySem.W.callWith_KW (h₀ := X.base) I.ok.mod.kin F.kp hall (thn (ha.run pos pins s σ H _ I h) fun us s1 ⟨vs, H1, I1, r, q⟩ => ?_) hpl he
  refine thn (hkw.run pos pins s1 σ H1 _ I1 q) fun ws s2 ⟨zs, H2, I2, rz, l1, l2, q2⟩ => ⟨I2.kIn, ?_⟩
  rw [hks]
  exact run_fnkP G (hr.mono hk) hb hx I2 r rz l1 l2 q2
/-- f(k = v, ..) -/
theorem pe_caDk0 {g : {α : Type} → List α → List α → List α → List α} (c : Ca X.prog X.w X.K X.mg X.base CX k x st dvs ps sp) (b : Kdn x st dvs.length 0 ks ps g) (hd : dvs ≠ []) (hr : Room j X.A) (hk : k ≤ j) (hx : Passes CX X E) (hg : Gl X x) (hkw : PK X kws tk)
    (hall : (backToKw pos (keywordEach kws X.env)).all (·.1.isSome) = true := by rfl) (hks : (backToKw pos (keywordEach kws X.env)).filterMap (·.1) = ks := by rfl) (hdb : (x == ("__debug__" : Str)) = false := by decide)
    (hpl : ((backTo pos (starEach [] X.env)).any (·.1) || (backToKw pos (keywordEach kws X.env)).any (·.1.isNone)) = false := by rfl) :
    PE X (.Call (.Name x p) [] kws pos) (fun σ H Q => tk σ H fun zs H2 => zs.length = ks.length ∧ sp (g [] dvs zs) H2 Q E) := by
  obtain ⟨f, fd, F, hm, G⟩ := c.ex
  obtain ⟨its, hb⟩ := F.kbindsD 0 ks g hd b.rel b.bind
  refine ⟨fun pins s σ H Q I h => ?_⟩
  refine wpAny_Call_Name_kw (ld_glob I hg hm ?_ hdb)
  refine PySem.W.callWith_KW0 (h₀ := X.base) I.ok.mod.kin F.kp hall ?_ hpl
  refine thn (hkw.run pos pins s σ H _ I h) fun ws s2 ⟨zs, H2, I2, rz, l2, q2⟩ => ⟨I2.kIn, ?_⟩
  rw [hks]
  exact run_fnkP (us := []) (vs := []) G (hr.mono hk) hb hx I2 .nil rz rfl l2 q2
end
end MM
namespace MM
open PySem PySem.Spec PyProof.Rows L2
/-! ### figures -/
def dg (d : Nat) : Nat := if d < 10 then 48 + d else 87 + d
/-- the figures, the last one first -/
def lsd (b n : Nat) : List Nat := if h : b < 2 ∨ n < b then [n] else (n % b) :: lsd b (n / b)
termination_by n
decreasing_by exact Nat.div_lt_self (by omega) (by omega)
theorem lsd_lt {b n : Nat} (h : n < b) : lsd b n = [n] := by
  rw [lsd, dif_pos (.inr h)]
theorem lsd_ge {b n : Nat} (hb : 2 ≤ b) (h : b ≤ n) : lsd b n = (n % b) :: lsd b (n / b) := by
  rw [lsd, dif_neg (by omega)]
theorem lsd_ne (b n : Nat) : lsd b n ≠ [] := by
  rw [lsd]
  split <;> simp
theorem lsd_small {b : Nat} (hb : 2 ≤ b) : ∀ (n : Nat), ∀ d ∈ lsd b n, d < b := fun n => by
  induction n using Nat.strongRecOn with
  | _ n ih =>
    intro d hd
    by_cases h : n < b
    · rw [lsd_lt h] at hd
      rw [List.mem_singleton.mp hd]
      exact h
    · rw [lsd_ge hb (by omega)] at hd
      rcases List.mem_cons.mp hd with rfl | hd
      · exact Nat.mod_lt _ (by omega)
      · exact ih (n / b) (Nat.div_lt_self (by omega) (by omega)) d hd
theorem lsd_len {b : Nat} (hb : 2 ≤ b) : ∀ (e n : Nat), n < 2 ^ e → 0 < e → (lsd b n).length ≤ e := fun e => by
  induction e with
  | zero => intro n h h0; omega
  | succ e ih =>
    intro n h h0
    by_cases hn : n < b
    · rw [lsd_lt hn]
      simp
    · rw [lsd_ge hb (by omega), List.length_cons]
      have h1 : n / b ≤ n / 2 := Nat.div_le_div_left hb (by decide)
      have h2 : n / 2 < 2 ^ e := by rw [Nat.pow_succ] at h; omega
      by_cases he : 0 < e
      · have := ih (n / b) (by omega) he
        omega
      · have e0 : e = 0 := by omega
        subst e0
        have : n / b = 0 := by omega
        rw [this, lsd_lt (by omega)]
        simp at h2 ⊢
        have hz : n / b = 0 := by omega
        have := (Nat.div_eq_zero_iff).mp hz
        omega
theorem lsd_val {b : Nat} (hb : 2 ≤ b) : ∀ n : Nat, (lsd b n).foldr (fun d a => a * b + d) 0 = n := fun n => by
  induction n using Nat.strongRecOn with
  | _ n ih =>
    by_cases h : n < b
    · rw [lsd_lt h]
      simp
    · rw [lsd_ge hb (by omega), List.foldr_cons, ih (n / b) (Nat.div_lt_self (by omega) (by omega))]
      have := Nat.div_add_mod n b
      rw [Nat.mul_comm] at this
      exact this
def sg (d : Nat) : Str := ⟨#[dg d]⟩
def txt (ds : List Nat) : Str := ⟨(ds.map dg).toArray⟩
/-- a whole number by a base -/
def numT (b : Nat) (i : Int) : Str := if i < 0 then ("-" : Str) ++ txt (lsd b i.natAbs).reverse else txt (lsd b i.natAbs).reverse
theorem str_ext {x y : Str} (h : x.cps.toList = y.cps.toList) : x = y := by
  cases x
  cases y
  congr
  exact Array.toList_inj.mp h
theorem app_cps (x y : Str) : (x ++ y).cps.toList = x.cps.toList ++ y.cps.toList := by
  show (x.cps ++ y.cps).toList = _
  simp
theorem txt_cps (ds : List Nat) : (txt ds).cps.toList = ds.map dg := rfl
theorem txt_len (ds : List Nat) : (txt ds).length = ds.length := by
  show ((ds.map dg).toArray).size = _
  simp
theorem dash_cps : ("-" : Str).cps.toList = [45] := by decide +kernel
theorem sg_txt (d : Nat) (ds : List Nat) : sg d ++ txt ds = txt (d :: ds) := str_ext (by
  rw [app_cps]
  rfl)
theorem nil_txt : ("" : Str) = txt [] := str_ext (by decide +kernel)
theorem dg_ne {d : Nat} (h : d < 16) : dg d ≠ 45 := by
  unfold dg
  split <;> omega
def FIG : Str := "0123456789abcdef"
theorem fig_len : FIG.length = 16 := by decide +kernel
theorem fig_at {d : Nat} (h : d < 16) : atI FIG.cps.toList (d : Int) = some (dg d) := by
  have : ∀ d : Fin 16, atI FIG.cps.toList ((d.val : Nat) : Int) = some (dg d.val) := by decide +kernel
  exact this ⟨d, h⟩
theorem fig_find {d : Nat} (h : d < 16) : Txt.find FIG (sg d) = (d : Int) := by
  have : ∀ d : Fin 16, Txt.find FIG (sg d.val) = ((d.val : Nat) : Int) := by decide +kernel
  exact this ⟨d, h⟩
theorem glued_nil : ∀ (ps : List Str) (acc : Array Nat), (ps.foldl (fun acc p => acc ++ ("" : Str).cps ++ p.cps) acc).toList = acc.toList ++ (ps.map fun p => p.cps.toList).flatten
  | [], acc => by simp
  | p :: ps, acc => by
    rw [List.foldl_cons, glued_nil ps]
    have e : ("" : Str).cps = #[] := by decide +kernel
    rw [e]
    simp
theorem join_nil (ps : List Str) : (Txt.join ("" : Str) ps).cps.toList = (ps.map fun p => p.cps.toList).flatten := by
  show (((ps.drop 1).foldl (fun acc p => acc ++ ("" : Str).cps ++ p.cps) (ps.headD Str.empty).cps)).toList = _
  cases ps with
  | nil => rfl
  | cons p ps =>
    show ((ps.foldl (fun acc p => acc ++ ("" : Str).cps ++ p.cps) p.cps)).toList = _
    rw [glued_nil]
    simp
theorem flat_sg : ∀ ds : List Nat, ((ds.map sg).map fun p => p.cps.toList).flatten = ds.map dg
  | [] => rfl
  | d :: ds => by
    rw [List.map_cons, List.map_cons, List.flatten_cons, flat_sg ds]
    rfl
theorem join_sg (ds : List Nat) : Txt.join ("" : Str) ((ds.map sg).reverse) = txt ds.reverse := str_ext (by
  rw [join_nil, ← List.map_reverse, flat_sg]
  rfl)
theorem join_dash (ds : List Nat) : Txt.join ("" : Str) ((ds.map sg ++ [("-" : Str)]).reverse) = ("-" : Str) ++ txt ds.reverse := str_ext (by
  rw [join_nil, List.reverse_append, ← List.map_reverse, List.map_append, List.flatten_append, flat_sg, app_cps]
  rfl)
theorem sub_iff (x y : Str) : Builtin.Str.subAt x y 0 = true ↔ x.cps.toList.take y.length = y.cps.toList := by
  unfold Builtin.Str.subAt
  rw [beq_iff_eq, ← Array.toList_inj]
  simp
theorem dash_len : ("-" : Str).length = 1 := by decide +kernel
theorem not_dash {ds : List Nat} (h0 : ds ≠ []) (h : ∀ d ∈ ds, d < 16) : Builtin.Str.subAt (txt ds) ("-" : Str) 0 = false := by
  cases hb : Builtin.Str.subAt (txt ds) ("-" : Str) 0 with
  | false => rfl
  | true =>
    have := (sub_iff _ _).mp hb
    rw [dash_len, dash_cps, txt_cps] at this
    cases ds with
    | nil => exact absurd rfl h0
    | cons d ds =>
      have e : dg d = 45 := by simpa using this
      exact absurd e (dg_ne (h d (by simp)))
theorem is_dash (ds : List Nat) : Builtin.Str.subAt (("-" : Str) ++ txt ds) ("-" : Str) 0 = true := by
  rw [sub_iff, dash_len, app_cps, dash_cps]
  rfl
theorem dash_txt_len (ds : List Nat) : (("-" : Str) ++ txt ds).length = ds.length + 1 := by
  show (("-" : Str).cps ++ (txt ds).cps).size = _
  rw [Array.size_append]
  show ("-" : Str).length + (txt ds).length = _
  rw [dash_len, txt_len]
  omega
theorem rp_txt {ds : List Nat} (h0 : ds ≠ []) (h : ∀ d ∈ ds, d < 16) : Txt.removeprefix (txt ds) ("-" : Str) = txt ds := by
  unfold Txt.removeprefix
  rw [not_dash h0 h]
  rfl
theorem rp_dash (ds : List Nat) : Txt.removeprefix (("-" : Str) ++ txt ds) ("-" : Str) = txt ds := by
  unfold Txt.removeprefix
  rw [is_dash, dash_len, dash_txt_len]
  show (if (ds.length + 1 - 1 == (("-" : Str) ++ txt ds).length) = true then _ else _) = _
  rw [dash_txt_len, if_neg (by simp)]
  refine str_ext ?_
  show ((("-" : Str) ++ txt ds).cps.extract 1 (ds.length + 1)).toList = _
  have e : (("-" : Str) ++ txt ds).cps.toList = 45 :: ds.map dg := by rw [app_cps, dash_cps]; rfl
  rw [Array.toList_extract, e, txt_cps]
  simp
  exact List.take_of_length_le (by simp)
theorem sw_txt {ds : List Nat} (h0 : ds ≠ []) (h : ∀ d ∈ ds, d < 16) : Txt.startswith (txt ds) ("-" : Str) = false := by
  unfold Txt.startswith
  rw [not_dash h0 h, Bool.and_false]
theorem sw_dash (ds : List Nat) : Txt.startswith (("-" : Str) ++ txt ds) ("-" : Str) = true := by
  unfold Txt.startswith
  rw [is_dash, dash_txt_len, dash_len]
  simp
/-! ### a text once or not at all -/
theorem op_mulS {X : Cx} : OpR X (binaryOp .Mult) (fun x y H Q => ∃ (z : Str) (b : Bool), x = .str z ∧ y = .int (if b = true then 1 else 0) ∧ Q (.str (if b = true then z else Str.empty)) H) := by
  intro pins s σ H x y v u Q I rx ry h
  obtain ⟨z, b, rfl, rfl, q⟩ := h
  obtain ⟨t, rfl⟩ := rx
  obtain ⟨t', rfl⟩ := ry
  cases b with
  | false => exact P.mul_str_none (by decide) (by decide) ⟨.str Str.empty, H, I.tok _, ⟨_, rfl⟩, q⟩
  | true =>
    refine P.mul_str (by decide) (fun _ e => by simp at e) (fun _ e => by simp at e) ?_
    rw [if_neg (by decide), if_pos (by simp)]
    exact ⟨.str z, H, I, ⟨_, rfl⟩, q⟩
end MM
namespace MM
open PySem PySem.Spec PyProof.Rows L2
/-- what try .. except C as n: m = n wishes of an exception of the body -/
def wKeep1 (K : PySem.W.Frag) (c : Value) (i j : Nat) (D : Ends) : WX := fun cls d σ H => PySem.W.exmOne K cls c = some true ∧ ∀ a, H a = none → D.nx (((σ.set i (some (.ref a))).set j (some (.ref a))).set i none) (L2.upd H a (KX a cls d))
section
variable {X : Cx} {c : Value} {x n m : Str} {i j : Nat} {body : List Stmt} {tpos np mp apos pos pos' : Pos} {tb : WX → TS}
/-- try: body / except (..) as n: m = n; nothing else leaves the body -/
theorem ps_try_keep1 (hs : X.stack = X.env :: X.outer) (hf : X.env.frame = some X.env.locals) (hex : X.ex = []) (hN : X.N.Nodup) (hi : X.N[i]? = some n) (hln : X.env.kindOf n = some .local) (hj : X.N[j]? = some m) (hlm : X.env.kindOf m = some .local) (hg : Gl X x) (hd0 : (x == ("__debug__" : Str)) = false) (hm0 : X.mg x = some c)
    (hdb : (n == ("__debug__" : Str)) = false := by decide) (hcd : (n == ("__classdict__" : Str)) = false := by decide)
    (hb : ∀ (W : WX) (pn : List (Addr × Obj)) (xe : Value → Shared → Prop), Takes (X.tr pn xe) W → PassesOwn (model X.prog X.w) X.A X.env xe → PSs (X.tr pn xe) body (tb W))
    (hsw : swapsWith (.Name n np) (some (.Name m mp)) apos.line X.env = pure false := by rfl) :
    PS X (.Try body [.ExceptHandler (some (.Name x tpos)) (some n) [.Assign [.Name m mp] (.Name n np) apos] pos'] [] [] pos) (fun D σ H => tb (wKeep1 X.K c i j D) D σ H) := by
  refine ⟨fun pins s σ H D I h => ?_⟩
  have ok := I.ok
  have hfr : X.A.frames = some (X.env :: X.outer) := by rw [ok.frames, hs]
  refine wpAny_Try_except ?_
  refine wpAny_mono ((hb (wKeep1 X.K c i j D) (X.pn ++ pins) (fun e s₁ => wpAny (model X.prog X.w) X.A (noteFrame e X.env) (fun _ s₂ => wpAny (model X.prog X.w) X.A (setFlight e none) (fun _ s₃ =>
    wpAny (model X.prog X.w) X.A (handleBy e X.env [.ExceptHandler (some (.Name x tpos)) (some n) [.Assign [.Name m mp] (.Name n np) apos] pos']) (SP X pins D) X.xe s₃) X.xe s₂) X.xe s₁) (fun u s' xx => ?_) PassesOwn.looking).run [] s σ H D (I.toTry _) h) (fun f s1 hsp => ?_) (fun e s1 he => he)
  · obtain ⟨a, B, sI, pins', σ', H', cls, d, rfl, J', nb, up, sky, na, os, ag, hB, wish⟩ := xx
    have J : Inv X pins σ' H' sI := J'.ofTry ok
    have sky' : Sky B (X.env :: X.outer) a (Zc cls d) X.env.locals s'.heap := by rw [← hs]; exact sky
    show wpAny (model X.prog X.w) X.A (noteFrame (.ref a) X.env) _ _ _
    refine Sky.land Zc.steady hfr hf sky' fun h3 fl3 up3 => ?_
    have J3 : Inv X pins σ' H' { s' with heap := h3 } := J.landed nb fl3.1 (up.trans up3) os ag
    obtain ⟨oe3, vs3, he3, hz3, hd3⟩ := fl3.there
    have nfr : a ∉ frs (X.env :: X.outer) := fun hm => by
      obtain ⟨_, o', e', hnf⟩ := fl3.2.2.1.mem hm
      rw [he3] at e'
      cases e'
      exact hnf _ hd3
    have nL : a ≠ X.env.locals := fun z => nfr (List.mem_filterMap.mpr ⟨X.env, List.mem_cons_self, by rw [hf, z]⟩)
    have nF : a ∉ X.fs := fun hm => by
      obtain ⟨e, he, q⟩ := List.mem_filterMap.mp hm
      exact nfr (List.mem_filterMap.mpr ⟨e, List.mem_cons_of_mem _ he, q⟩)
    have nI : sI.heap.get? a = none := by
      cases q : sI.heap.get? a with
      | none => rfl
      | some o =>
        have z := nb a o q (by rw [hs]; exact nfr)
        rw [fl3.2.1] at z
        cases z
    have n0 : X.s_0.heap.get? a = none := by
      cases q : X.s_0.heap.get? a with
      | none => rfl
      | some o =>
        obtain ⟨o', z⟩ := J.base.there a o q (by rw [hex]; exact fun y => nomatch y)
        rw [nI] at z
        cases z
    have nC : ∀ x c, X.env.cells.lookup x = some c → c ≠ a := fun x c e z => by
      obtain ⟨v, o, ho, _⟩ := J.cell x c e
      rw [z, nI] at ho
      cases ho
    have nP : ∀ p ∈ X.pn ++ pins, p.1 ≠ a := fun p hp z => by
      have q := (J.pin p hp).1
      rw [z, nI] at q
      cases q
    have S3 := J3.suite he3 hd3 na nL nF
    refine wpAny_handleBy_cons (codeAny_handlers_test ?_) (by intro q; cases q)
    refine ld_glob (X := X.suite a ((a, oe3) :: (X.pn ++ pins))) S3 hg hm0 ?_ hd0
    have LT : PySem.W.Looks (model X.prog X.w) h3 (typeOf (.ref a)) cls := fun A Q E s k q => wpAny_typeOf_ref (k _ _ he3) (by rw [hz3.1]; exact q)
    have LM := PySem.W.exm_one (M := model X.prog X.w) J3.kIn LT hB
    refine LM.here ?_
    refine codeAny_handlers_suite_as ?_
    refine HandSPX.lands_againZ fl3 fun h4 fl4 up4 => ?_
    have J4 : Inv X pins σ' H' { s' with heap := h4 } := J.landed nb fl4.1 ((up.trans up3).trans up4) os ag
    obtain ⟨oe4, vs4, he4, hz4, hd4⟩ := fl4.there
    have S4 := J4.suite he4 hd4 na nL nF
    refine store_ok (X := X.suite a ((a, oe4) :: (X.pn ++ pins))) (v := .ref a) S4 hN hi (.inl hln) rfl (fun s5 S5 => ?_) (.inr hln)
    have rd : PSs (X.suite a ((a, oe4) :: (X.pn ++ pins))) [.Assign [.Name m mp] (.Name n np) apos] (tAsg (tVar i) (gName j)) := pss_one (ps_set hN hj (.inl hlm) (pe_var hi (.inl hln) hdb hcd) hsw (.inr hlm))
    refine wpAny_mono (rd.run [] s5 _ H' { nx := fun σ6 H6 => σ6 = (σ'.set i (some (.ref a))).set j (some (.ref a)) ∧ H6 = H', rt := fun _ _ => False } S5 ⟨_, ?_, rfl, rfl⟩) (fun f s6 hsp => ?_) (fun _ _ z => False.elim z)
    · exact List.getElem?_set_self (by rw [J.len]; exact (List.getElem?_eq_some_iff.mp hi).1)
    · cases f with
      | next =>
        obtain ⟨σ6, H6, S6, rfl, rfl⟩ := hsp
        obtain ⟨p1, p2, _⟩ := S6.pin (a, oe4) (List.mem_append_left _ List.mem_cons_self)
        have J6 := Inv.track (S6.unsuite ok) p1 hz4 hd4 na n0 nL nC nP
        exact gone_ok J6 hN hi hln fun s7 J7 => ⟨_, _, J7, wish a na⟩
      | brk =>
        obtain ⟨_, _, _, z⟩ := hsp
        exact z.elim
      | cont =>
        obtain ⟨_, _, _, z⟩ := hsp
        exact z.elim
      | ret u =>
        obtain ⟨_, _, _, _, _, z⟩ := hsp
        exact z.elim
  · cases f with
    | next =>
      obtain ⟨σ1, H1, J1, q⟩ := hsp
      exact wpAny_execs_nil ⟨σ1, H1, J1.ofTry ok, q⟩
    | brk =>
      obtain ⟨σ1, H1, J1, q⟩ := hsp
      exact ⟨σ1, H1, J1.ofTry ok, q⟩
    | cont =>
      obtain ⟨σ1, H1, J1, q⟩ := hsp
      exact ⟨σ1, H1, J1.ofTry ok, q⟩
    | ret u =>
      obtain ⟨v1, σ1, H1, J1, r1, q⟩ := hsp
      exact ⟨v1, σ1, H1, J1.ofTry ok, r1, q⟩
end
section
variable {X : Cx} {D : Addr}
/-- isinstance(x, (c, ..)), x a kept exception -/
def rIsKT (K : PySem.W.Frag) (D : Addr) : List V → Hp → VK → Prop := fun xs H Q => ∃ (a oD : Addr) (fs : List (Str × V)) (tp : Addr) (cs : List V) (us : List Value) (b : Bool), xs = [.ref a, .ref tp] ∧ H a = some (KX a (.ref D) (some oD)) ∧ H oD = some (.xd fs) ∧ H tp = some (.tup cs) ∧ Paired ClsV cs us ∧ PySem.W.kitAny K (.ref D) us = some b ∧ Q (.bl b) H
theorem call_isKT (C : XcF X.K D) : CallR X (.builtin "isinstance") (rIsKT X.K D) := by
  intro pins s σ H xs us Q I r h
  obtain ⟨a, oD, fs, tp, cs, ws, b, rfl, ha, hd, hT, k, e, q⟩ := h
  obtain ⟨u1, u2, rfl, r1, r2⟩ := vals2 r
  cases (show u1 = Value.ref a from r1)
  cases (show u2 = Value.ref tp from r2)
  obtain ⟨ox, od, _, J, _⟩ := kept_inst I ha hd
  obtain ⟨_, its, rv, o, h1, h2, n, h3⟩ := (show ObjOk X.prog X.w H s.heap tp (.tup cs) from I.hok tp _ hT)
  have e3 := ClsV.all k rv
  subst e3
  obtain ⟨oc, od', dt, sl⟩ := o
  simp only at h2 h3
  subst h2 h3
  exact PySem.W.kia_tup (kitx_kept C) I.kIn ⟨ox, _, J⟩ h1 e (fun z => nomatch z) fun tk => ⟨.bl b, H, I.kept (t' := tk) fun _ _ z => z, rfl, q⟩
end
end MM
namespace MM
open PySem PySem.Spec PySem.Calls PyProof.Rows L2
section
variable {X : Cx} {a : Expr} {ta : TE}
/-- x is not False, x a truth -/
def tNotF (ta : TE) : TE := fun σ H Q => ta σ H fun x H1 => ∃ b : Bool, x = .bl b ∧ Q (.bl b) H1
theorem pc_notF {j : Nat} {pos' : Pos} (ha : PE X a ta) : PC X .IsNot a (.Constant (.bool false) j pos') (tNotF ta) := by
  refine ⟨fun pins s σ H Q I h => ?_⟩
  refine thn (ha.run pins s σ H _ I h) fun v s1 ⟨x, H1, I1, r1, b, ex, q1⟩ => ?_
  subst ex
  cases (show v = Value.bool b from r1)
  refine Constant_bool ?_
  cases b with
  | true => exact wpAny_pure (a := Value.bool (!(Value.bool true == Value.bool false))) ⟨.bl true, H1, I1, rfl, q1⟩
  | false => exact wpAny_pure (a := Value.bool (!(Value.bool false == Value.bool false))) ⟨.bl false, H1, I1, rfl, q1⟩
end
/-- str(x) of a whole number, or of an instance with its own __str__ -/
@[irreducible] def rSI (C : Addr) (sp : Sp) (E : XK) : List V → Hp → VK → Prop := fun xs H Q => (∃ i : Int, xs = [.int i] ∧ i.natAbs.log2 < 1920 ∧ Q (.str (toString i)) H) ∨ rStrO C sp E xs H Q
theorem call_str_IS {X : Cx} {CX : CXT} {k : Nat} {C : Addr} {qual : Str} {st : Stmt} {ps : List Str} {sp : Sp} {E : XK} (c : Cm X.prog X.w X.K X.mg X.base CX k C "__str__" qual st ps sp) (b : Bd "__str__" qual st ps) (hr : Room (k + 2) X.A) (hx : Passes CX X E) :
    CallR X (.type "str") (rSI C sp E) := by
  obtain ⟨f, fd, F, M, hc, G⟩ := c.ex
  unfold rSI
  exact CallR.or call_str_int (call_strO G M.1 M.2 (F.bindsN b) hx hr)
end MM
namespace MM
open PySem PySem.Spec PySem.Calls PyProof.Rows L2
/-! ### figures by ten are what str tells -/
theorem dg_char {d : Nat} (h : d < 10) : d.digitChar.toNat = dg d := by
  have : ∀ d : Fin 10, d.val.digitChar.toNat = dg d.val := by decide
  exact this ⟨d, h⟩
theorem digits_lsd : ∀ n : Nat, (Nat.toDigits 10 n).map Char.toNat = (lsd 10 n).reverse.map dg := fun n => by
  induction n using Nat.strongRecOn with
  | _ n ih =>
    by_cases h : n < 10
    · rw [Nat.toDigits_of_lt_base h, lsd_lt h]
      show [n.digitChar.toNat] = [dg n]
      rw [dg_char h]
    · rw [Nat.toDigits_of_base_le (by decide) (by omega), lsd_ge (by decide) (by omega), List.map_append, ih (n / 10) (by omega), List.reverse_cons, List.map_append]
      show _ ++ [(n % 10).digitChar.toNat] = _ ++ [dg (n % 10)]
      rw [dg_char (by omega)]
theorem of_cps (s : String) : (Str.ofString s).cps.toList = s.toList.map Char.toNat := by
  show (cpsOfBytes 0 0 s.toByteArray.data.toList).toArray.toList = _
  rw [cpsOfBytes_string]
theorem nat_txt (n : Nat) : Str.ofString n.repr = txt (lsd 10 n).reverse := str_ext (by
  rw [of_cps, txt_cps]
  unfold Nat.repr
  rw [String.toList_ofList]
  exact digits_lsd n)
theorem numT_str (i : Int) : Str.ofString (toString i) = numT 10 i := by
  cases i with
  | ofNat m =>
    show Str.ofString m.repr = _
    unfold numT
    rw [if_neg (show ¬ Int.ofNat m < 0 from Int.not_lt.mpr (Int.natCast_nonneg m)), nat_txt]
    rfl
  | negSucc m =>
    show Str.ofString ("-" ++ m.succ.repr) = _
    unfold numT
    rw [if_pos (by omega)]
    refine str_ext ?_
    rw [of_cps, String.toList_append, List.map_append, app_cps, dash_cps]
    have e : m.succ.repr.toList.map Char.toNat = (txt (lsd 10 m.succ).reverse).cps.toList := by rw [← nat_txt, of_cps]
    rw [e]
    rfl
/-! ### repr(x) of an instance with its own __repr__ -/
def rReprO (C : Addr) (sp : Sp) (E : XK) : List V → Hp → VK → Prop := fun xs H Q => ∃ (a dx : Addr) (fs : List (Str × V)), xs = [.ref a] ∧ H a = some (.ins C dx fs) ∧ sp [.ref a] H (fun v H' => ∃ x : Str, v = .str x ∧ Q (.str x) H') E
theorem call_reprO {X : Cx} {CX : CXT} {k : Nat} {C f : Addr} {fd : FuncData} {ps : List Str} {sp : Sp} {E : XK} (F : FnOk X.prog X.w X.K X.mg X.base CX k f fd ps sp) (hs : PySem.W.findIn X.K (.ref C) "__repr__" = some (some (.ref f))) (hf : PySem.W.isFn X.K (.ref f) = true) (hb : Binds X.K fd ps []) (hx : Passes CX X E) (hr : Room (k + 1) X.A) : CallR X (.builtin "repr") (rReprO C sp E) := by
  intro pins s σ H xs us Q I r h
  obtain ⟨a, dx, fs, rfl, ha, hq⟩ := h
  obtain ⟨u, rfl, r1⟩ := vals1 r
  cases (show u = Value.ref a from r1)
  obtain ⟨mA, J, _⟩ := ins_get I.hok ha
  obtain ⟨od, J, _⟩ := J.look
  obtain ⟨m, fr⟩ := I.fr
  have hr1 : Room k X.A.in1 := hr.in1
  have hl : ([Value.ref a] ++ []).length = ps.length := (show ([V.ref a] : List V).length = _ from F.len _ _ _ _ hq)
  refine PySem.W.repr_K hr1.units0 fr I.ok.mod.kin J hs hf (wpAny_call (codeAny_mono (F.run X.A.in1 X.stack s H ⟨[.ref a], []⟩ [.ref a] [.ref a] _ E hr1 I.env0.in1 (hb s [.ref a] I.kIn hl) (.cons rfl .nil) hq) fun res s' hres => ?_))
  match res, hres with
  | .error er, hres => exact hx pins σ H s er s' I hres
  | .ok .next, hres => exact hres.elim
  | .ok .brk, hres => exact hres.elim
  | .ok .cont, hres => exact hres.elim
  | .ok (.ret u), hres =>
    obtain ⟨z, H', I', rz, x, rfl, q⟩ := I.after hres
    obtain ⟨t, rfl⟩ := rz
    exact ⟨.str x, H', I', ⟨t, rfl⟩, q⟩
end MM
namespace MM
open PySem PySem.Spec PySem.Calls PyProof.Rows L2
/-! ### x in [..] where a comparison runs code of its own -/
section
variable {prog : Program} {w : World} {A : Around} {R : Result → Shared → Prop}
theorem in_loopG (l : Addr) (x : Value) (N : Nat) (B : Nat → Bool) (Iv : Nat → Shared → Prop)
    (hl : ∀ i s, Iv i s → ∃ (its : Array Value) (n : Nat), s.heap.get? l = some { cls := .type "list", data := .seq its n } ∧ its.size = N ∧ ∀ h : i < its.size, wpAny (model prog w) A.in1 (eqBool its[i] x) (fun r s' => r = B i ∧ Iv (i + 1) s') (fun e s' => R (.error e) s') s)
    (fT : ∀ i s, i < N → B i = true → Iv (i + 1) s → R (.ok (.ret (.bool true))) s) (fF : (∀ j, j < N → B j = false) → ∀ s, Iv N s → R (.ok (.ret (.bool false))) s) (k : Nat) :
    ∀ i : Nat, N - i = k → i ≤ N → (∀ j, j < i → B j = false) → ∀ s, Iv i s →
      wpAny (model prog w) A.in1 (Builtin.«list.__contains__.loop» ⟨[.ref l, x, rawInt i], []⟩) (GQ.FinOf prog w A R) (fun e s' => R (.error e) s') s := by
  induction k with
  | zero =>
    intro i hk hi hno s h
    obtain ⟨its, n, h1, hs, _⟩ := hl _ _ h
    have ei : i = N := by omega
    subst ei
    have hR := fF hno s h
    obtain ⟨hp, g, d, tk, os⟩ := s
    wp_walk using wpAny_loadPart' h1
    have e1 : its[((i : Nat) : Int).toNat]? = none := by simp; omega
    rw [e1]
    wp_walk
    exact hR
  | succ k ih =>
    intro i hk hi hno s h
    obtain ⟨its, n, h1, hs, turn⟩ := hl _ _ h
    have hlt : i < its.size := by omega
    have ht := turn hlt
    obtain ⟨hp, g, d, tk, os⟩ := s
    wp_walk using wpAny_loadPart' h1
    have e1 : its[((i : Nat) : Int).toNat]? = some its[i] := by simp [hlt]
    have hc : ((i : Int) + 1) = ((i + 1 : Nat) : Int) := by omega
    rw [e1]
    refine wpAny_bind (wpAny_mono ht (fun r s2 h2 => ?_) fun _ _ z => z)
    obtain ⟨hr, h2⟩ := h2
    cases hb : B i with
    | true =>
      rw [hb] at hr
      subst hr
      have hR := fT i s2 (by omega) hb h2
      obtain ⟨hp2, g2, d2, tk2, os2⟩ := s2
      wp_walk
      exact hR
    | false =>
      rw [hb] at hr
      subst hr
      have hrec := ih (i + 1) (by omega) (by omega) (fun j hj => by
        by_cases e : j = i
        · subst e
          exact hb
        · exact hno j (by omega)) s2 h2
      obtain ⟨hp2, g2, d2, tk2, os2⟩ := s2
      wp_walk
      rw [hc]
      exact ⟨plainId_quiet PySem.MeetsSeq.plain_contains_loop _, codeAny_builtin PySem.MeetsSeq.entry_contains_loop (by
        rw [Around.under_plainId PySem.MeetsSeq.plain_contains_loop _]
        exact hrec)⟩
theorem in_listG {E : Value → Shared → Prop} {s : Shared} {Q : Value → Shared → Prop} (l : Addr) (x : Value) (N : Nat) (B : Nat → Bool) (Iv : Nat → Shared → Prop)
    (hl : ∀ i s, Iv i s → ∃ (its : Array Value) (n : Nat), s.heap.get? l = some { cls := .type "list", data := .seq its n } ∧ its.size = N ∧ ∀ h : i < its.size, wpAny (model prog w) A.in1 (eqBool its[i] x) (fun r s' => r = B i ∧ Iv (i + 1) s') E s)
    (fT : ∀ i s, i < N → B i = true → Iv (i + 1) s → Q (.bool true) s) (fF : (∀ j, j < N → B j = false) → ∀ s, Iv N s → Q (.bool false) s) (h : Iv 0 s) : wpAny (model prog w) A (compareOp .In x (.ref l)) Q E s := by
  obtain ⟨its, n, h1, _, _⟩ := hl _ _ h
  show wpAny _ A (do return .bool (← contains (.ref l) x)) Q E s
  refine wpAny_bind (wpAny_contains_slot ⟨_, h1, rfl⟩ F.slot_list_contains (wpAny_mono (GQ.call_here (Q := fun v s' => ∃ b, v = .bool b ∧ Q (.bool b) s') F.slot_list_contains ⟨_, h1, rfl⟩ F.entry_list_contains (F.args_list_contains_2 _ _) ?_) (fun v s' hv => ?_) fun _ _ e => e))
  · have go := in_loopG (prog := prog) (w := w) (A := A) (R := wants (fun v s' => ∃ b, v = .bool b ∧ Q (.bool b) s') E) l x N B Iv hl (fun i s hi hb q => ⟨true, rfl, fT i s hi hb q⟩) (fun hno s q => ⟨false, rfl, fF hno s q⟩) (N - 0) 0 rfl (Nat.zero_le _) (fun j hj => absurd hj (Nat.not_lt_zero j)) s h
    obtain ⟨hp, g, d, tk, os⟩ := s
    wp_walk
    exact ⟨plainId_quiet PySem.MeetsSeq.plain_contains_loop _, codeAny_builtin PySem.MeetsSeq.entry_contains_loop (by
      rw [Around.under_plainId PySem.MeetsSeq.plain_contains_loop _]
      exact go)⟩
  · obtain ⟨b, rfl, hq⟩ := hv
    exact wpAny_truthy_bool (wpAny_pure hq)
end
/-- == inside a builtin, with either answer: it may run code, and the heap may grow -/
def EqB (X : Cx) (n : Nat) (D : V → V → Hp → Bool → Prop) : Prop :=
  ∀ (A : Around) (pins : List (Addr × Obj)) (s : Shared) (σ : L2.St) (H : Hp) (x y : V) (u v : Value) (b : Bool), L2.Sub X n A → Inv X pins σ H s → RelV x u → RelV y v → D x y H b →
    wpAny (model X.prog X.w) A (eqBool u v) (fun r s' => r = b ∧ ∃ H', Inv X pins σ H' s' ∧ Ext H H') X.xe s
/-- x in [..]: B i tells whether the i-th thing is == x -/
def rInG (D : V → V → Hp → Bool → Prop) : R2 := fun x y H Q => ∃ (p : Addr) (xs : List V) (B : Nat → Bool), y = .ref p ∧ H p = some (.lst xs) ∧ (∀ i z, xs[i]? = some z → ∀ H', Ext H H' → D z x H' (B i)) ∧ ∀ H', Ext H H' → Q (.bl ((List.range xs.length).any B)) H'
theorem op_inG {X : Cx} {n : Nat} {D : V → V → Hp → Bool → Prop} (h : EqB X n D) (hr : Room (n + 1) X.A) : OpR X (compareOp .In) (rInG D) := by
  intro pins s σ H x y v u Q I rx ry hq
  obtain ⟨p, xs, B, rfl, hp, hD, q⟩ := hq
  cases (show u = Value.ref p from ry)
  have sb : L2.Sub X (n + 1) X.A := ⟨hr, rfl⟩
  refine in_listG (A := X.A) p v xs.length B (fun _ s' => ∃ H', Inv X pins σ H' s' ∧ Ext H H') ?_ ?_ ?_ ⟨H, I, Ext.rfl'⟩
  · rintro i s' ⟨H', I', e⟩
    obtain ⟨z, its, k, r, ek⟩ := I'.hok p _ (e _ _ hp)
    refine ⟨its.toArray, k, ek, by rw [List.size_toArray, ← r.length], fun h1 => ?_⟩
    have hi : i < its.length := by simpa using h1
    have hx : i < xs.length := by rw [r.length]; exact hi
    obtain ⟨w, hw, rw'⟩ := r.get (List.getElem?_eq_getElem hx)
    have ew : its.toArray[i] = w := by
      rw [List.getElem?_eq_getElem hi] at hw
      simpa using Option.some.inj hw
    rw [ew]
    refine wpAny_mono (h X.A.in1 pins s' σ H' _ x w v (B i) sb.in1 I' rw' rx (hD i _ (List.getElem?_eq_getElem hx) H' e)) (fun c s2 z2 => ?_) fun _ _ y => y
    obtain ⟨hc, H2, I2, e2⟩ := z2
    exact ⟨hc, H2, I2, e.trans e2⟩
  · rintro i s' hi hb ⟨H', I', e⟩
    refine ⟨.bl true, H', I', rfl, ?_⟩
    have z := q H' e
    have ea : (List.range xs.length).any B = true := List.any_eq_true.mpr ⟨i, List.mem_range.mpr hi, hb⟩
    rw [ea] at z
    exact z
  · rintro hno s' ⟨H', I', e⟩
    refine ⟨.bl false, H', I', rfl, ?_⟩
    have z := q H' e
    have ea : (List.range xs.length).any B = false := by
      rw [List.any_eq_false]
      intro j hj
      rw [hno j (List.mem_range.mp hj)]
      decide
    rw [ea] at z
    exact z
end MM
namespace MM
open PySem PySem.Spec PySem.Calls PyProof.Rows L2
open AutoSeq1 (wpAny_loadPart')
/-! ### plain things == an instance: they decline, the instance's own __eq__ is asked -/
section
theorem int_dec_b (b : Bool) (l C dx : Addr) : Meets (Builtin.«int.__eq__» ⟨[.bool b, .ref l], []⟩) (fun _ R s => s.heap.get? l = some (PySem.W.instObj C dx) ∧ R (.ok (.ret .notImplemented)) s) :=
  .of_wp fun prog w A R s h => by obtain ⟨hp, g, d, tk, os⟩ := s; obtain ⟨hl, h⟩ := h; wp_walk using wpAny_loadPart' hl, wpAny_load hl; exact ⟨_, rfl, h⟩
theorem int_dec_i (b : Int) (u : Tok) (l C dx : Addr) : Meets (Builtin.«int.__eq__» ⟨[.int b u, .ref l], []⟩) (fun _ R s => s.heap.get? l = some (PySem.W.instObj C dx) ∧ R (.ok (.ret .notImplemented)) s) :=
  .of_wp fun prog w A R s h => by obtain ⟨hp, g, d, tk, os⟩ := s; obtain ⟨hl, h⟩ := h; wp_walk using wpAny_loadPart' hl, wpAny_load hl; exact ⟨_, rfl, h⟩
theorem str_dec_s (b : Str) (u : Tok) (l C dx : Addr) : Meets (Builtin.«str.__eq__» ⟨[.str b u, .ref l], []⟩) (fun _ R s => s.heap.get? l = some (PySem.W.instObj C dx) ∧ R (.ok (.ret .notImplemented)) s) :=
  .of_wp fun prog w A R s h => by obtain ⟨hp, g, d, tk, os⟩ := s; obtain ⟨hl, h⟩ := h; wp_walk using wpAny_loadPart' hl, wpAny_load hl; exact ⟨_, rfl, h⟩
end
section
variable {prog : Program} {w : World} {A : Around} {E : Value → Shared → Prop} {s : Shared} {K : PySem.W.Frag} {x C L f dx : Addr} {h₀ : Heap} {m : Str → Option Value} {od : Option Obj} {a : Value} {T : String}
/-- richCompare a x where a is of a built-in type and declines -/
theorem rc_back {Q : Value → Shared → Prop} (hu : A.units < cLine) (F : Fr h₀ L s.heap m) (X₀ : K.In h₀) (I : PySem.W.InstAt s.heap x (PySem.W.instObj C dx) C od) (ha : s.TypeIs a T) (hsub : PySem.W.subIn K (.ref C) (.type T) = some false)
    (one : wpAny (model prog w) A (tryCompare a "__eq__" (.ref x)) (fun r s' => r = none ∧ s' = s) E s)
    (hs : PySem.W.findIn K (.ref C) "__eq__" = some (some (.ref f))) (hf : PySem.W.isFn K (.ref f) = true)
    (h : wpAny (model prog w) A (call (.ref f) [.ref x, a]) (PySem.W.CmpBack Q) E s) : wpAny (model prog w) A (richCompare .Eq a (.ref x)) Q E s := by
  have X := X₀.keeps F.keep
  have two : wpAny (model prog w) A (tryCompare (.ref x) "__eq__" a) (fun r s' => ∃ v, r = some v ∧ Q v s') E s := by
    unfold tryCompare
    refine wpAny_bind (PySem.W.ifBound_K X I hs hf (wpAny_mono h (fun v s' hv => ?_) fun _ _ e => e))
    cases v <;> first | exact hv.elim | exact wpAny_pure ⟨_, rfl, hv⟩
  simp only [richCompare, cmpInfo, ha.oneThing_none]
  refine wpAny_holding (wpAny_bind (wpAny_cRoomFor hu ?_))
  refine wpAny_bind (wpAny_typeOf ha (wpAny_bind (I.type.here ?_)))
  have hne : (Value.type T != Value.ref C) = true := rfl
  simp only [hne, if_true]
  refine wpAny_bind ((PySem.W.looks_subIn X hsub).here ?_)
  simp only [Bool.false_eq_true, if_false, Bool.not_false, if_true]
  refine wpAny_bind (m := tryCompare a _ (.ref x)) (wpAny_mono one (fun r s1 z => ?_) fun _ _ e => e)
  obtain ⟨z1, z2⟩ := z
  subst z1
  subst z2
  refine wpAny_bind (m := tryCompare (.ref x) _ a) (wpAny_mono two (fun r s2 z => ?_) fun _ _ e => e)
  obtain ⟨v, rfl, hq⟩ := z
  exact wpAny_pure hq
end

/-! ### == inside a builtin by an own __eq__, either way about -/
/-- what is of a built-in type and declines beside an instance -/
inductive Pl (K : PySem.W.Frag) (H : Hp) : V → String → Prop where
  | non : Pl K H .non "NoneType"
  | bl (b : Bool) : Pl K H (.bl b) "bool"
  | int (i : Int) : Pl K H (.int i) "int"
  | str (x : Str) : Pl K H (.str x) "str"
  | tup {a : Addr} {xs : List V} (h : H a = some (.tup xs)) : Pl K H (.ref a) "tuple"
  | lst {a : Addr} {xs : List V} (h : H a = some (.lst xs)) : Pl K H (.ref a) "list"
section
variable {prog : Program} {w : World} {A : Around} {E : Value → Shared → Prop} {s : Shared} {K : PySem.W.Frag} {x l C dx : Addr} {od : Option Obj}
theorem tup_dec {items : Array Value} {Q : Option Value → Shared → Prop} (X : K.In s.heap) (I : PySem.W.InstAt s.heap x (PySem.W.instObj C dx) C od) (hl : s.heap.IsTuple l items) (hsub : PySem.W.subIn K (.ref C) (.type "tuple") = some false) (q : Q none s) :
    wpAny (model prog w) A (tryCompare (.ref l) "__eq__" (.ref x)) Q E s := by
  obtain ⟨⟨cls, dd, data, sl⟩, ho, hc, n, hd⟩ := id hl
  simp only at hc hd
  subst hc hd
  refine wpAny_tryCompare_declines ⟨_, ho, rfl⟩ PySem.F.slot_tuple_eq (GQ.call_here PySem.F.slot_tuple_eq ⟨_, ho, rfl⟩ PySem.F.entry_tuple_eq (PySem.F.args_tuple_eq_2 _ _) ?_)
  have L : PySem.W.Looks (model prog w) s.heap (isInstance (.ref x) (.type "tuple")) false := I.type.andThen (PySem.W.looks_subIn X hsub)
  obtain ⟨hp, g, d, tk, os⟩ := s
  wp_walk using wpAny_loadPart' ho, L.here
  exact ⟨rfl, q⟩
theorem lst_dec {items : Array Value} {n : Nat} {Q : Option Value → Shared → Prop} (X : K.In s.heap) (I : PySem.W.InstAt s.heap x (PySem.W.instObj C dx) C od) (ho : s.heap.get? l = some { cls := .type "list", data := .seq items n }) (hsub : PySem.W.subIn K (.ref C) (.type "list") = some false) (q : Q none s) :
    wpAny (model prog w) A (tryCompare (.ref l) "__eq__" (.ref x)) Q E s := by
  refine wpAny_tryCompare_declines ⟨_, ho, rfl⟩ PySem.F.slot_list_eq (GQ.call_here PySem.F.slot_list_eq ⟨_, ho, rfl⟩ PySem.F.entry_list_eq (PySem.F.args_list_eq_2 _ _) ?_)
  have L : PySem.W.Looks (model prog w) s.heap (isInstance (.ref x) (.type "list")) false := I.type.andThen (PySem.W.looks_subIn X hsub)
  obtain ⟨hp, g, d, tk, os⟩ := s
  wp_walk using wpAny_loadPart' ho, L.here
  exact ⟨rfl, q⟩
end
theorem pl_dec {X : Cx} {pins : List (Addr × Obj)} {σ : L2.St} {H : Hp} {s : Shared} {A : Around} {z : V} {u : Value} {T : String} {x C dx : Addr} {od : Option Obj} {E : Value → Shared → Prop} (I : Inv X pins σ H s) (p : Pl X.K H z T) (r : RelV z u) (J : PySem.W.InstAt s.heap x (PySem.W.instObj C dx) C od)
    (hsub : PySem.W.subIn X.K (.ref C) (.type T) = some false) : s.TypeIs u T ∧ wpAny (model X.prog X.w) A (tryCompare u "__eq__" (.ref x)) (fun r s' => r = none ∧ s' = s) E s := by
  cases p with
  | non =>
    cases (show u = Value.none from r)
    exact ⟨rfl, wpAny_tryCompare_declines rfl PySem.F.slot_NoneType_eq (call_gives PySem.F.slot_NoneType_eq rfl PySem.F.entry_NoneType_eq (PySem.F.args_NoneType_eq_2 _ _) (SeqAt.NoneType___eq___none_ref_0 x) ⟨rfl, rfl, rfl⟩)⟩
  | bl b =>
    cases (show u = Value.bool b from r)
    exact ⟨rfl, wpAny_tryCompare_declines rfl PySem.F.slot_bool_eq (call_meets PySem.F.slot_bool_eq rfl PySem.F.entry_int_eq (PySem.F.args_int_eq_2 _ _) (int_dec_b b x C dx) ⟨J.at_, rfl, rfl, rfl⟩)⟩
  | int i =>
    obtain ⟨t, rfl⟩ := r
    exact ⟨typeIs_int s i t, wpAny_tryCompare_declines (typeIs_int s i t) PySem.F.slot_int_eq (call_meets PySem.F.slot_int_eq (typeIs_int s i t) PySem.F.entry_int_eq (PySem.F.args_int_eq_2 _ _) (int_dec_i i t x C dx) ⟨J.at_, rfl, rfl, rfl⟩)⟩
  | str y =>
    obtain ⟨t, rfl⟩ := r
    exact ⟨typeIs_str s y t, wpAny_tryCompare_declines (typeIs_str s y t) PySem.F.slot_str_eq (call_meets PySem.F.slot_str_eq (typeIs_str s y t) PySem.F.entry_str_eq (PySem.F.args_str_eq_2 _ _) (str_dec_s y t x C dx) ⟨J.at_, rfl, rfl, rfl⟩)⟩
  | tup h =>
    rename_i a xs
    cases (show u = Value.ref a from r)
    obtain ⟨its, r2, e, z⟩ := I.tuple (SqT.of h)
    refine ⟨?_, tup_dec I.kIn J e hsub ⟨rfl, rfl⟩⟩
    obtain ⟨o, ho, hc, n, hd⟩ := e
    exact ⟨o, ho, hc⟩
  | lst h =>
    rename_i a xs
    cases (show u = Value.ref a from r)
    obtain ⟨z, its, k, r2, e⟩ := I.hok a _ h
    exact ⟨⟨_, e, rfl⟩, lst_dec I.kIn J e hsub ⟨rfl, rfl⟩⟩
def DOwn (K : PySem.W.Frag) (C : Addr) (sp : Sp) (E : XK) : V → V → Hp → Bool → Prop := fun z x H b =>
  (∃ (a dx : Addr) (fs : List (Str × V)), z = .ref a ∧ H a = some (.ins C dx fs) ∧ ((x = .ref a ∧ b = true) ∨ (x ≠ .ref a ∧ ∃ t, TyX K H x t ∧ PySem.W.notFirst K C t = true ∧ sp [z, x] H (fun v H' => v = .bl b ∧ Ext H H') E))) ∨
  (∃ (a dx : Addr) (fs : List (Str × V)) (T : String), x = .ref a ∧ H a = some (.ins C dx fs) ∧ Pl K H z T ∧ PySem.W.subIn K (.ref C) (.type T) = some false ∧ sp [x, z] H (fun v H' => v = .bl b ∧ Ext H H') E)
theorem rel_ne {x : V} {v : Value} {a : Addr} (r : RelV x v) (h : x ≠ .ref a) : (Value.ref a == v) = false ∧ (v == Value.ref a) = false := by
  constructor
  · rw [beq_eq_false_iff_ne]
    intro z
    subst z
    apply h
    cases x <;> first | (cases r; rfl) | (obtain ⟨_, z⟩ := r; cases z) | (cases r)
  · rw [beq_eq_false_iff_ne]
    intro z
    subst z
    apply h
    cases x <;> first | (cases r; rfl) | (obtain ⟨_, z⟩ := r; cases z) | (cases r)
theorem env_sub {X : Cx} {n : Nat} {A : Around} {pins : List (Addr × Obj)} {σ : L2.St} {H : Hp} {s : Shared} (sb : L2.Sub X n A) (I : Inv X pins σ H s) : Env0 X.prog X.w X.K X.mg X.base A X.stack s H := by
  have e := I.env0
  exact ⟨by rw [sb.fr]; exact e.frames, e.mod, e.bs, e.bsz, e.funs, e.frf, e.hok, e.bare⟩
theorem eqB_own {X : Cx} {n : Nat} {CX : CXT} {C f : Addr} {fd : FuncData} {ps : List Str} {sp : Sp} {E : XK} (F : FnOk X.prog X.w X.K X.mg X.base CX n f fd ps sp)
    (hs : PySem.W.findIn X.K (.ref C) "__eq__" = some (some (.ref f))) (hf : PySem.W.isFn X.K (.ref f) = true) (hb : Binds X.K fd ps []) (hx : Passes CX X E) : EqB X n (DOwn X.K C sp E) := by
  intro A pins s σ H x y u v b sb I rx ry d
  have e0 := env_sub sb I
  obtain ⟨m, hF⟩ := I.fr
  -- the call of the own __eq__
  have run : ∀ (p q : V) (p' q' : Value), RelV p p' → RelV q q' → sp [p, q] H (fun v H' => v = .bl b ∧ Ext H H') E →
      wpAny (model X.prog X.w) A (call (.ref f) [p', q']) (PySem.W.CmpBack (fun v s' => v = .bool b ∧ ∃ H', Inv X pins σ H' s' ∧ Ext H H')) X.xe s := by
    intro p q p' q' rp rq hsp
    have hl := F.len _ _ _ _ hsp
    refine wpAny_call (codeAny_mono (F.run A X.stack s H ⟨[p', q'], []⟩ [p', q'] [p, q] _ E sb.room e0 (by
      have := hb s [p', q'] I.kIn (by simpa using hl)
      simpa using this) (.cons rp (.cons rq .nil)) hsp) fun r s' hq => ?_)
    cases r with
    | error e => exact hx pins σ H s e s' I hq
    | ok fl =>
      cases fl with
      | ret w =>
        obtain ⟨z, H', I', rz, ez, ex⟩ := I.after hq
        subst ez
        cases (show w = Value.bool b from rz)
        exact ⟨rfl, H', I', ex⟩
      | next => exact False.elim hq
      | brk => exact False.elim hq
      | cont => exact False.elim hq
  rcases d with ⟨a, dx, fs, rfl, ha, hh⟩ | ⟨a, dx, fs, T, rfl, ha, pl, hsub, hsp⟩
  · cases (show u = Value.ref a from rx)
    rcases hh with ⟨rfl, rfl⟩ | ⟨hne, t, ty, nf, hsp⟩
    · cases (show v = Value.ref a from ry)
      exact SeqAt.EqAt.same (A := A) (s := s) (.ref a) X.prog X.w X.xe _ ⟨rfl, H, I, Ext.rfl'⟩
    · obtain ⟨mA, J, _⟩ := ins_get I.hok ha
      obtain ⟨od, J, _⟩ := J.look
      obtain ⟨P, kx, hP, _⟩ := kit_of I ry ty
      unfold eqBool
      refine wpAny_holding ?_
      rw [(rel_ne ry hne).1]
      simp only [Bool.false_eq_true, if_false]
      refine wpAny_bind (PySem.W.cmp_K (op := .Eq) sb.room.units0 hF I.ok.mod.kin J (kx.ty _ _ I.kIn hP) nf hs hf (wpAny_mono (run (.ref a) y (.ref a) v rfl ry hsp) (fun w s' hw => ?_) fun _ _ z => z))
      cases w with
      | bool c =>
        obtain ⟨hc, q⟩ := (show Value.bool c = .bool b ∧ _ from hw)
        exact wpAny_truthy_bool ⟨Value.bool.inj hc, q⟩
      | notImplemented => exact hw.elim
      | _ =>
        obtain ⟨hc, q⟩ := hw
        cases hc
  · cases (show v = Value.ref a from ry)
    obtain ⟨mA, J, _⟩ := ins_get I.hok ha
    obtain ⟨od, J, _⟩ := J.look
    obtain ⟨ht, dec⟩ := pl_dec (A := A) (E := X.xe) I pl rx J hsub
    have hne : x ≠ .ref a := by
      rintro rfl
      cases pl with
      | tup h =>
        obtain ⟨its, r2, e, z⟩ := I.tuple (SqT.of h)
        obtain ⟨o, ho, hc, _⟩ := e
        rw [J.at_] at ho
        cases ho
        cases hc
      | lst h =>
        rw [ha] at h
        cases h
    unfold eqBool
    refine wpAny_holding ?_
    rw [(rel_ne rx hne).2]
    simp only [Bool.false_eq_true, if_false]
    have go : wpAny (model X.prog X.w) A (richCompare .Eq u (.ref a)) (fun w s' => wpAny (model X.prog X.w) A (truthOfDropped w) (fun r s' => r = b ∧ ∃ H', Inv X pins σ H' s' ∧ Ext H H') X.xe s') X.xe s := by
      refine rc_back sb.room.units0 hF I.ok.mod.kin J ht hsub dec hs hf (wpAny_mono (run (.ref a) x (.ref a) u rfl rx hsp) (fun w s' hw => ?_) fun _ _ z => z)
      cases w with
      | bool c =>
        obtain ⟨hc, q⟩ := (show Value.bool c = .bool b ∧ _ from hw)
        exact wpAny_truthy_bool ⟨Value.bool.inj hc, q⟩
      | notImplemented => exact hw.elim
      | _ =>
        obtain ⟨hc, q⟩ := hw
        cases hc
    cases u <;> exact wpAny_bind go
theorem op_inO {X : Cx} {CX : CXT} {k j : Nat} {C : Addr} {qual : Str} {st : Stmt} {ps : List Str} {sp : Sp} {E : XK} (c : Cm X.prog X.w X.K X.mg X.base CX k C "__eq__" qual st ps sp) (b : Bd "__eq__" qual st ps) (hx : Passes CX X E) (hr : Room j X.A) (hk : k + 1 ≤ j) :
    OpR X (compareOp .In) (rInG (DOwn X.K C sp E)) := by
  obtain ⟨f, fd, F, M, hc, G⟩ := c.ex
  exact op_inG (eqB_own G M.1 M.2 (F.bindsN b) hx) (hr.mono hk)
/-- the built-in types come of no class of the text -/
theorem sub_T {K : PySem.W.Frag} {C : Addr} {T : String} (ms : List String) (e : fastBuiltinMro T = some (ms.map Value.type)) : PySem.W.subIn K (.type T) (.ref C) = some false := by
  show (fastBuiltinMro T).map (·.contains (.ref C)) = some false
  rw [e]
  show some ((ms.map Value.type).contains (.ref C)) = some false
  congr 1
  rw [List.contains_eq_any_beq]
  rw [List.any_eq_false]
  intro x hx
  obtain ⟨m, _, rfl⟩ := List.mem_map.mp hx
  simp
theorem sub_ty {K : PySem.W.Frag} {C : Addr} {H : Hp} {z : V} {T : String} (p : Pl K H z T) : PySem.W.subIn K (.type T) (.ref C) = some false := by
  cases p with
  | non => exact sub_T ["NoneType", "object"] (by decide +kernel)
  | bl b => exact sub_T ["bool", "int", "object"] (by decide +kernel)
  | int i => exact sub_T ["int", "object"] (by decide +kernel)
  | str x => exact sub_T ["str", "object"] (by decide +kernel)
  | tup h => exact sub_T ["tuple", "object"] (by decide +kernel)
  | lst h => exact sub_T ["list", "object"] (by decide +kernel)
theorem Pl.tyx {K : PySem.W.Frag} {H : Hp} {z : V} {T : String} (p : Pl K H z T) : TyX K H z (.type T) := by
  cases p with
  | non => exact .base .non
  | bl b => exact .base (.bl b)
  | int i => exact .base (.int i)
  | str x => exact .base (.str x)
  | tup e => exact .base (.tup e)
  | lst e => exact .base (.lst e)
theorem Pl.first {K : PySem.W.Frag} {C : Addr} {H : Hp} {z : V} {T : String} (p : Pl K H z T) : PySem.W.notFirst K C (.type T) = true := by
  unfold PySem.W.notFirst
  rw [sub_ty p]
  simp
end MM
namespace MM
open PySem PySem.Spec PySem.Calls PyProof.Rows L2
/-! ### truths as texts -/
def blS (b : Bool) : Str := if b then "True" else "False"
section
variable {prog : Program} {w : World} {A : Around} {E : Value → Shared → Prop} {s : Shared}
open Builtin Builtin.Str in
theorem strOf_bool {b : Bool} {Q : Value → Shared → Prop} (h : Q (.str (blS b) s.toks) { s with toks := s.toks + 1 }) : wpAny (model prog w) A (PySem.Builtin.Str.strOf (.bool b)) Q E s := by
  unfold PySem.Builtin.Str.strOf
  rw [show isExactStr (.bool b) = false from rfl]
  simp only [cRoomFor, show [Value.bool b].any Value.onHeap = false from rfl, Bool.false_eq_true, if_false, pure_bind]
  refine wpAny_bind (m := callSpecial? _ (PySem.Str.ofString "__str__")) (wpAny_callSpecial?_slot (name := PySem.Str.ofString "__str__") (PySem.typeIs_bool s b) PySem.F.slot_bool_str (call_object_str_gives (PySem.typeIs_bool s b) PySem.F.slot_bool_str PySem.F.slot_bool_repr PySem.F.entry_bool_repr (PySem.F.args_bool_repr_1 _) (gives_bool_repr b) ?_ rfl (by cases b <;> decide)))
  exact wpAny_pure h
theorem str_of_bool {b : Bool} {Q : Value → Shared → Prop} (h : Q (.str (blS b) s.toks) { s with toks := s.toks + 1 }) : wpAny (model prog w) A (call (.type "str") [.bool b]) Q E s := by
  refine callType_codes (T := "str") (Bi := Builtin.«object.__init__») (Q₁ := fun r s₁ => ∃ y u, r = .str y u ∧ Q r s₁) PySem.F.called_str (PySem.F.typeCall_str_1 _) PySem.F.entry_object_init ?_ ?_
  · refine codeAny_of_tree ?_
    show wpAny _ A.in1.in1 (do checkBuiltinCall "str.__new__" ⟨[.type "str", .bool b], []⟩; again (.builtin "str.__new__" ⟨[.type "str", .bool b], []⟩)) _ _ s
    refine wpAny_bind (wpAny_of_eq (PySem.F.newCall_str_1 _) (wpAny_pure ⟨plainId_quiet (by decide +kernel) _, codeAny_builtin PySem.F.entry_str_new ?_⟩))
    rw [Around.under_plainId (by decide +kernel) _]
    rw [str_new_tree]
    refine wpAny_bind (wpAny_pure ?_)
    refine wpAny_bind (wpAny_of_eq isSubtype_str_str ?_)
    exact wpAny_bind (strOf_bool (wpAny_pure ⟨_, _, rfl, h⟩))
  · rintro obj s₁ ⟨y, u, rfl, hq⟩
    exact ⟨typeIs_str _ _ _, PySem.F.args_object_init_2 _ _, object_init_meets PySem.F.called_str.init.lookup PySem.F.called_str.made (by decide) prog w A.in1 _ s₁ ⟨typeIs_str _ _ _, rfl, hq⟩⟩
end
section
variable {X : Cx}
theorem call_str_bool : CallR X (.type "str") (fun xs H Q => ∃ b, xs = [.bl b] ∧ Q (.str (blS b)) H) := by
  intro pins s σ H xs us Q I r h
  obtain ⟨b, rfl, q⟩ := h
  obtain ⟨u, rfl, r1⟩ := vals1 r
  cases (show u = Value.bool b from r1)
  exact str_of_bool ⟨.str _, H, I.tok _, ⟨_, rfl⟩, q⟩
/-- str of a whole number or a truth -/
theorem call_strIB : CallR X (.type "str") (fun xs H Q => (∃ i : Int, xs = [.int i] ∧ i.natAbs.log2 < 1920 ∧ Q (.str (toString i)) H) ∨ ∃ b, xs = [.bl b] ∧ Q (.str (blS b)) H) := CallR.or call_str_int call_str_bool
/-- {x} of a truth -/
def tFmtB (te : TE) : TE := fun σ H Q => te σ H fun x H1 => ∃ b : Bool, x = .bl b ∧ Q (.str (blS b)) H1
theorem pe_fmtB {e : Expr} {te : TE} {pos : Pos} (he : PE X e te) : PE X (.FormattedValue e (-1) none pos) (tFmtB te) := by
  refine ⟨fun pins s σ H Q I h => ?_⟩
  refine wpAny_FormattedValue_plain (thn (he.run pins s σ H _ I h) fun v s1 hv => ?_)
  obtain ⟨x, H1, I1, r1, b, rfl, q⟩ := hv
  cases (show v = Value.bool b from r1)
  exact wpAny_formatField_bool ⟨.str (blS b), H1, I1.tok _, ⟨_, rfl⟩, q⟩
end
/-- str(x) of a whole number, a truth, or an instance with its own __str__ -/
@[irreducible] def rSA (C : Addr) (sp : Sp) (E : XK) : List V → Hp → VK → Prop := fun xs H Q => ((∃ i : Int, xs = [.int i] ∧ i.natAbs.log2 < 1920 ∧ Q (.str (toString i)) H) ∨ ∃ b, xs = [.bl b] ∧ Q (.str (blS b)) H) ∨ rStrO C sp E xs H Q
theorem sa_int {C : Addr} {sp : Sp} {E : XK} {H : Hp} {Q : VK} {i : Int} (h : i.natAbs.log2 < 1920) (q : Q (.str (toString i)) H) : rSA C sp E [.int i] H Q := by
  unfold rSA
  exact .inl (.inl ⟨i, rfl, h, q⟩)
theorem sa_bl {C : Addr} {sp : Sp} {E : XK} {H : Hp} {Q : VK} {b : Bool} (q : Q (.str (blS b)) H) : rSA C sp E [.bl b] H Q := by
  unfold rSA
  exact .inl (.inr ⟨b, rfl, q⟩)
theorem sa_own {C : Addr} {sp : Sp} {E : XK} {H : Hp} {Q : VK} {a dx : Addr} {fs : List (Str × V)} (e : H a = some (.ins C dx fs)) (q : sp [.ref a] H (fun v H' => ∃ x : Str, v = .str x ∧ Q (.str x) H') E) : rSA C sp E [.ref a] H Q := by
  unfold rSA
  exact .inr ⟨a, dx, fs, rfl, e, q⟩
theorem call_str_SA {X : Cx} {CX : CXT} {k : Nat} {C : Addr} {qual : Str} {st : Stmt} {ps : List Str} {sp : Sp} {E : XK} (c : Cm X.prog X.w X.K X.mg X.base CX k C "__str__" qual st ps sp) (b : Bd "__str__" qual st ps) (hr : Room (k + 2) X.A) (hx : Passes CX X E) :
    CallR X (.type "str") (rSA C sp E) := by
  obtain ⟨f, fd, F, M, hc, G⟩ := c.ex
  unfold rSA
  exact CallR.or call_strIB (call_strO G M.1 M.2 (F.bindsN b) hx hr)
theorem call_reprC {X : Cx} {CX : CXT} {k : Nat} {C : Addr} {qual : Str} {st : Stmt} {ps : List Str} {sp : Sp} {E : XK} (c : Cm X.prog X.w X.K X.mg X.base CX k C "__repr__" qual st ps sp) (b : Bd "__repr__" qual st ps) (hr : Room (k + 1) X.A) (hx : Passes CX X E) :
    CallR X (.builtin "repr") (rReprO C sp E) := by
  obtain ⟨f, fd, F, M, hc, G⟩ := c.ex
  exact call_reprO G M.1 M.2 (F.bindsN b) hx hr
theorem ln (xs : List V) (h : Nat.ble xs.length 1000 = true := by rfl) : xs.length ≤ sizeLine := Nat.le_trans (Nat.le_of_ble_eq_true h) (by decide)
end MM
namespace MM
open PySem PySem.Spec PySem.Calls PyProof.Rows L2
/-- an own class that comes of no built-in one -/
structure OwnC (K : PySem.W.Frag) (C : Addr) : Prop where
  iC : PySem.W.isClsIn K C = true
  tC : PySem.W.typeIn K (.ref C) = some (.type "type")
  bn : PySem.W.subIn K (.ref C) (.type "NoneType") = some false
  bb : PySem.W.subIn K (.ref C) (.type "bool") = some false
  bi : PySem.W.subIn K (.ref C) (.type "int") = some false
  bs : PySem.W.subIn K (.ref C) (.type "str") = some false
  bt : PySem.W.subIn K (.ref C) (.type "tuple") = some false
  bl : PySem.W.subIn K (.ref C) (.type "list") = some false
theorem OwnC.sub {K : PySem.W.Frag} {C : Addr} {H : Hp} {z : V} {T : String} (o : OwnC K C) (p : Pl K H z T) : PySem.W.subIn K (.ref C) (.type T) = some false := by
  cases p with
  | non => exact o.bn
  | bl _ => exact o.bb
  | int _ => exact o.bi
  | str _ => exact o.bs
  | tup _ => exact o.bt
  | lst _ => exact o.bl
theorem OwnC.kit {K : PySem.W.Frag} {C : Addr} {H : Hp} {z : V} {T : String} (o : OwnC K C) (p : Pl K H z T) : PySem.W.kitOne K (.type T) (.ref C) = some false := kit_no o.iC o.tC (by simp) (sub_ty p)
theorem Pl.ext {K : PySem.W.Frag} {H H' : Hp} {z : V} {T : String} (p : Pl K H z T) (e : Ext H H') : Pl K H' z T := by
  cases p with
  | non => exact .non
  | bl b => exact .bl b
  | int i => exact .int i
  | str x => exact .str x
  | tup h => exact .tup (e _ _ h)
  | lst h => exact .lst (e _ _ h)
theorem Pl.ne {K : PySem.W.Frag} {H : Hp} {z : V} {T : String} {a C dx : Addr} {fs : List (Str × V)} (p : Pl K H z T) (e : H a = some (.ins C dx fs)) : z ≠ .ref a := by
  rintro rfl
  cases p with
  | tup h =>
    rw [e] at h
    cases h
  | lst h =>
    rw [e] at h
    cases h
end MM
namespace MM
open PySem PySem.Spec PyProof.Rows L2
/-! ### a class called in a try, the names as they stand at the call -/
section
variable {X : Cx} {k j n d : Nat} {C f : Addr} {fd : FuncData} {ps ks : List Str} {sp : Sp} {dvs : List V} {ds : List Value} {x qual : Str} {st : Stmt} {p pos : Pos} {e : Expr} {es : List Expr} {kws : List Keyword} {t tk : TA} {W : WX}
theorem make_S {pins : List (Addr × Obj)} {σ : L2.St} {H : Hp} {s : Shared} {Q : VK} {us : List Value} {zs : List V} {bs : List Value} {kv : List (Str × Value)} (M : Mk X.K C f) (F : FnOk X.prog X.w X.K X.mg X.base (L2.CX X.prog X.w) k f fd ps sp) (hr : Room (k + 1) X.A) (ht : Takes X W) (I : Inv X pins σ H s)
    (hb : ∀ s', X.K.In s'.heap → BindsTo s' fd ⟨Value.ref (s.heap.objs.size + 1) :: us, kv⟩ (ps.zip bs)) (r2 : Vals zs bs)
    (h : sp zs (L2.upd (L2.upd H s.heap.objs.size (.own (s.heap.objs.size + 1))) (s.heap.objs.size + 1) (.ins C s.heap.objs.size [])) (fun v H2 => v = .non ∧ Q (.ref (s.heap.objs.size + 1)) H2) (fun c d H' => W c d σ H')) :
    wpAny (model X.prog X.w) X.A (call (.ref C) us kv) (EP X pins σ Q) X.xe s := by
  have J := Inv.made (C := C) I
  have go := F.run _ X.stack _ _ ⟨Value.ref (s.heap.objs.size + 1) :: us, kv⟩ bs zs _ _ (hr.make C us kv) (J.env0.make C us kv) (hb _ J.kIn) r2 h
  refine wpAny_call (make_map (f := f) I.kIn M.makes M.init (beq_iff_eq.mp M.fn) (codeAny_mono go fun res s' hq => ?_))
  match res, hq with
  | .error er, hq => exact ht er s' (XE.of_call J (fun _ _ _ z => z) hq)
  | .ok .next, hq => exact hq.elim
  | .ok .brk, hq => exact hq.elim
  | .ok .cont, hq => exact hq.elim
  | .ok (.ret u), hq =>
    obtain ⟨v, H3, K3, rv, ev, q3⟩ := J.after hq
    subst ev
    exact ⟨rv, ⟨V.ref (s.heap.objs.size + 1), H3, K3, rfl, q3⟩⟩
/-- C(e, ..) -/
theorem pe_ciS (c : Ci X.prog X.w X.K X.mg X.base (L2.CX X.prog X.w) k x C qual st dvs ps sp) (b : Bd1 "__init__" qual st ps n d dvs.length) (hd : dvs ≠ []) (hn : n + (dvs.length - d) = ps.length) (hr : Room j X.A) (hk : k + 1 ≤ j) (ht : Takes X W) (hg : Gl X x) (ha : PA X (e :: es) t)
    (hdb : (x == ("__debug__" : Str)) = false := by decide) (he : starEach (e :: es) X.env = (false, eval e X.env) :: starEach es X.env := by rfl) (hpl : (backTo pos (starEach es X.env)).any (·.1) = false := by rfl) :
    PE X (.Call (.Name x p) (e :: es) [] pos) (fun σ H Q => t σ H fun vs H1 => ∀ a dx, H1 a = none → H1 dx = none → dx ≠ a → sp (.ref a :: (vs ++ dvs.drop d)) (L2.upd (L2.upd H1 dx (.own a)) a (.ins C dx [])) (fun v H2 => v = .non ∧ Q (.ref a) H2) (fun c d H' => W c d σ H')) := by
  obtain ⟨f, fd, F, M, hm, G⟩ := c.ex
  obtain ⟨ds, r, bb⟩ := F.binds1 n d hd hn b
  refine ⟨fun pins s σ H Q I h => ?_⟩
  refine wpAny_Call_Name_kw (ld_glob I hg hm ?_ hdb)
  refine PySem.W.callWith_K (h₀ := X.base) I.ok.mod.kin M.kp (thn (ha.run pos pins s σ H _ I h) fun us s1 ⟨vs, H1, I1, rv, q⟩ => ⟨I1.kIn, ?_⟩) he hpl
  have hq := q (s1.heap.objs.size + 1) s1.heap.objs.size (I1.hok.fresh (Nat.le_succ _)) (I1.hok.fresh (Nat.le_refl _)) (Nat.ne_of_lt (Nat.lt_succ_self _))
  have r2 : Vals (V.ref (s1.heap.objs.size + 1) :: (vs ++ dvs.drop d)) (Value.ref (s1.heap.objs.size + 1) :: (us ++ ds)) := .cons rfl (rv.append r)
  refine make_S M G (hr.mono hk) ht I1 (fun s' hK => ?_) r2 hq
  exact bb s' (Value.ref (s1.heap.objs.size + 1) :: us) hK (r2.length.symm.trans (G.len _ _ _ _ hq))
/-- C(k = v, ..) -/
theorem pe_ciKS0 {g : {α : Type} → List α → List α → List α → List α} (c : Ci X.prog X.w X.K X.mg X.base (L2.CX X.prog X.w) k x C qual st dvs ps sp) (b : Kd qual st dvs.length 1 ks ps g) (hd : dvs ≠ []) (hr : Room j X.A) (hk : k + 1 ≤ j) (ht : Takes X W) (hg : Gl X x) (hkw : PK X kws tk)
    (hall : (backToKw pos (keywordEach kws X.env)).all (·.1.isSome) = true := by rfl) (hks : (backToKw pos (keywordEach kws X.env)).filterMap (·.1) = ks := by rfl) (hdb : (x == ("__debug__" : Str)) = false := by decide)
    (hpl : ((backTo pos (starEach [] X.env)).any (·.1) || (backToKw pos (keywordEach kws X.env)).any (·.1.isNone)) = false := by rfl) :
    PE X (.Call (.Name x p) [] kws pos) (fun σ H Q => tk σ H fun zs H1 => zs.length = ks.length ∧ ∀ a dx, H1 a = none → H1 dx = none → dx ≠ a → sp (g [.ref a] dvs zs) (L2.upd (L2.upd H1 dx (.own a)) a (.ins C dx [])) (fun v H2 => v = .non ∧ Q (.ref a) H2) (fun c d H' => W c d σ H')) := by
  obtain ⟨f, fd, F, M, hm, G⟩ := c.ex
  obtain ⟨its, hb⟩ := F.kbindsD 1 ks g hd b.rel b.bind
  refine ⟨fun pins s σ H Q I h => ?_⟩
  refine wpAny_Call_Name_kw (ld_glob I hg hm ?_ hdb)
  refine PySem.W.callWith_KW0 (h₀ := X.base) I.ok.mod.kin M.kp hall ?_ hpl
  refine thn (hkw.run pos pins s σ H _ I h) fun ws s1 ⟨zs, H1, I1, rz, l2, q⟩ => ⟨I1.kIn, ?_⟩
  rw [hks]
  have hq := q (s1.heap.objs.size + 1) s1.heap.objs.size (I1.hok.fresh (Nat.le_succ _)) (I1.hok.fresh (Nat.le_refl _)) (Nat.ne_of_lt (Nat.lt_succ_self _))
  have r2 := hb.rel (vs := [V.ref (s1.heap.objs.size + 1)]) (us := [Value.ref (s1.heap.objs.size + 1)]) (.cons rfl .nil) rz
  refine make_S (us := []) M G (hr.mono hk) ht I1 (fun s' hK => ?_) r2 hq
  exact hb.to s' [Value.ref (s1.heap.objs.size + 1)] ws hK rfl (rz.length.symm.trans l2)
/-- C(e, .., k = v, ..) -/
theorem pe_ciKS {g : {α : Type} → List α → List α → List α → List α} (c : Ci X.prog X.w X.K X.mg X.base (L2.CX X.prog X.w) k x C qual st dvs ps sp) (b : Kd qual st dvs.length (n + 1) ks ps g) (hd : dvs ≠ []) (hr : Room j X.A) (hk : k + 1 ≤ j) (ht : Takes X W) (hg : Gl X x) (ha : PA X (e :: es) t) (hkw : PK X kws tk)
    (hall : (backToKw pos (keywordEach kws X.env)).all (·.1.isSome) = true := by rfl) (hks : (backToKw pos (keywordEach kws X.env)).filterMap (·.1) = ks := by rfl) (hdb : (x == ("__debug__" : Str)) = false := by decide)
    (he : starEach (e :: es) X.env = (false, eval e X.env) :: starEach es X.env := by rfl) (hpl : ((backTo pos (starEach (e :: es) X.env)).any (·.1) || (backToKw pos (keywordEach kws X.env)).any (·.1.isNone)) = false := by rfl) :
    PE X (.Call (.Name x p) (e :: es) kws pos) (fun σ H Q => t σ H fun vs H0 => tk σ H0 fun zs H1 => vs.length = n ∧ zs.length = ks.length ∧ ∀ a dx, H1 a = none → H1 dx = none → dx ≠ a → sp (g (.ref a :: vs) dvs zs) (L2.upd (L2.upd H1 dx (.own a)) a (.ins C dx [])) (fun v H2 => v = .non ∧ Q (.ref a) H2) (fun c d H' => W c d σ H')) := by
  obtain ⟨f, fd, F, M, hm, G⟩ := c.ex
  obtain ⟨its, hb⟩ := F.kbindsD (n + 1) ks g hd b.rel b.bind
  refine ⟨fun pins s σ H Q I h => ?_⟩
  refine wpAny_Call_Name_kw (ld_glob I hg hm ?_ hdb)
  refine PySem.W.callWith_KW (h₀ := X.base) I.ok.mod.kin M.kp hall (thn (ha.run pos pins s σ H _ I h) fun us s0 ⟨vs, H0, I0, r, q0⟩ => ?_) hpl he
  refine thn (hkw.run pos pins s0 σ H0 _ I0 q0) fun ws s1 ⟨zs, H1, I1, rz, l1, l2, q⟩ => ⟨I1.kIn, ?_⟩
  rw [hks]
  have hq := q (s1.heap.objs.size + 1) s1.heap.objs.size (I1.hok.fresh (Nat.le_succ _)) (I1.hok.fresh (Nat.le_refl _)) (Nat.ne_of_lt (Nat.lt_succ_self _))
  have r2 := hb.rel (vs := V.ref (s1.heap.objs.size + 1) :: vs) (us := Value.ref (s1.heap.objs.size + 1) :: us) (.cons rfl r) rz
  refine make_S M G (hr.mono hk) ht I1 (fun s' hK => ?_) r2 hq
  exact hb.to s' (Value.ref (s1.heap.objs.size + 1) :: us) ws hK (by rw [List.length_cons, ← r.length, l1]) (rz.length.symm.trans l2)
end
end MM
namespace MM
open PySem PySem.Spec PySem.Calls PyProof.Rows L2
open AutoSeq1 (wpAny_loadPart')
open GQ (FinOf call_here)
/-! ### tuples of instances, != -/
section
variable {prog : Program} {w : World} {A : Around} {R : Result → Shared → Prop}
theorem tup_ne (l b : Addr) (xs ys : Array Value) (n m : Nat) (dd de : Option Addr) (sl sm : Array (Option Value)) (hz : xs.size = ys.size) (Iv : Nat → Shared → Prop)
    (turn : ∀ i (h1 : i < xs.size) (h2 : i < ys.size) s, Iv i s → wpAny (model prog w) A.in1 (eqBool xs[i] ys[i]) (fun r s' => r = true ∧ Iv (i + 1) s') (fun e s' => R (.error e) s') s)
    (fin : ∀ s, Iv xs.size s → R (.ok (.ret (.bool false))) s) {s : Shared} (ha : s.heap.get? l = some { cls := .type "tuple", dict := dd, data := .seq xs n, slots := sl }) (hb : s.heap.get? b = some { cls := .type "tuple", dict := de, data := .seq ys m, slots := sm }) (h : Iv 0 s) :
    wpAny (model prog w) A.in1 (Builtin.«tuple.__ne__» ⟨[.ref l, .ref b], []⟩) (FinOf prog w A R) (fun e s' => R (.error e) s') s := by
  have f2 := AutoSeq1.sub_tuple_tuple
  have hZ : (xs.toList.zip ys.toList).length = xs.size := by simp [hz]
  have h0 := h
  obtain ⟨hp, g, d, tk, os⟩ := s
  wp_walk using wpAny_loadPart' ha, wpAny_loadPart' hb, wpAny_forIn_list _ (fun rest b s' => b.1 = none ∧ ∃ i, rest = (xs.toList.zip ys.toList).drop i ∧ i ≤ xs.size ∧ Iv i s') _
  case turn =>
    rintro ⟨y, x⟩ rest b s' ⟨hb', i, hq, hi, hI⟩
    have hlt : i < (xs.toList.zip ys.toList).length := by
      by_cases h' : i < (xs.toList.zip ys.toList).length
      · exact h'
      · rw [List.drop_of_length_le (by omega)] at hq
        cases hq
    have h1 : i < xs.size := hZ ▸ hlt
    have h2 : i < ys.size := hz ▸ h1
    rw [List.drop_eq_getElem_cons hlt] at hq
    injection hq with hyx hrest
    have hy : y = xs[i] := by have := congrArg Prod.fst hyx; simpa using this
    have hx : x = ys[i] := by have := congrArg Prod.snd hyx; simpa using this
    subst hy hx
    refine wpAny_bind (wpAny_mono (turn i h1 h2 s' hI) (fun r s2 q2 => ?_) fun _ _ x => x)
    obtain ⟨hr, q2⟩ := q2
    subst hr
    wp_walk
    exact ⟨rfl, i + 1, hrest, h1, q2⟩
  case fin =>
    rintro ⟨b1, b2⟩ s' ⟨hb', i, hq, hi, hI⟩
    simp only at hb'
    subst hb'
    have hge : xs.size ≤ i := by
      by_cases h' : i < (xs.toList.zip ys.toList).length
      · rw [List.drop_eq_getElem_cons h'] at hq
        cases hq
      · omega
    have hi' : i = xs.size := by omega
    have hR : R (.ok (.ret (.bool false))) s' := fin s' (hi' ▸ hI)
    wp_walk
    simpa [Builtin.Tuple.tupleCompareSizes, hz] using hR
  case h =>
    exact ⟨rfl, 0, rfl, Nat.zero_le _, h0⟩
theorem rc_tup_ne {E : Value → Shared → Prop} {s : Shared} {l b : Addr} {xs ys : Array Value} {Q : Value → Shared → Prop} (hz : xs.size = ys.size) (hu : A.units < cLine) (Iv : Nat → Shared → Prop) (hl : s.heap.IsTuple l xs) (hb : s.heap.IsTuple b ys)
    (turn : ∀ i (h1 : i < xs.size) (h2 : i < ys.size) s, Iv i s → wpAny (model prog w) A.in1 (eqBool xs[i] ys[i]) (fun r s' => r = true ∧ Iv (i + 1) s') E s)
    (fin : ∀ s, Iv xs.size s → Q (.bool false) s) (h : Iv 0 s) : wpAny (model prog w) A (richCompare .NotEq (.ref l) (.ref b)) Q E s := by
  obtain ⟨⟨cls, dd, data, sl⟩, ho, hc, n, hd⟩ := id hl
  obtain ⟨⟨cls2, dd2, data2, sl2⟩, ho2, hc2, n2, hd2⟩ := id hb
  simp only at hc hd hc2 hd2
  subst hc hd hc2 hd2
  refine wpAny_richCompare_same_room (op := .NotEq) ⟨_, ho, rfl⟩ ⟨_, ho2, rfl⟩ PySem.F.slot_tuple_ne (call_here PySem.F.slot_tuple_ne ⟨_, ho, rfl⟩ PySem.F.entry_tuple_ne (PySem.F.args_tuple_ne_2 _ _) ?_) hu
  exact tup_ne (R := wants (fun v s' => v ≠ .notImplemented ∧ Q v s') E) l b xs ys n n2 dd dd2 sl sl2 hz Iv turn (fun s' q => ⟨(fun x => nomatch x), fin s' q⟩) ho ho2 h
end
/-- tuples whose things are equal one by one -/
def rNeG (D : Eqv) : R2 := fun x y H Q => D x y H ∧ ∀ H', Ext H H' → Q (.bl false) H'
theorem op_neTG {X : Cx} {n : Nat} {D : Eqv} (hD : Mon D) (h : EqG X n D) (hr : Room (n + 1) X.A) : OpR X (compareOp .NotEq) (rNeG (DTup X.K D)) := by
  intro pins s σ H x y v u Q I rx ry hq
  obtain ⟨⟨a, b, xs, ys, rfl, rfl, ha, hb, p⟩, q⟩ := hq
  cases (show v = Value.ref a from rx)
  cases (show u = Value.ref b from ry)
  have sb : L2.Sub X (n + 1) X.A := ⟨hr, rfl⟩
  obtain ⟨its, r, e, z⟩ := I.tuple ha
  obtain ⟨its2, r2, e2, z2⟩ := I.tuple hb
  have hz : its.toArray.size = its2.toArray.size := by rw [List.size_toArray, List.size_toArray, ← r.length, ← r2.length]; exact p.1
  show wpAny (model X.prog X.w) X.A (richCompare .NotEq (.ref a) (.ref b)) (EP X pins σ Q) X.xe s
  refine rc_tup_ne hz sb.room.units0 (fun _ s' => LoopI X pins σ H s') e e2 (fun i h1 h2 s' q => turnG hD h sb p r r2 i h1 h2 s' q) (fun s' q' => ?_) ⟨H, I, Ext.rfl'⟩
  obtain ⟨H', I', e'⟩ := q'
  exact ⟨.bl false, H', I', rfl, q H' e'⟩
/-- equal things of a class by its own __eq__ -/
theorem eqG_own {X : Cx} {CX : CXT} {k : Nat} {C : Addr} {qual : Str} {st : Stmt} {ps : List Str} {sp : Sp} {E : XK} {D : Eqv} (c : Cm X.prog X.w X.K X.mg X.base CX k C "__eq__" qual st ps sp) (b : Bd "__eq__" qual st ps) (hx : Passes CX X E) (hd : ∀ x y H, D x y H → DOwn X.K C sp E x y H true) : EqG X k D := by
  obtain ⟨f, fd, F, M, hc, G⟩ := c.ex
  intro A pins s σ H x y u v sb I rx ry d
  exact eqB_own G M.1 M.2 (F.bindsN b) hx A pins s σ H x y u v true sb I rx ry (hd x y H d)
end MM
namespace MM
open PySem PySem.Spec PySem.Calls PyProof.Rows L2
open AutoSeq1 (wpAny_loadPart')
open GQ (FinOf call_here)
/-! ### tuples of instances, ==, with either answer -/
section
variable {prog : Program} {w : World} {A : Around} {R : Result → Shared → Prop}
theorem tup_eqB (l b : Addr) (xs ys : Array Value) (n m : Nat) (dd de : Option Addr) (sl sm : Array (Option Value)) (hz : xs.size = ys.size) (B : Nat → Bool) (Iv : Nat → Shared → Prop)
    (turn : ∀ i (h1 : i < xs.size) (h2 : i < ys.size) s, Iv i s → wpAny (model prog w) A.in1 (eqBool xs[i] ys[i]) (fun r s' => r = B i ∧ Iv (i + 1) s') (fun e s' => R (.error e) s') s)
    (finF : ∀ i s, i < xs.size → B i = false → Iv (i + 1) s → R (.ok (.ret (.bool false))) s) (fin : (∀ i, i < xs.size → B i = true) → ∀ s, Iv xs.size s → R (.ok (.ret (.bool true))) s) {s : Shared} (ha : s.heap.get? l = some { cls := .type "tuple", dict := dd, data := .seq xs n, slots := sl }) (hb : s.heap.get? b = some { cls := .type "tuple", dict := de, data := .seq ys m, slots := sm }) (h : Iv 0 s) :
    wpAny (model prog w) A.in1 (Builtin.«tuple.__eq__» ⟨[.ref l, .ref b], []⟩) (FinOf prog w A R) (fun e s' => R (.error e) s') s := by
  have f2 := AutoSeq1.sub_tuple_tuple
  have hZ : (xs.toList.zip ys.toList).length = xs.size := by simp [hz]
  have h0 := h
  obtain ⟨hp, g, d, tk, os⟩ := s
  wp_walk using wpAny_loadPart' ha, wpAny_loadPart' hb, wpAny_forIn_list _ (fun rest b s' => (b.1 = none ∧ ∃ i, rest = (xs.toList.zip ys.toList).drop i ∧ i ≤ xs.size ∧ (∀ j, j < i → B j = true) ∧ Iv i s')) _
  case turn =>
    rintro ⟨y, x⟩ rest b s' ⟨hb', i, hq, hi, hall, hI⟩
    have hlt : i < (xs.toList.zip ys.toList).length := by
      by_cases h' : i < (xs.toList.zip ys.toList).length
      · exact h'
      · rw [List.drop_of_length_le (by omega)] at hq
        cases hq
    have h1 : i < xs.size := hZ ▸ hlt
    have h2 : i < ys.size := hz ▸ h1
    rw [List.drop_eq_getElem_cons hlt] at hq
    injection hq with hyx hrest
    have hy : y = xs[i] := by have := congrArg Prod.fst hyx; simpa using this
    have hx : x = ys[i] := by have := congrArg Prod.snd hyx; simpa using this
    subst hy hx
    refine wpAny_bind (wpAny_mono (turn i h1 h2 s' hI) (fun r s2 q2 => ?_) fun _ _ x => x)
    obtain ⟨hr, q2⟩ := q2
    cases hB : B i with
    | true =>
      rw [hB] at hr
      subst hr
      wp_walk
      refine ⟨rfl, i + 1, hrest, h1, fun j hj => ?_, q2⟩
      by_cases e : j = i
      · subst e
        exact hB
      · exact hall j (by omega)
    | false =>
      rw [hB] at hr
      subst hr
      have q3 := finF i s2 h1 hB q2
      wp_walk
      exact q3
  case fin =>
    rintro ⟨b1, b2⟩ s' ⟨hb', i, hq, hi, hall, hI⟩
    simp only at hb'
    subst hb'
    have hge : xs.size ≤ i := by
      by_cases h' : i < (xs.toList.zip ys.toList).length
      · rw [List.drop_eq_getElem_cons h'] at hq
        cases hq
      · omega
    have hi' : i = xs.size := by omega
    have hR : R (.ok (.ret (.bool true))) s' := fin (fun j hj => hall j (by omega)) s' (hi' ▸ hI)
    wp_walk
    simpa [Builtin.Tuple.tupleCompareSizes, hz] using hR
  case h =>
    exact ⟨rfl, 0, rfl, Nat.zero_le _, fun j hj => absurd hj (Nat.not_lt_zero j), h0⟩
end

/-- x == y, tuples whose i-th things are == just where B i -/
def rEqTB (K : PySem.W.Frag) (D : V → V → Hp → Bool → Prop) : R2 := fun x y H Q => ∃ (a b : Addr) (xs ys : List V) (B : Nat → Bool), x = .ref a ∧ y = .ref b ∧ SqT K H a xs ∧ SqT K H b ys ∧ xs.length = ys.length ∧ (∀ i p q, xs[i]? = some p → ys[i]? = some q → ∀ H', Ext H H' → D p q H' (B i)) ∧ ∀ H', Ext H H' → Q (.bl ((List.range xs.length).all B)) H'
theorem get_arr {xs : List V} {its : List Value} (r : Vals xs its) {i : Nat} (h1 : i < its.toArray.size) : ∃ x, xs[i]? = some x ∧ RelV x its.toArray[i] := by
  have hi : i < its.length := by simpa using h1
  have hx : i < xs.length := by rw [r.length]; exact hi
  obtain ⟨w, hw, rw'⟩ := r.get (List.getElem?_eq_getElem hx)
  refine ⟨_, List.getElem?_eq_getElem hx, ?_⟩
  have ew : its.toArray[i] = w := by
    rw [List.getElem?_eq_getElem hi] at hw
    simpa using Option.some.inj hw
  rw [ew]
  exact rw'
theorem op_eqTB {X : Cx} {n : Nat} {D : V → V → Hp → Bool → Prop} (h : EqB X n D) (hr : Room (n + 1) X.A) : OpR X (compareOp .Eq) (rEqTB X.K D) := by
  intro pins s σ H x y v u Q I rx ry hq
  obtain ⟨a, b, xs, ys, B, rfl, rfl, ha, hb, hlen, hD, q⟩ := hq
  cases (show v = Value.ref a from rx)
  cases (show u = Value.ref b from ry)
  have sb : L2.Sub X (n + 1) X.A := ⟨hr, rfl⟩
  obtain ⟨its, r, e, z⟩ := I.tuple ha
  obtain ⟨its2, r2, e2, z2⟩ := I.tuple hb
  have hz : its.toArray.size = its2.toArray.size := by rw [List.size_toArray, List.size_toArray, ← r.length, ← r2.length]; exact hlen
  have hzx : its.toArray.size = xs.length := by rw [List.size_toArray, ← r.length]
  obtain ⟨⟨cls, dd, data, sl⟩, ho, hc, m1, hd⟩ := id e
  obtain ⟨⟨cls2, dd2, data2, sl2⟩, ho2, hc2, m2, hd2⟩ := id e2
  simp only at hc hd hc2 hd2
  subst hc hd hc2 hd2
  show wpAny (model X.prog X.w) X.A (richCompare .Eq (.ref a) (.ref b)) (EP X pins σ Q) X.xe s
  refine wpAny_richCompare_same_room (op := .Eq) ⟨_, ho, rfl⟩ ⟨_, ho2, rfl⟩ PySem.F.slot_tuple_eq (call_here PySem.F.slot_tuple_eq ⟨_, ho, rfl⟩ PySem.F.entry_tuple_eq (PySem.F.args_tuple_eq_2 _ _) ?_) sb.room.units0
  refine tup_eqB (R := wants (fun v s' => v ≠ .notImplemented ∧ EP X pins σ Q v s') X.xe) a b its.toArray its2.toArray m1 m2 dd dd2 sl sl2 hz B (fun _ s' => LoopI X pins σ H s') ?_ ?_ ?_ ho ho2 ⟨H, I, Ext.rfl'⟩
  · intro i h1 h2 s' hl
    obtain ⟨H', I', x'⟩ := hl
    obtain ⟨p, hp, rp⟩ := get_arr r h1
    obtain ⟨p2, hp2, rp2⟩ := get_arr r2 h2
    refine wpAny_mono (h X.A.in1 pins s' σ H' _ _ _ _ (B i) sb.in1 I' rp rp2 (hD i p p2 hp hp2 H' x')) (fun c s2 z2 => ?_) fun _ _ y => y
    obtain ⟨hc, H2, I2, x2⟩ := z2
    exact ⟨hc, H2, I2, x'.trans x2⟩
  · rintro i s' hi hB ⟨H', I', x'⟩
    refine ⟨(fun z => nomatch z), .bl false, H', I', rfl, ?_⟩
    have z := q H' x'
    have ea : (List.range xs.length).all B = false := by
      rw [List.all_eq_false]
      exact ⟨i, List.mem_range.mpr (by omega), by rw [hB]; decide⟩
    rw [ea] at z
    exact z
  · rintro hall s' ⟨H', I', x'⟩
    refine ⟨(fun z => nomatch z), .bl true, H', I', rfl, ?_⟩
    have z := q H' x'
    have ea : (List.range xs.length).all B = true := by
      rw [List.all_eq_true]
      intro j hj
      exact hall j (by have := List.mem_range.mp hj; omega)
    rw [ea] at z
    exact z
/-! ### x not in [..] by an own __eq__ -/
section
variable {prog : Program} {w : World} {A : Around}
theorem notin_listG {E : Value → Shared → Prop} {s : Shared} {Q : Value → Shared → Prop} (l : Addr) (x : Value) (N : Nat) (B : Nat → Bool) (Iv : Nat → Shared → Prop)
    (hl : ∀ i s, Iv i s → ∃ (its : Array Value) (n : Nat), s.heap.get? l = some { cls := .type "list", data := .seq its n } ∧ its.size = N ∧ ∀ h : i < its.size, wpAny (model prog w) A.in1 (eqBool its[i] x) (fun r s' => r = B i ∧ Iv (i + 1) s') E s)
    (fT : ∀ i s, i < N → B i = true → Iv (i + 1) s → Q (.bool false) s) (fF : (∀ j, j < N → B j = false) → ∀ s, Iv N s → Q (.bool true) s) (h : Iv 0 s) : wpAny (model prog w) A (compareOp .NotIn x (.ref l)) Q E s := by
  obtain ⟨its, n, h1, _, _⟩ := hl _ _ h
  show wpAny _ A (do return .bool (!(← contains (.ref l) x))) Q E s
  refine wpAny_bind (wpAny_contains_slot ⟨_, h1, rfl⟩ PySem.F.slot_list_contains (wpAny_mono (call_here (Q := fun v s' => ∃ b, v = .bool b ∧ Q (.bool (!b)) s') PySem.F.slot_list_contains ⟨_, h1, rfl⟩ PySem.F.entry_list_contains (PySem.F.args_list_contains_2 _ _) ?_) (fun v s' hv => ?_) fun _ _ e => e))
  · have go := in_loopG (prog := prog) (w := w) (A := A) (R := wants (fun v s' => ∃ b, v = .bool b ∧ Q (.bool (!b)) s') E) l x N B Iv hl (fun i s hi hb q => ⟨true, rfl, fT i s hi hb q⟩) (fun hno s q => ⟨false, rfl, fF hno s q⟩) (N - 0) 0 rfl (Nat.zero_le _) (fun j hj => absurd hj (Nat.not_lt_zero j)) s h
    obtain ⟨hp, g, d, tk, os⟩ := s
    wp_walk
    exact ⟨plainId_quiet PySem.MeetsSeq.plain_contains_loop _, codeAny_builtin PySem.MeetsSeq.entry_contains_loop (by
      rw [Around.under_plainId PySem.MeetsSeq.plain_contains_loop _]
      exact go)⟩
  · obtain ⟨b, rfl, hq⟩ := hv
    exact wpAny_truthy_bool (wpAny_pure hq)
/-! ### [..].count(x) by an own __eq__ -/
theorem count_loopG {R : Result → Shared → Prop} (l : Addr) (x : Value) (N : Nat) (B : Nat → Bool) (Iv : Nat → Shared → Prop)
    (hl : ∀ i s, Iv i s → ∃ (its : Array Value) (n : Nat), s.heap.get? l = some { cls := .type "list", data := .seq its n } ∧ its.size = N ∧ ∀ h : i < its.size, wpAny (model prog w) A.in1 (eqBool its[i] x) (fun r s' => r = B i ∧ Iv (i + 1) s') (fun e s' => R (.error e) s') s)
    (fin : ∀ s t k, Iv N s → R (.ok (.ret (.int (((List.range N).countP B : Nat) : Int) t))) { s with toks := k }) (k : Nat) :
    ∀ i : Nat, N - i = k → i ≤ N → ∀ s, Iv i s →
      wpAny (model prog w) A.in1 (Builtin.«list.count.loop» ⟨[.ref l, x, rawInt i, rawInt ((((List.range i).countP B : Nat)) : Int)], []⟩) (FinOf prog w A R) (fun e s' => R (.error e) s') s := by
  induction k with
  | zero =>
    intro i hk hi s h
    obtain ⟨its, n, h1, hs, _⟩ := hl _ _ h
    have ei : i = N := by omega
    subst ei
    have hR := fin s
    obtain ⟨hp, g, d, tk, os⟩ := s
    wp_walk using wpAny_loadPart' h1
    have e1 : its[((i : Nat) : Int).toNat]? = none := by simp; omega
    rw [e1]
    wp_walk
    exact hR _ _ h
  | succ k ih =>
    intro i hk hi s h
    obtain ⟨its, n, h1, hs, turn⟩ := hl _ _ h
    have hlt : i < its.size := by omega
    have ht := turn hlt
    obtain ⟨hp, g, d, tk, os⟩ := s
    wp_walk using wpAny_loadPart' h1
    have e1 : its[((i : Nat) : Int).toNat]? = some its[i] := by simp [hlt]
    have hc : ((i : Int) + 1) = ((i + 1 : Nat) : Int) := by omega
    rw [e1]
    refine wpAny_bind (wpAny_mono ht (fun r s2 h2 => ?_) fun _ _ z => z)
    obtain ⟨hr, h2⟩ := h2
    subst hr
    have hrec := ih (i + 1) (by omega) (by omega) s2 h2
    have ec : (if B i = true then (((List.range i).countP B : Nat) : Int) + 1 else (((List.range i).countP B : Nat) : Int)) = (((List.range (i + 1)).countP B : Nat) : Int) := by
      rw [List.range_succ, List.countP_append]
      rw [show List.countP B [i] = if B i = true then 1 else 0 by rw [List.countP_cons]; simp]
      split <;> omega
    obtain ⟨hp2, g2, d2, tk2, os2⟩ := s2
    wp_walk
    rw [hc, ec]
    exact ⟨plainId_quiet PySem.MeetsSeq.plain_count_loop _, codeAny_builtin PySem.MeetsSeq.entry_count_loop (by
      rw [Around.under_plainId PySem.MeetsSeq.plain_count_loop _]
      exact hrec)⟩
end
def rNotInG (D : V → V → Hp → Bool → Prop) : R2 := fun x y H Q => ∃ (p : Addr) (xs : List V) (B : Nat → Bool), y = .ref p ∧ H p = some (.lst xs) ∧ (∀ i z, xs[i]? = some z → ∀ H', Ext H H' → D z x H' (B i)) ∧ ∀ H', Ext H H' → Q (.bl (!(List.range xs.length).any B)) H'
/-- the i-th thing of the list at p beside x, in whatever state came -/
theorem turn_lst {X : Cx} {n : Nat} {D : V → V → Hp → Bool → Prop} (h : EqB X n D) {A : Around} (sb : L2.Sub X n A) {pins : List (Addr × Obj)} {σ : L2.St} {H : Hp} {p : Addr} {xs : List V} {x : V} {v : Value} {B : Nat → Bool} (hp : H p = some (.lst xs)) (rx : RelV x v)
    (hD : ∀ i z, xs[i]? = some z → ∀ H', Ext H H' → D z x H' (B i)) : ∀ (i : Nat) (s' : Shared), LoopI X pins σ H s' → ∃ (its : Array Value) (k : Nat), s'.heap.get? p = some { cls := .type "list", data := .seq its k } ∧ its.size = xs.length ∧ ∀ h1 : i < its.size, wpAny (model X.prog X.w) A (eqBool its[i] v) (fun r s2 => r = B i ∧ LoopI X pins σ H s2) X.xe s' := by
  rintro i s' ⟨H', I', e⟩
  obtain ⟨z, its, k, r, ek⟩ := I'.hok p _ (e _ _ hp)
  refine ⟨its.toArray, k, ek, by rw [List.size_toArray, ← r.length], fun h1 => ?_⟩
  obtain ⟨y, hy, ry⟩ := get_arr r h1
  refine wpAny_mono (h A pins s' σ H' _ x _ v (B i) sb I' ry rx (hD i _ hy H' e)) (fun c s2 z2 => ?_) fun _ _ y => y
  obtain ⟨hc, H2, I2, e2⟩ := z2
  exact ⟨hc, H2, I2, e.trans e2⟩
theorem op_notInG {X : Cx} {n : Nat} {D : V → V → Hp → Bool → Prop} (h : EqB X n D) (hr : Room (n + 1) X.A) : OpR X (compareOp .NotIn) (rNotInG D) := by
  intro pins s σ H x y v u Q I rx ry hq
  obtain ⟨p, xs, B, rfl, hp, hD, q⟩ := hq
  cases (show u = Value.ref p from ry)
  have sb : L2.Sub X (n + 1) X.A := ⟨hr, rfl⟩
  refine notin_listG (A := X.A) p v xs.length B (fun _ s' => LoopI X pins σ H s') (fun i s' hl => turn_lst h sb.in1 hp rx hD i s' hl) ?_ ?_ ⟨H, I, Ext.rfl'⟩
  · rintro i s' hi hb ⟨H', I', e⟩
    refine ⟨.bl false, H', I', rfl, ?_⟩
    have z := q H' e
    have ea : (List.range xs.length).any B = true := List.any_eq_true.mpr ⟨i, List.mem_range.mpr hi, hb⟩
    rw [ea] at z
    exact z
  · rintro hno s' ⟨H', I', e⟩
    refine ⟨.bl true, H', I', rfl, ?_⟩
    have z := q H' e
    have ea : (List.range xs.length).any B = false := by
      rw [List.any_eq_false]
      intro j hj
      rw [hno j (List.mem_range.mp hj)]
      decide
    rw [ea] at z
    exact z
theorem op_notInO {X : Cx} {CX : CXT} {k j : Nat} {C : Addr} {qual : Str} {st : Stmt} {ps : List Str} {sp : Sp} {E : XK} (c : Cm X.prog X.w X.K X.mg X.base CX k C "__eq__" qual st ps sp) (b : Bd "__eq__" qual st ps) (hx : Passes CX X E) (hr : Room j X.A) (hk : k + 1 ≤ j) :
    OpR X (compareOp .NotIn) (rNotInG (DOwn X.K C sp E)) := by
  obtain ⟨f, fd, F, M, hc, G⟩ := c.ex
  exact op_notInG (eqB_own G M.1 M.2 (F.bindsN b) hx) (hr.mono hk)
/-- [..].count(x) -/
def rCountG (D : V → V → Hp → Bool → Prop) : V → List V → Hp → VK → Prop := fun y vs H Q => ∃ (p : Addr) (xs : List V) (x : V) (B : Nat → Bool), y = .ref p ∧ vs = [x] ∧ H p = some (.lst xs) ∧ (∀ i z, xs[i]? = some z → ∀ H', Ext H H' → D z x H' (B i)) ∧ ∀ H', Ext H H' → Q (.int (((List.range xs.length).countP B : Nat) : Int)) H'
theorem mt_countG {X : Cx} {n : Nat} {D : V → V → Hp → Bool → Prop} (h : EqB X n D) (hr : Room (n + 1) X.A) : MtR X "list.count" (rCountG D) := by
  intro pins s σ H y vs v us Q I ry rs hq
  obtain ⟨p, xs, x, B, rfl, rfl, hp, hD, q⟩ := hq
  cases (show v = Value.ref p from ry)
  obtain ⟨u, rfl, rx⟩ := vals1 rs
  have sb : L2.Sub X (n + 1) X.A := ⟨hr, rfl⟩
  obtain ⟨z, its, k, r, ek⟩ := I.hok p _ hp
  refine call_here PySem.F.slot_list_count ⟨_, ek, rfl⟩ PySem.F.entry_list_count (PySem.F.args_list_count_2 _ _) ?_
  have go := count_loopG (prog := X.prog) (w := X.w) (A := X.A) (R := wants (EP X pins σ Q) X.xe) p u xs.length B (fun _ s' => LoopI X pins σ H s') (fun i s' hl => turn_lst h sb.in1 hp rx hD i s' hl) (fun s' t k ⟨H', I', e⟩ => ⟨.int _, H', I'.tok _, ⟨t, rfl⟩, q H' e⟩) xs.length 0 rfl (Nat.zero_le _) s ⟨H, I, Ext.rfl'⟩
  obtain ⟨hp2, g, d, tk, os⟩ := s
  wp_walk
  exact ⟨plainId_quiet PySem.MeetsSeq.plain_count_loop _, codeAny_builtin PySem.MeetsSeq.entry_count_loop (by
    rw [Around.under_plainId PySem.MeetsSeq.plain_count_loop _]
    exact go)⟩
theorem mt_countO {X : Cx} {CX : CXT} {k j : Nat} {C : Addr} {qual : Str} {st : Stmt} {ps : List Str} {sp : Sp} {E : XK} (c : Cm X.prog X.w X.K X.mg X.base CX k C "__eq__" qual st ps sp) (b : Bd "__eq__" qual st ps) (hx : Passes CX X E) (hr : Room j X.A) (hk : k + 1 ≤ j) :
    MtR X "list.count" (rCountG (DOwn X.K C sp E)) := by
  obtain ⟨f, fd, F, M, hc, G⟩ := c.ex
  exact mt_countG (eqB_own G M.1 M.2 (F.bindsN b) hx) (hr.mono hk)
/-! ### {x} and {x!r} of instances with their own __str__ and __repr__ -/
def tFmtO (C : Addr) (sp : Sp) (E : XK) (te : TE) : TE := fun σ H Q => te σ H fun x H1 => ∃ (a dx : Addr) (fs : List (Str × V)), x = .ref a ∧ H1 a = some (.ins C dx fs) ∧ sp [.ref a] H1 (fun v H' => ∃ y : Str, v = .str y ∧ Q (.str y) H') E
section
variable {X : Cx} {CX : CXT} {k j : Nat} {C : Addr} {qual : Str} {st : Stmt} {ps : List Str} {sp : Sp} {E : XK} {e : Expr} {te : TE} {pos : Pos}
theorem run_own {A : Around} {n : Nat} {f : Addr} {fd : FuncData} {pins : List (Addr × Obj)} {σ : L2.St} {H : Hp} {s : Shared} {a : Addr} {Q : Str → Hp → Prop} {R : Value → Shared → Prop} (F : FnOk X.prog X.w X.K X.mg X.base CX n f fd ps sp) (hb : Binds X.K fd ps []) (hx : Passes CX X E) (sb : L2.Sub X n A) (I : Inv X pins σ H s)
    (hq : sp [.ref a] H (fun v H' => ∃ y : Str, v = .str y ∧ Q y H') E) (hR : ∀ y t s' H', Inv X pins σ H' s' → Q y H' → R (.str y t) s') : wpAny (model X.prog X.w) A (call (.ref f) [.ref a]) (PySem.W.StrBack R) X.xe s := by
  have hl : ([Value.ref a] ++ []).length = ps.length := (show ([V.ref a] : List V).length = _ from F.len _ _ _ _ hq)
  refine wpAny_call (codeAny_mono (F.run A X.stack s H ⟨[.ref a], []⟩ [.ref a] [.ref a] _ E sb.room (env_sub sb I) (hb s [.ref a] I.kIn hl) (.cons rfl .nil) hq) fun res s' hres => ?_)
  match res, hres with
  | .error er, hres => exact hx pins σ H s er s' I hres
  | .ok .next, hres => exact hres.elim
  | .ok .brk, hres => exact hres.elim
  | .ok .cont, hres => exact hres.elim
  | .ok (.ret u), hres =>
    obtain ⟨z, H', I', rz, y, rfl, q⟩ := I.after hres
    obtain ⟨t, rfl⟩ := rz
    exact hR y t s' H' I' q
theorem pe_fmtO (he : PE X e te) (c : Cm X.prog X.w X.K X.mg X.base CX k C "__str__" qual st ps sp) (b : Bd "__str__" qual st ps) (hfm : PySem.W.findIn X.K (.ref C) "__format__" = some (some (.builtin "object.__format__"))) (hm : PySem.W.mroIn X.K C (.type "object") = some true) (hr : Room j X.A) (hk : k + 1 ≤ j) (hx : Passes CX X E) :
    PE X (.FormattedValue e (-1) none pos) (tFmtO C sp E te) := by
  obtain ⟨f, fd, F, M, hc, G⟩ := c.ex
  have sb : L2.Sub X (k + 1) X.A := ⟨hr.mono hk, rfl⟩
  refine ⟨fun pins s σ H Q I h => ?_⟩
  refine wpAny_FormattedValue_plain (thn (he.run pins s σ H _ I h) fun v s1 hv => ?_)
  obtain ⟨x, H1, I1, r1, a, dx, fs, rfl, ea, q⟩ := hv
  cases (show v = Value.ref a from r1)
  obtain ⟨mA, J, _⟩ := ins_get I1.hok ea
  obtain ⟨od, J, _⟩ := J.look
  exact PySem.W.kfo_fieldS sb.in1.room.units0 I1.kIn J hfm hm M.1 M.2 (run_own G (F.bindsN b) hx sb.in1 (I1.tok _) q fun y t s' H' I' hq => ⟨.str y, H', I', ⟨t, rfl⟩, hq⟩)
theorem pe_fmtRO (he : PE X e te) (c : Cm X.prog X.w X.K X.mg X.base CX k C "__repr__" qual st ps sp) (b : Bd "__repr__" qual st ps) (hr : Room j X.A) (hk : k + 1 ≤ j) (hx : Passes CX X E) (hz : ∀ (a : Addr) H Q, sp [.ref a] H Q E → sp [.ref a] H (fun v H' => (∀ y, v = .str y → y.length ≤ sizeLine) ∧ Q v H') E) :
    PE X (.FormattedValue e 114 none pos) (tFmtO C sp E te) := by
  obtain ⟨f, fd, F, M, hc, G⟩ := c.ex
  have sb : L2.Sub X (k + 1) X.A := ⟨hr.mono hk, rfl⟩
  refine ⟨fun pins s σ H Q I h => ?_⟩
  refine wpAny_FormattedValue_repr (thn (he.run pins s σ H _ I h) fun v s1 hv => ?_)
  obtain ⟨x, H1, I1, r1, a, dx, fs, rfl, ea, q⟩ := hv
  cases (show v = Value.ref a from r1)
  obtain ⟨mA, J, _⟩ := ins_get I1.hok ea
  obtain ⟨od, J, _⟩ := J.look
  have q2 := hz _ _ _ q
  have sb0 : L2.Sub X k X.A := ⟨(hr.mono hk).mono (Nat.le_succ k), rfl⟩
  have go := run_own (Q := fun y H' => y.length ≤ sizeLine ∧ Q (.str y) H') (R := fun v s' => ∃ y t, v = .str y t ∧ y.length ≤ sizeLine ∧ ∃ H', Inv X pins σ H' s' ∧ Q (.str y) H') G (F.bindsN b) hx sb0 I1 (by
    have e : (fun v H' => (∀ y, v = V.str y → y.length ≤ sizeLine) ∧ ∃ y : Str, v = .str y ∧ Q (.str y) H') = fun v H' => ∃ y : Str, v = .str y ∧ (y.length ≤ sizeLine ∧ Q (.str y) H') := by
      funext v H'
      refine propext ⟨fun ⟨hl, y, e, hq⟩ => ⟨y, e, hl y e, hq⟩, fun ⟨y, e, hl, hq⟩ => ⟨fun z hz => ?_, y, e, hq⟩⟩
      rw [e] at hz
      cases hz
      exact hl
    rw [e] at q2
    exact q2) (fun y t s' H' I' hq => ⟨y, t, rfl, hq.1, H', I', hq.2⟩)
  unfold pyReprObj
  refine wpAny_bind (m := cRoomFor _ _) (wpAny_cRoomFor sb0.room.units0 ?_)
  refine wpAny_bind (wpAny_bind (J.type.here ((PySem.W.looks_findIn I1.kIn M.1).here ?_)))
  show wpAny _ _ (if (some (Value.ref f)).isNone = true then _ else _) _ _ _
  rw [if_neg (by simp)]
  refine wpAny_bind (m := callSpecialIfBound? (.ref a) (Str.ofString "__repr__") _) (PySem.W.ifBound_K I1.kIn J M.1 M.2 (wpAny_mono go (fun r s' hr => ?_) fun _ _ y => y))
  cases r <;> first | exact hr.elim | skip
  obtain ⟨y, t, e1, hl, H', I', hq⟩ := hr
  cases e1
  refine wpAny_bind (wpAny_isInstance (T := "str") (b := true) (typeIs_str _ _ _) isSubtype_str_str (wpAny_pure ?_))
  exact wpAny_formatField_str ⟨.str _, H', I', ⟨_, rfl⟩, hq⟩ ⟨.str _, H', I'.tok _, ⟨_, rfl⟩, hq⟩ hl
end
end MM
namespace MM
open PySem PySem.Spec PySem.Calls PyProof.Rows L2
/-! ### texts that write numbers -/
/-- the place of a sign among the figures, or -1 -/
def fv (c : Nat) : Int := Txt.find FIG ⟨#[c]⟩
theorem fv_dg {d : Nat} (h : d < 16) : fv (dg d) = (d : Int) := fig_find h
theorem fv_cases (c : Nat) : (fv c = -1 ∧ ∀ d, d < 16 → c ≠ dg d) ∨ ∃ d, d < 16 ∧ c = dg d ∧ fv c = (d : Int) := by
  rcases find_spec FIG ⟨#[c]⟩ with h | ⟨i, h1, h2, h3⟩
  · refine .inl ⟨h, fun d hd e => ?_⟩
    have := fv_dg hd
    rw [← e] at this
    unfold fv at this
    omega
  · have hl : (⟨#[c]⟩ : Str).length = 1 := rfl
    rw [hl] at h2 h3
    rw [fig_len] at h2
    have e : c = dg i := by
      have e1 : (Builtin.Str.strSub FIG i (i + 1)).cps.toList = [dg i] := by
        have : ∀ d : Fin 16, (Builtin.Str.strSub FIG d.val (d.val + 1)).cps.toList = [dg d.val] := by decide +kernel
        exact this ⟨i, by omega⟩
      rw [h3] at e1
      have e2 : [c] = [dg i] := e1
      injection e2
    exact .inr ⟨i, by omega, e, h1⟩
def ninL (b : Int) (cs : List Nat) : Int := cs.foldl (fun a c => a * b + fv c) 0
theorem ninL_app (b : Int) (cs : List Nat) (c : Nat) : ninL b (cs ++ [c]) = ninL b cs * b + fv c := by
  unfold ninL
  rw [List.foldl_append]
  rfl
def hasD (cs : List Nat) : Bool := cs.head? == some 45
/-- what stands behind a - -/
def unm (cs : List Nat) : List Nat := if hasD cs then cs.tail else cs
def nin (b : Int) (t : Str) : Int := if hasD t.cps.toList then - ninL b (unm t.cps.toList) else ninL b (unm t.cps.toList)
theorem unm_len (cs : List Nat) : (unm cs).length ≤ cs.length := by
  unfold unm
  split
  · rw [List.length_tail]
    omega
  · exact Nat.le_refl _
theorem len_cps (t : Str) : t.length = t.cps.toList.length := by simp [Str.length]
theorem sub_d (t : Str) : Builtin.Str.subAt t ("-" : Str) 0 = hasD t.cps.toList := by
  have h := sub_iff t ("-" : Str)
  rw [dash_len, dash_cps] at h
  unfold hasD
  cases hc : t.cps.toList with
  | nil =>
    rw [hc] at h
    cases hb : Builtin.Str.subAt t ("-" : Str) 0 with
    | false => rfl
    | true => exact absurd (h.mp hb) (by simp)
  | cons c cs =>
    rw [hc] at h
    simp only [List.take_succ_cons, List.take_zero] at h
    by_cases e : c = 45
    · rw [e] at h ⊢
      rw [h.mpr rfl]
      rfl
    · have : Builtin.Str.subAt t ("-" : Str) 0 = false := by
        cases hb : Builtin.Str.subAt t ("-" : Str) 0 with
        | false => rfl
        | true => exact absurd (by have := h.mp hb; simpa using this) e
      rw [this]
      simp [e]
theorem rp_gen (t : Str) : (Txt.removeprefix t ("-" : Str)).cps.toList = unm t.cps.toList := by
  unfold Txt.removeprefix unm
  rw [sub_d]
  cases h : hasD t.cps.toList with
  | false => rfl
  | true =>
    have hne : t.cps.toList ≠ [] := by
      intro z
      rw [z] at h
      cases h
    have hl := len_cps t
    have hp := List.length_pos_iff.mpr hne
    rw [dash_len]
    show (if (t.length - 1 == t.length) = true then t else Builtin.Str.strSub t 1 t.length).cps.toList = _
    rw [if_neg (by simp; omega)]
    show (t.cps.extract 1 t.length).toList = t.cps.toList.tail
    rw [Array.toList_extract, hl]
    simp
    exact List.take_of_length_le (by simp)
theorem sw_gen (t : Str) : Txt.startswith t ("-" : Str) = hasD t.cps.toList := by
  unfold Txt.startswith
  rw [sub_d, dash_len]
  cases h : hasD t.cps.toList with
  | false => rw [Bool.and_false]
  | true =>
    have hne : t.cps.toList ≠ [] := by
      intro z
      rw [z] at h
      cases h
    have hp := List.length_pos_iff.mpr hne
    have hl := len_cps t
    rw [Bool.and_true]
    exact decide_eq_true (by omega)
def valN (b : Nat) (ds : List Nat) : Nat := ds.foldl (fun a d => a * b + d) 0
theorem valN_app (b : Nat) (ds : List Nat) (d : Nat) : valN b (ds ++ [d]) = valN b ds * b + d := by
  unfold valN
  rw [List.foldl_append]
  rfl
theorem valN_lsd {b : Nat} (hb : 2 ≤ b) (n : Nat) : valN b (lsd b n).reverse = n := by
  unfold valN
  rw [List.foldl_reverse]
  exact lsd_val hb n
/-- a list, from its end -/
theorem rev_ind {P : List Nat → Prop} (h0 : P []) (h1 : ∀ es d, P es → P (es ++ [d])) (ds : List Nat) : P ds := by
  rw [← List.reverse_reverse ds]
  generalize ds.reverse = rs
  induction rs with
  | nil => exact h0
  | cons d rs ih =>
    rw [List.reverse_cons]
    exact h1 _ d ih
theorem ninL_dg (b : Nat) (ds : List Nat) : (∀ d ∈ ds, d < 16) → ninL (b : Int) (ds.map dg) = ((valN b ds : Nat) : Int) := by
  refine rev_ind (P := fun ds => (∀ d ∈ ds, d < 16) → ninL (b : Int) (ds.map dg) = ((valN b ds : Nat) : Int)) (fun _ => rfl) (fun es d ih h => ?_) ds
  rw [List.map_append]
  show ninL (b : Int) (es.map dg ++ [dg d]) = _
  rw [ninL_app, valN_app, ih fun x hx => h x (List.mem_append_left _ hx), fv_dg (h d (by simp))]
  push_cast
  rfl
theorem valN_pos {b : Nat} (hb : 1 ≤ b) (ds : List Nat) : ds ≠ [] → ds.head? ≠ some 0 → 0 < valN b ds := by
  refine rev_ind (P := fun ds => ds ≠ [] → ds.head? ≠ some 0 → 0 < valN b ds) (fun h => absurd rfl h) (fun es d ih _ h => ?_) ds
  rw [valN_app]
  by_cases he : es = []
  · subst he
    have : d ≠ 0 := fun z => h (by rw [z]; rfl)
    omega
  · have h2 : es.head? ≠ some 0 := fun z => h (by
      cases es with
      | nil => exact absurd rfl he
      | cons e es => simpa using z)
    have := Nat.mul_pos (ih he h2) hb
    omega
theorem lsd_back {b : Nat} (hb : 2 ≤ b) (ds : List Nat) : ds ≠ [] → (∀ d ∈ ds, d < b) → (ds.head? = some 0 → ds = [0]) → lsd b (valN b ds) = ds.reverse := by
  refine rev_ind (P := fun ds => ds ≠ [] → (∀ d ∈ ds, d < b) → (ds.head? = some 0 → ds = [0]) → lsd b (valN b ds) = ds.reverse) (fun h => absurd rfl h) (fun es d ih _ hs h0 => ?_) ds
  have hd : d < b := hs d (by simp)
  rw [valN_app, List.reverse_append]
  by_cases he : es = []
  · subst he
    show lsd b (0 * b + d) = [d]
    rw [Nat.zero_mul, Nat.zero_add, lsd_lt hd]
  · have h2 : es.head? ≠ some 0 := fun z => by
      have h3 : (es ++ [d]).head? = some 0 := by
        cases es with
        | nil => exact absurd rfl he
        | cons e es => simpa using z
      have h4 := h0 h3
      have h5 : es.length + 1 = 1 := by
        have := congrArg List.length h4
        simpa using this
      exact he (List.length_eq_zero_iff.mp (by omega))
    have hp := valN_pos (b := b) (by omega) es he h2
    have hge : b ≤ valN b es * b + d := by
      have := Nat.le_mul_of_pos_left b hp
      omega
    rw [lsd_ge hb hge]
    have e1 : (valN b es * b + d) % b = d := by rw [Nat.mul_comm, Nat.mul_add_mod, Nat.mod_eq_of_lt hd]
    have e2 : (valN b es * b + d) / b = valN b es := by rw [Nat.mul_comm, Nat.mul_add_div (by omega), Nat.div_eq_of_lt hd, Nat.add_zero]
    rw [e1, e2, ih he (fun x hx => hs x (List.mem_append_left _ hx)) (fun z => absurd z h2)]
    rfl
theorem numT_cps (b : Nat) (i : Int) : (numT b i).cps.toList = (if i < 0 then [45] else []) ++ (lsd b i.natAbs).reverse.map dg := by
  unfold numT
  split
  · rw [app_cps, dash_cps]
    rfl
  · rfl
theorem num_ds {b : Nat} (hb : 2 ≤ b) (h16 : b ≤ 16) (i : Int) : unm (numT b i).cps.toList = (lsd b i.natAbs).reverse.map dg ∧ hasD (numT b i).cps.toList = decide (i < 0) := by
  have hne : (lsd b i.natAbs).reverse ≠ [] := fun z => lsd_ne b i.natAbs (List.reverse_eq_nil_iff.mp z)
  have sm : ∀ d ∈ (lsd b i.natAbs).reverse, d < 16 := fun d hd => Nat.lt_of_lt_of_le (lsd_small hb _ d (List.mem_reverse.mp hd)) h16
  rw [numT_cps]
  by_cases h : i < 0
  · rw [if_pos h, decide_eq_true h]
    exact ⟨rfl, rfl⟩
  · rw [if_neg h, decide_eq_false h]
    have hd : hasD ((lsd b i.natAbs).reverse.map dg) = false := by
      cases hc : (lsd b i.natAbs).reverse with
      | nil => exact absurd hc hne
      | cons d ds =>
        have := dg_ne (sm d (by rw [hc]; simp))
        show (some (dg d) == some 45) = false
        simp [this]
    refine ⟨?_, hd⟩
    show (if hasD ((lsd b i.natAbs).reverse.map dg) = true then _ else _) = _
    rw [hd]
    rfl
theorem nin_num {b : Nat} (hb : 2 ≤ b) (h16 : b ≤ 16) (i : Int) : nin (b : Int) (numT b i) = i := by
  obtain ⟨h1, h2⟩ := num_ds hb h16 i
  unfold nin
  rw [h1, h2, ninL_dg b _ fun d hd => Nat.lt_of_lt_of_le (lsd_small hb _ d (List.mem_reverse.mp hd)) h16, valN_lsd hb]
  by_cases h : i < 0
  · rw [decide_eq_true h, if_pos rfl]
    omega
  · rw [decide_eq_false h, if_neg Bool.false_ne_true]
    omega
/-- the law's look at the signs -/
structure Wr (b : Nat) (t : Str) : Prop where
  all : ∀ c ∈ unm t.cps.toList, 0 ≤ fv c ∧ fv c < (b : Int)
  ne : unm t.cps.toList ≠ []
  no : ¬ ((unm t.cps.toList).head? = some 48 ∧ unm t.cps.toList ≠ [48])
  nd : t.cps.toList ≠ [45, 48]
theorem wr_num {b : Nat} (hb : 2 ≤ b) (h16 : b ≤ 16) (i : Int) : Wr b (numT b i) := by
  obtain ⟨h1, h2⟩ := num_ds hb h16 i
  have sm : ∀ d ∈ (lsd b i.natAbs).reverse, d < b := fun d hd => lsd_small hb _ d (List.mem_reverse.mp hd)
  have hne : (lsd b i.natAbs).reverse ≠ [] := fun z => lsd_ne b i.natAbs (List.reverse_eq_nil_iff.mp z)
  -- a nought ahead stands alone
  have lead : (lsd b i.natAbs).reverse.head? = some 0 → (lsd b i.natAbs).reverse = [0] := by
    generalize i.natAbs = n
    intro h
    rw [List.head?_reverse] at h
    induction n using Nat.strongRecOn with
    | _ n ih =>
      by_cases hn : n < b
      · rw [lsd_lt hn] at h ⊢
        have : n = 0 := by simpa using h
        rw [this]
        rfl
      · exfalso
        rw [lsd_ge hb (by omega)] at h
        have hnn := lsd_ne b (n / b)
        have h3 : (lsd b (n / b)).getLast? = some 0 := by
          cases hl : lsd b (n / b) with
          | nil => exact absurd hl hnn
          | cons x xs =>
            rw [hl] at h
            simpa using h
        have h4 := ih (n / b) (Nat.div_lt_self (by omega) (by omega)) h3
        have h5 : lsd b (n / b) = [0] := by
          have := congrArg List.reverse h4
          simpa using this
        have h6 := lsd_val hb (n / b)
        rw [h5] at h6
        have h7 : n / b = 0 := by simpa using h6.symm
        have := (Nat.div_eq_zero_iff).mp h7
        omega
  have dz : ∀ d, d < 16 → dg d = 48 → d = 0 := by decide
  refine ⟨?_, ?_, ?_, ?_⟩
  · rw [h1]
    intro c hc
    obtain ⟨d, hd, rfl⟩ := List.mem_map.mp hc
    have := sm d hd
    rw [fv_dg (by omega)]
    omega
  · rw [h1]
    intro z
    exact hne (List.map_eq_nil_iff.mp z)
  · rw [h1]
    rintro ⟨h3, h4⟩
    apply h4
    have h5 : (lsd b i.natAbs).reverse.head? = some 0 := by
      cases hc : (lsd b i.natAbs).reverse with
      | nil => exact absurd hc hne
      | cons d ds =>
        rw [hc] at h3
        have e : dg d = 48 := by simpa using h3
        have := dz d (Nat.lt_of_lt_of_le (sm d (by rw [hc]; simp)) h16) e
        rw [this]
        rfl
    rw [lead h5]
    rfl
  · intro z
    have hD : hasD (numT b i).cps.toList = true := by rw [z]; rfl
    rw [h2] at hD
    have hi : i < 0 := of_decide_eq_true hD
    have h3 : unm (numT b i).cps.toList = [48] := by rw [z]; rfl
    rw [h1] at h3
    have h4 : (lsd b i.natAbs).reverse = [0] := by
      cases hc : (lsd b i.natAbs).reverse with
      | nil => exact absurd hc hne
      | cons d ds =>
        rw [hc] at h3
        have e : dg d = 48 ∧ ds = [] := by simpa using h3
        rw [e.2, dz d (Nat.lt_of_lt_of_le (sm d (by rw [hc]; simp)) h16) e.1]
    have h5 := valN_lsd hb i.natAbs
    rw [h4] at h5
    have : i.natAbs = 0 := by
      rw [← h5]
      show 0 * b + 0 = 0
      omega
    omega
theorem num_wr {b : Nat} (hb : 2 ≤ b) (h16 : b ≤ 16) {t : Str} (w : Wr b t) : t = numT b (nin (b : Int) t) := by
  -- the signs are figures
  obtain ⟨ds, hds, sm⟩ : ∃ ds : List Nat, unm t.cps.toList = ds.map dg ∧ ∀ d ∈ ds, d < b := by
    have all := w.all
    generalize unm t.cps.toList = cs at all
    induction cs with
    | nil => exact ⟨[], rfl, fun d h => by cases h⟩
    | cons c cs ih =>
      obtain ⟨ds, h1, h2⟩ := ih fun x hx => all x (List.mem_cons_of_mem _ hx)
      have hc := all c (by simp)
      rcases fv_cases c with ⟨h3, _⟩ | ⟨d, h3, h4, h5⟩
      · omega
      · refine ⟨d :: ds, by rw [List.map_cons, h1, h4], fun x hx => ?_⟩
        rcases List.mem_cons.mp hx with rfl | hx
        · omega
        · exact h2 x hx
  have ne : ds ≠ [] := fun z => w.ne (by rw [hds, z]; rfl)
  have dz : ∀ d, d < 16 → dg d = 48 → d = 0 := by decide
  have lead : ds.head? = some 0 → ds = [0] := fun h => by
    have h3 : (unm t.cps.toList).head? = some 48 := by
      rw [hds]
      cases ds with
      | nil => exact absurd rfl ne
      | cons d ds =>
        have : d = 0 := by simpa using h
        rw [this]
        rfl
    have h4 : unm t.cps.toList = [48] := Classical.byContradiction fun z => w.no ⟨h3, z⟩
    rw [hds] at h4
    cases ds with
    | nil => exact absurd rfl ne
    | cons d ds =>
      have e : dg d = 48 ∧ ds = [] := by simpa using h4
      rw [e.2, dz d (Nat.lt_of_lt_of_le (sm d (by simp)) h16) e.1]
  have hv : ninL (b : Int) (unm t.cps.toList) = ((valN b ds : Nat) : Int) := by rw [hds, ninL_dg b ds fun d hd => Nat.lt_of_lt_of_le (sm d hd) h16]
  have hl := lsd_back hb ds ne sm lead
  refine str_ext ?_
  rw [numT_cps]
  unfold nin
  rw [hv]
  cases hD : hasD t.cps.toList with
  | true =>
    rw [if_pos rfl]
    have ht : t.cps.toList = 45 :: ds.map dg := by
      have h5 : unm t.cps.toList = t.cps.toList.tail := by unfold unm; rw [hD]; rfl
      cases hc : t.cps.toList with
      | nil =>
        rw [hc] at hD
        cases hD
      | cons c cs =>
        rw [hc] at hD h5
        have : c = 45 := by
          unfold hasD at hD
          simpa using hD
        rw [this]
        congr 1
        rw [← hds, hc, h5]
        rfl
    have hp : 0 < valN b ds := by
      by_cases h0 : ds.head? = some 0
      · exfalso
        have := lead h0
        rw [this] at ht
        exact w.nd ht
      · exact valN_pos (by omega) ds ne h0
    rw [if_pos (by omega), ht]
    have e : (-((valN b ds : Nat) : Int)).natAbs = valN b ds := by omega
    rw [e, hl, List.reverse_reverse]
    rfl
  | false =>
    rw [if_neg Bool.false_ne_true, if_neg (by omega)]
    have ht : t.cps.toList = ds.map dg := by
      rw [← hds]
      unfold unm
      rw [hD]
      rfl
    rw [ht]
    have e : (((valN b ds : Nat) : Int)).natAbs = valN b ds := by omega
    rw [e, hl, List.reverse_reverse]
    rfl
theorem ninL_sz {b : Nat} (h16 : b ≤ 16) (cs : List Nat) : (ninL (b : Int) cs).natAbs < 16 ^ (cs.length + 1) := by
  refine rev_ind (P := fun cs => (ninL (b : Int) cs).natAbs < 16 ^ (cs.length + 1)) (by show 0 < 16; decide) (fun es c ih => ?_) cs
  rw [ninL_app, List.length_append]
  have h1 : (fv c).natAbs ≤ 15 := by
    rcases fv_cases c with ⟨h, _⟩ | ⟨d, h3, h4, h5⟩ <;> omega
  have h2 : (ninL (b : Int) es * (b : Int) + fv c).natAbs ≤ (ninL (b : Int) es).natAbs * b + 15 := by
    have h3 := Int.natAbs_add_le (ninL (b : Int) es * (b : Int)) (fv c)
    rw [Int.natAbs_mul, Int.natAbs_natCast] at h3
    omega
  have h4 : (ninL (b : Int) es).natAbs * b ≤ (ninL (b : Int) es).natAbs * 16 := Nat.mul_le_mul_left _ h16
  have h5 : 16 ^ (es.length + [c].length + 1) = 16 ^ (es.length + 1) * 16 := by
    rw [show es.length + [c].length + 1 = (es.length + 1) + 1 from rfl, Nat.pow_succ]
  rw [h5]
  omega
theorem nin_sz {b : Nat} (h16 : b ≤ 16) {t : Str} {n : Nat} (hl : t.length ≤ n) : (nin (b : Int) t).natAbs < 2 ^ (4 * (n + 1)) := by
  have h1 := ninL_sz h16 (unm t.cps.toList)
  have h2 := unm_len t.cps.toList
  have h3 : 16 ^ ((unm t.cps.toList).length + 1) ≤ 16 ^ (n + 1) := Nat.pow_le_pow_right (by decide) (by rw [len_cps] at hl; omega)
  have h4 : (16 : Nat) ^ (n + 1) = 2 ^ (4 * (n + 1)) := by rw [Nat.pow_mul]
  unfold nin
  split
  · rw [Int.natAbs_neg]
    omega
  · omega
/-! ### == of flat things inside a builtin -/
theorem eqB_flat {X : Cx} : EqB X 0 (fun x y _ b => flatV x = true ∧ flatV y = true ∧ eqV x y = b) := by
  intro A pins s σ H x y u v b sb I rx ry d
  obtain ⟨fx, fy, e⟩ := d
  have q := eqAt_V (A := A) (s := s) rx ry fx fy
  rw [e] at q
  exact q X.prog X.w X.xe _ ⟨rfl, H, I, Ext.rfl'⟩
end MM
namespace MM
open PySem PySem.Spec PySem.Calls PyProof.Rows L2
/-! ### figures by ten, and texts cut at a sign -/
def TEN : Str := "0123456789"
theorem ten_cps : TEN.cps.toList = [48, 49, 50, 51, 52, 53, 54, 55, 56, 57] := by decide +kernel
theorem mem_ten (c : Nat) : c ∈ TEN.cps.toList ↔ 48 ≤ c ∧ c ≤ 57 := by
  rw [ten_cps]
  constructor
  · intro h
    simp only [List.mem_cons, List.not_mem_nil, or_false] at h
    omega
  · intro h
    obtain ⟨d, rfl⟩ : ∃ d, c = 48 + d := ⟨c - 48, by omega⟩
    have : d < 10 := by omega
    simp only [List.mem_cons, List.not_mem_nil, or_false]
    omega
theorem fv_ten {c : Nat} (h : 48 ≤ c ∧ c ≤ 57) : fv c = ((c - 48 : Nat) : Int) := by
  obtain ⟨d, rfl⟩ : ∃ d, c = 48 + d := ⟨c - 48, by omega⟩
  have hd : d < 10 := by omega
  have e : 48 + d = dg d := by
    have : ∀ d, d < 10 → 48 + d = dg d := by decide
    exact this d hd
  rw [e, fv_dg (by omega), ← e]
  omega
theorem ten_fv {c : Nat} : (0 ≤ fv c ∧ fv c < ((10 : Nat) : Int)) ↔ 48 ≤ c ∧ c ≤ 57 := by
  constructor
  · rintro ⟨h0, h1⟩
    rcases fv_cases c with ⟨h, _⟩ | ⟨d, h3, rfl, h5⟩
    · omega
    · have : ∀ d, d < 10 → 48 ≤ dg d ∧ dg d ≤ 57 := by decide
      exact this d (by omega)
  · intro h
    rw [fv_ten h]
    omega
theorem ninL_ten (cs : List Nat) : (∀ c ∈ cs, 48 ≤ c ∧ c ≤ 57) → ninL ((10 : Nat) : Int) cs = ((NumText.digitsVal cs : Nat) : Int) := by
  refine rev_ind (P := fun cs => (∀ c ∈ cs, 48 ≤ c ∧ c ≤ 57) → ninL ((10 : Nat) : Int) cs = ((NumText.digitsVal cs : Nat) : Int)) (fun _ => rfl) (fun es c ih h => ?_) cs
  rw [ninL_app, ih fun x hx => h x (List.mem_append_left _ hx), fv_ten (h c (by simp))]
  have e : NumText.digitsVal (es ++ [c]) = NumText.digitsVal es * 10 + (c - 48) := by
    unfold NumText.digitsVal
    rw [List.foldl_append]
    rfl
  rw [e]
  omega
/-- int(text) of figures -/
theorem int_fig {z : Str} (h : ∀ c ∈ z.cps.toList, 48 ≤ c ∧ c ≤ 57) (hne : z.cps.toList ≠ []) (hl : z.length ≤ 98) : PySem.intText? z = some (ninL ((10 : Nat) : Int) z.cps.toList) := by
  rw [ninL_ten _ h]
  exact intText_digits h hne (Nat.le_trans hl (by decide))
/-- a text cut at its first sign of one kind -/
theorem part_cases {y : Str} {c : Nat} (ey : TL.tl y = [c]) (t : Str) : (Txt.partition t y = (t, Str.empty, Str.empty) ∧ c ∉ t.cps.toList) ∨ ∃ a b : Str, Txt.partition t y = (a, y, b) ∧ t = a ++ y ++ b ∧ c ∉ a.cps.toList := by
  have hy : TL.tl y ≠ [] := by rw [ey]; simp
  have yl : y.length = 1 := by rw [TL.len_tl, ey]; rfl
  have no : ∀ i, i < t.length → ¬ StrLaws.At t y t.length i → t.cps.toList[i]? ≠ some c := fun i hi h e => by
    refine h ((TL.at_iff hy i).mpr ?_)
    rw [ey]
    have hi' : i < (TL.tl t).length := by rw [← TL.len_tl]; exact hi
    have e1 : (TL.tl t).drop i = (TL.tl t)[i] :: (TL.tl t).drop (i + 1) := List.drop_eq_getElem_cons hi'
    have e2 : (TL.tl t)[i] = c := by
      rw [List.getElem?_eq_getElem hi'] at e
      exact Option.some.inj e
    rw [e1, e2]
    exact TL.pre_self [c] _
  rcases PyProof.Rows.partition_whole t y with ⟨e, hn⟩ | ⟨i, e, hi, hn⟩
  · refine .inl ⟨e, fun hm => ?_⟩
    obtain ⟨i, h⟩ := List.mem_iff_getElem?.mp hm
    have hi : i < t.length := by
      rw [TL.len_tl]
      exact (List.getElem?_eq_some_iff.mp h).1
    exact no i hi (hn i) h
  · refine .inr ⟨_, _, e, ?_, ?_⟩
    · have hb : i + y.length ≤ t.length := hi.1
      have h1 := (TL.at_iff hy i).mp hi
      have h2 : ((TL.tl t).drop i).take (TL.tl y).length = TL.tl y := eq_of_beq h1
      refine TL.ext_tl ?_
      rw [TL.tl_append, TL.tl_append, TL.tl_strSub_end, TL.tl_strSub, List.drop_zero, Nat.sub_zero, TL.len_tl y]
      have h3 : (TL.tl t).drop i = TL.tl y ++ (TL.tl t).drop (i + (TL.tl y).length) := by
        rw [← TL.drop_two]
        have := (List.take_append_drop (TL.tl y).length ((TL.tl t).drop i)).symm
        rw [h2] at this
        exact this
      rw [List.append_assoc, ← h3, List.take_append_drop]
    · intro hm
      have e1 : (Builtin.Str.strSub t 0 i).cps.toList = (t.cps.toList).take i := by
        have := TL.tl_strSub t 0 i
        rw [List.drop_zero, Nat.sub_zero] at this
        exact this
      rw [e1] at hm
      obtain ⟨k, h⟩ := List.mem_iff_getElem?.mp hm
      have hk := (List.getElem?_eq_some_iff.mp h).1
      rw [List.length_take] at hk
      have hk2 : k < i := by omega
      have hlt : k < t.length := by
        rw [TL.len_tl]
        show k < t.cps.toList.length
        omega
      refine no k hlt (hn k hk2) ?_
      rw [List.getElem?_take_of_lt hk2] at h
      exact h
theorem slash_tl : TL.tl ("/" : Str) = [47] := by decide +kernel
theorem emp_tl : TL.tl Str.empty = [] := rfl
/-- no sign of a written number is a stroke -/
theorem num_noslash {b : Nat} (hb : 2 ≤ b) (h16 : b ≤ 16) (i : Int) : 47 ∉ (numT b i).cps.toList := by
  rw [numT_cps]
  intro h
  rcases List.mem_append.mp h with h | h
  · split at h
    · simp at h
    · cases h
  · obtain ⟨d, hd, e⟩ := List.mem_map.mp h
    have h1 := lsd_small hb _ d (List.mem_reverse.mp hd)
    have : ∀ d, d < 16 → dg d ≠ 47 := by decide
    exact this d (by omega) e
end MM
namespace MM
open PySem PySem.Spec PySem.Calls PyProof.Rows L2
open AutoSeq1 (wpAny_loadPart')
open GQ (FinOf call_here ListI)
/-! ### lists of instances, != -/
section
variable {prog : Program} {w : World} {A : Around} {R : Result → Shared → Prop}
theorem ne_loop (l b : Addr) (N : Nat) (Iv : Nat → Shared → Prop) (hl : ListI prog w A (fun e s' => R (.error e) s') l b N Iv) (fin : ∀ s, Iv N s → R (.ok (.ret (.bool false))) s) (d : Nat) :
    ∀ i : Nat, N - i = d → i ≤ N → ∀ s, Iv i s → wpAny (model prog w) A.in1 (Builtin.«list.__eq__.loop» ⟨[.ref l, .ref b, rawInt i, rawInt 3], []⟩) (FinOf prog w A R) (fun e s' => R (.error e) s') s := by
  induction d with
  | zero =>
    intro i hd hi s h
    obtain ⟨xs, ys, n, m, gx, gy, zx, zy, _⟩ := hl _ _ h
    have hR : R (.ok (.ret (.bool false))) s := fin s ((show i = N by omega) ▸ h)
    obtain ⟨hp, g, dd, tk, os⟩ := s
    wp_walk using wpAny_loadPart' gx, wpAny_loadPart' gy
    rw [show xs[((i : Nat) : Int).toNat]? = none by simp; omega, show ys[((i : Nat) : Int).toNat]? = none by simp; omega]
    wp_walk using wpAny_loadPart' gx, wpAny_loadPart' gy
    show R (.ok (.ret (.bool (xs.size != ys.size)))) _
    rw [zx, zy]
    simpa using hR
  | succ d ih =>
    intro i hd hi s h
    obtain ⟨xs, ys, n, m, gx, gy, zx, zy, turn⟩ := hl _ _ h
    have l1 : i < xs.size := by omega
    have l2 : i < ys.size := by omega
    have ht := turn l1 l2
    obtain ⟨hp, g, dd, tk, os⟩ := s
    wp_walk using wpAny_loadPart' gx, wpAny_loadPart' gy
    have ec : ((i : Int) + 1) = ((i + 1 : Nat) : Int) := by omega
    rw [show xs[((i : Nat) : Int).toNat]? = some xs[i] by simp [l1], show ys[((i : Nat) : Int).toNat]? = some ys[i] by simp [l2]]
    refine wpAny_bind (wpAny_mono ht (fun r s2 q2 => ?_) fun _ _ x => x)
    obtain ⟨hr, q2⟩ := q2
    subst hr
    have again := ih (i + 1) (by omega) (by omega) s2 q2
    obtain ⟨hp2, g2, d2, tk2, os2⟩ := s2
    wp_walk
    rw [ec]
    exact ⟨plainId_quiet MeetsSeq3.plain_eq_loop _, codeAny_builtin MeetsSeq3.entry_eq_loop (by
      rw [Around.under_plainId MeetsSeq3.plain_eq_loop _]
      exact again)⟩
theorem list_ne (l b : Addr) (N : Nat) (Iv : Nat → Shared → Prop) (hl : ListI prog w A (fun e s' => R (.error e) s') l b N Iv) (fin : ∀ s, Iv N s → R (.ok (.ret (.bool false))) s) {s : Shared} (h : Iv 0 s) :
    wpAny (model prog w) A.in1 (Builtin.«list.__ne__» ⟨[.ref l, .ref b], []⟩) (FinOf prog w A R) (fun e s' => R (.error e) s') s := by
  obtain ⟨xs, ys, n, m, gx, gy, zx, zy, _⟩ := hl _ _ h
  have first := ne_loop (A := A) (R := R) l b N Iv hl fin _ 0 rfl (Nat.zero_le _) s h
  obtain ⟨hp, g, d, tk, os⟩ := s
  have f3 := AutoSeq1.sub_list_list
  have nz : ¬ (xs.size != ys.size) = true := by simp [zx, zy]
  wp_walk using wpAny_loadPart' gx, wpAny_loadPart' gy
  exact ⟨plainId_quiet MeetsSeq3.plain_eq_loop _, codeAny_builtin MeetsSeq3.entry_eq_loop (by
    rw [Around.under_plainId MeetsSeq3.plain_eq_loop _]
    exact first)⟩
end
theorem op_neLG {X : Cx} {n : Nat} {D : Eqv} (hD : Mon D) (h : EqG X n D) (hr : Room (n + 1) X.A) : OpR X (compareOp .NotEq) (rNeG (DList D)) := by
  intro pins s σ H x y v u Q I rx ry hq
  obtain ⟨⟨a, b, xs, ys, rfl, rfl, ha, hb, p⟩, q⟩ := hq
  cases (show v = Value.ref a from rx)
  cases (show u = Value.ref b from ry)
  have sb : L2.Sub X (n + 1) X.A := ⟨hr, rfl⟩
  have hL : ListI X.prog X.w X.A X.xe a b xs.length (fun _ s' => LoopI X pins σ H s') := fun i s' z => by
    obtain ⟨H1, I1, e1⟩ := id z
    obtain ⟨_, its, k, r, e⟩ := I1.hok a _ (e1 _ _ ha)
    obtain ⟨_, its2, k2, r2, e2⟩ := I1.hok b _ (e1 _ _ hb)
    exact ⟨its.toArray, its2.toArray, k, k2, e, e2, by rw [List.size_toArray, ← r.length], by rw [List.size_toArray, ← r2.length, ← p.1], fun h1 h2 => turnG hD h sb p r r2 i h1 h2 s' z⟩
  obtain ⟨xa, ya, n1, n2, g1, g2, _⟩ := hL 0 s ⟨H, I, Ext.rfl'⟩
  show wpAny (model X.prog X.w) X.A (richCompare .NotEq (.ref a) (.ref b)) (EP X pins σ Q) X.xe s
  refine wpAny_richCompare_same_room (op := .NotEq) ⟨_, g1, rfl⟩ ⟨_, g2, rfl⟩ PySem.F.slot_list_ne (call_here PySem.F.slot_list_ne ⟨_, g1, rfl⟩ PySem.F.entry_list_ne (PySem.F.args_list_ne_2 _ _) ?_) sb.room.units0
  refine list_ne (R := wants (fun v s' => v ≠ .notImplemented ∧ EP X pins σ Q v s') X.xe) a b xs.length _ hL (fun s' z => ⟨(fun x => nomatch x), ?_⟩) ⟨H, I, Ext.rfl'⟩
  obtain ⟨H', I', e'⟩ := z
  exact ⟨.bl false, H', I', rfl, q H' e'⟩
end MM
namespace MM
open PySem PySem.Spec PySem.Calls PyProof.Rows L2
/-! ### texts cut from the right -/
section
variable {X : Cx}
theorem mt_rpartition : MtR X "str.rpartition" (fun x xs H Q => ∃ a b, x = .str a ∧ xs = [.str b] ∧ (b.length == 0) = false ∧ a.length ≤ sizeLine ∧
    ∀ p, H p = none → Q (.ref p) (L2.upd H p (.tup [.str (Txt.rpartition a b).1, .str (Txt.rpartition a b).2.1, .str (Txt.rpartition a b).2.2]))) := by
  intro pins s σ H x xs v us Q I rx rs h
  obtain ⟨a, b, rfl, rfl, hb, hz, h⟩ := h
  obtain ⟨t, rfl⟩ := rx
  cases rs with
  | cons r1 rs =>
    cases rs
    obtain ⟨u, rfl⟩ := r1
    refine call_meets F.slot_str_rpartition (typeIs_str _ _ _) F.entry_str_rpartition (F.args_str_rpartition_2 _ _) (meets_str_rpartition a b t u hb hz) ?_
    unfold Txt.rpartition at h
    revert h
    cases Builtin.Str.lastOccurrence a b 0 a.length with
    | none => intro h; exact laid_parts I h
    | some i => intro h; exact laid_parts I h
theorem mt_rsplit2 : MtR X "str.rsplit" (fun x xs H Q => ∃ (a b : Str) (k : Int), x = .str a ∧ xs = [.str b, .int k] ∧ (b.length == 0) = false ∧ (decide (k < -(2 ^ 63 : Int)) || decide (k ≥ 2 ^ 63)) = false ∧ a.length + 2 ≤ sizeLine ∧ rNewStrs (Txt.rsplitMax a b k) H Q) := by
  intro pins s σ H x xs v us Q I rx rs h
  obtain ⟨a, b, k, rfl, rfl, hb, hk, hz, h⟩ := h
  obtain ⟨t, rfl⟩ := rx
  cases rs with
  | cons r1 rs =>
    cases rs with
    | cons r2 rs =>
      cases rs
      obtain ⟨u, rfl⟩ := r1
      obtain ⟨z, rfl⟩ := r2
      have hn : (Builtin.Str.partsBetween a (Builtin.Str.occurrencesFromRight a b (limitOf a k)) b.length).length ≤ sizeLine := by
        have e1 := StrLaws.occR_length_le_len a b (limitOf a k)
        rw [length_partsBetween]; omega
      have hl : (Txt.rsplitMax a b k).length ≤ sizeLine := by
        unfold Txt.rsplitMax
        split
        · show 1 ≤ sizeLine; decide
        · split
          · show 1 ≤ sizeLine; decide
          · exact hn
      cases h1 : (decide (a.length < b.length) || decide (Builtin.Str.strKind a < Builtin.Str.strKind b))
      · cases hf : (Builtin.Str.occurrencesFromRight a b (limitOf a k)).isEmpty
        · refine call_meets F.slot_str_rsplit (typeIs_str _ _ _) F.entry_str_rsplit (F.args_str_rsplit_3 _ _ _) (meets_str_rsplit_sep_max a b k t u z hk h1 hb hf (by omega) hn) ?_
          show EP X pins σ Q (.ref s.heap.objs.size) { s with toks := _, heap := s.heap.push { cls := .type "list", data := .seq (strsFrom s.toks (Builtin.Str.partsBetween a (Builtin.Str.occurrencesFromRight a b (limitOf a k)) b.length)).toArray } }
          rw [strsFrom_eq]
          exact laid_strs (ys := Txt.rsplitMax a b k) I ((numbered_texts _ _).trans ((if_neg (ne_true_of_eq_false h1)).trans (if_neg (ne_true_of_eq_false hf))).symm) hl h
        · refine call_meets F.slot_str_rsplit (typeIs_str _ _ _) F.entry_str_rsplit (F.args_str_rsplit_3 _ _ _) (meets_str_rsplit_max_not_found a b k t u z hk h1 hb hf) ?_
          exact laid_strs (l := [(a, t)]) (ys := Txt.rsplitMax a b k) (k := s.toks) I ((if_neg (ne_true_of_eq_false h1)).trans (if_pos hf)).symm hl h
      · refine call_meets F.slot_str_rsplit (typeIs_str _ _ _) F.entry_str_rsplit (F.args_str_rsplit_3 _ _ _) (meets_str_rsplit_max_cannot_occur a b k t u z hk h1) ?_
        exact laid_strs (l := [(a, t)]) (ys := Txt.rsplitMax a b k) (k := s.toks) I (if_pos h1).symm hl h
end
theorem at_one {y : Str} {c : Nat} (ey : TL.tl y = [c]) (t : Str) (i : Nat) : StrLaws.At t y t.length i ↔ (TL.tl t)[i]? = some c := by
  have hy : TL.tl y ≠ [] := by rw [ey]; simp
  rw [TL.at_iff hy, ey]
  constructor
  · intro h
    have e : ((TL.tl t).drop i).take 1 = [c] := eq_of_beq h
    cases hd : (TL.tl t).drop i with
    | nil => rw [hd] at e; cases e
    | cons x r =>
      rw [hd] at e
      have hx : x = c := by
        have : [x] = [c] := e
        injection this
      have : ((TL.tl t).drop i)[0]? = some x := by rw [hd]; rfl
      rw [List.getElem?_drop, Nat.add_zero] at this
      rw [this, hx]
  · intro h
    obtain ⟨hi, e⟩ := List.getElem?_eq_some_iff.mp h
    rw [List.drop_eq_getElem_cons hi, e]
    exact TL.pre_self [c] _
/-- a text cut at its last sign of one kind -/
theorem rpart_cases {y : Str} {c : Nat} (ey : TL.tl y = [c]) (t : Str) : (Txt.rpartition t y = (Str.empty, Str.empty, t) ∧ c ∉ t.cps.toList) ∨ ∃ a b : Str, Txt.rpartition t y = (a, y, b) ∧ t = a ++ y ++ b ∧ c ∉ b.cps.toList := by
  have yl : y.length = 1 := by rw [TL.len_tl, ey]; rfl
  rcases StrLaws.last_spec t y with ⟨e, hn⟩ | ⟨i, e, hi, hn⟩
  · refine .inl ⟨by unfold Txt.rpartition; rw [e], fun hm => ?_⟩
    obtain ⟨i, h⟩ := List.mem_iff_getElem?.mp hm
    exact hn i ((at_one ey t i).mpr h)
  · refine .inr ⟨_, _, by unfold Txt.rpartition; rw [e], ?_, ?_⟩
    · have h1 := (at_one ey t i).mp hi
      obtain ⟨hlt, hc⟩ := List.getElem?_eq_some_iff.mp h1
      refine TL.ext_tl ?_
      rw [TL.tl_append, TL.tl_append, TL.tl_strSub_end, TL.tl_strSub, List.drop_zero, Nat.sub_zero, yl, ey]
      have h3 : (TL.tl t).drop i = c :: (TL.tl t).drop (i + 1) := by rw [List.drop_eq_getElem_cons hlt, hc]
      have h4 := (List.take_append_drop i (TL.tl t)).symm
      rw [h3] at h4
      rw [List.append_assoc]
      exact h4
    · intro hm
      have hm' : c ∈ TL.tl (Builtin.Str.strSub t (i + y.length) t.length) := hm
      rw [TL.tl_strSub_end] at hm'
      obtain ⟨j, hj⟩ := List.mem_iff_getElem?.mp hm'
      rw [List.getElem?_drop] at hj
      exact hn (i + y.length + j) (by omega) ((at_one ey t _).mpr hj)
theorem occR_skip (s sub : Str) (limit : Nat) (st : Array Nat × Nat) : ∀ l : List Nat, (∀ k ∈ l, ¬ ((st.fst.size < limit ∧ s.length - k + sub.length ≤ st.snd) ∧ Builtin.Str.subAt s sub (s.length - k) = true)) → (forIn l st (StrLaws.occRBody s sub limit)).run = st
  | [], _ => rfl
  | a :: l, h => by
    rw [List.forIn_cons]
    unfold StrLaws.occRBody
    rw [if_neg (h a List.mem_cons_self)]
    exact occR_skip s sub limit st l fun k hk => h k (List.mem_cons_of_mem _ hk)
theorem occR_hit (s sub : Str) (limit : Nat) (st : Array Nat × Nat) (a : Nat) (l : List Nat) (h : (st.fst.size < limit ∧ s.length - a + sub.length ≤ st.snd) ∧ Builtin.Str.subAt s sub (s.length - a) = true) : (forIn (a :: l) st (StrLaws.occRBody s sub limit)).run = (forIn l (st.fst.push (s.length - a), s.length - a) (StrLaws.occRBody s sub limit)).run := by
  rw [List.forIn_cons]
  conv => lhs; unfold StrLaws.occRBody
  rw [if_pos h]
  rfl
theorem occR_app (s sub : Str) (limit : Nat) (l2 : List Nat) : ∀ (l1 : List Nat) (st : Array Nat × Nat), (forIn (l1 ++ l2) st (StrLaws.occRBody s sub limit)).run = (forIn l2 ((forIn l1 st (StrLaws.occRBody s sub limit)).run) (StrLaws.occRBody s sub limit)).run
  | [], st => rfl
  | a :: l1, st => by
    rw [List.cons_append, List.forIn_cons, List.forIn_cons]
    by_cases h : (st.fst.size < limit ∧ s.length - a + sub.length ≤ st.snd) ∧ Builtin.Str.subAt s sub (s.length - a) = true
    · have e : StrLaws.occRBody s sub limit a st = pure (ForInStep.yield (st.fst.push (s.length - a), s.length - a)) := by
        unfold StrLaws.occRBody
        rw [if_pos h]
      rw [e]
      exact occR_app s sub limit l2 l1 _
    · have e : StrLaws.occRBody s sub limit a st = pure (ForInStep.yield (st.fst, st.snd)) := by
        unfold StrLaws.occRBody
        rw [if_neg h]
      rw [e]
      exact occR_app s sub limit l2 l1 _
theorem sub_one {y : Str} {c : Nat} (ey : TL.tl y = [c]) (t : Str) (i : Nat) (h : Builtin.Str.subAt t y i = true) (hi : i + 1 ≤ t.length) : (TL.tl t)[i]? = some c := by
  refine (at_one ey t i).mp ⟨?_, h⟩
  rw [TL.len_tl y, ey]
  exact hi
theorem sub_of {y : Str} {c : Nat} (ey : TL.tl y = [c]) (t : Str) (i : Nat) (h : (TL.tl t)[i]? = some c) : Builtin.Str.subAt t y i = true := ((at_one ey t i).mpr h).2
/-- a text cut at its last two signs of one kind -/
theorem rsplit_two {y : Str} {c : Nat} (ey : TL.tl y = [c]) (kd : y.cps.all (· < 256) = true) {a b d : Str} (hb : c ∉ b.cps.toList) (hd : c ∉ d.cps.toList) : Txt.rsplitMax (a ++ y ++ b ++ y ++ d) y 2 = [a, b, d] := by
  have yl : y.length = 1 := by rw [TL.len_tl, ey]; rfl
  generalize ht : a ++ y ++ b ++ y ++ d = t
  have et : TL.tl t = TL.tl a ++ (c :: (TL.tl b ++ (c :: TL.tl d))) := by
    rw [← ht, TL.tl_append, TL.tl_append, TL.tl_append, TL.tl_append, ey]
    simp
  have tl : t.length = a.length + 1 + b.length + 1 + d.length := by
    rw [TL.len_tl, et, TL.len_tl a, TL.len_tl b, TL.len_tl d]
    simp
    omega
  have la := TL.len_tl a
  have lb := TL.len_tl b
  have ld := TL.len_tl d
  have at1 : (TL.tl t)[a.length + 1 + b.length]? = some c := by
    rw [et, List.getElem?_append_right (by omega), show a.length + 1 + b.length - (TL.tl a).length = b.length + 1 by omega, List.getElem?_cons_succ, List.getElem?_append_right (by omega), show b.length - (TL.tl b).length = 0 by omega]
    rfl
  have at2 : (TL.tl t)[a.length]? = some c := by
    rw [et, List.getElem?_append_right (by omega), show a.length - (TL.tl a).length = 0 by omega]
    rfl
  have no1 : ∀ i, a.length + 1 + b.length < i → (TL.tl t)[i]? ≠ some c := fun i hi h => by
    rw [et, List.getElem?_append_right (by omega), show i - (TL.tl a).length = (b.length + 1 + (i - (a.length + 1 + b.length) - 1)) + 1 by omega, List.getElem?_cons_succ, List.getElem?_append_right (by omega), show b.length + 1 + (i - (a.length + 1 + b.length) - 1) - (TL.tl b).length = (i - (a.length + 1 + b.length) - 1) + 1 by omega, List.getElem?_cons_succ] at h
    exact hd (List.mem_of_getElem? h)
  have no2 : ∀ i, a.length < i → i < a.length + 1 + b.length → (TL.tl t)[i]? ≠ some c := fun i h1 h2 h => by
    rw [et, List.getElem?_append_right (by omega), show i - (TL.tl a).length = (i - a.length - 1) + 1 by omega, List.getElem?_cons_succ, List.getElem?_append_left (by omega)] at h
    exact hb (List.mem_of_getElem? h)
  have occ : Builtin.Str.occurrencesFromRight t y 2 = [a.length, a.length + 1 + b.length] := by
    rw [StrLaws.occR_eq]
    have r1 : List.range' 0 (t.length + 1) = List.range' 0 (d.length + 1) ++ ([d.length + 1] ++ (List.range' (d.length + 1 + 1) b.length ++ ([d.length + 1 + 1 + b.length] ++ List.range' (d.length + 1 + 1 + b.length + 1) a.length))) := by
      have e1 : ∀ k n m, List.range' k (n + m) = List.range' k n ++ List.range' (k + n) m := fun k n m => by rw [← List.range'_append_1]
      rw [show t.length + 1 = (d.length + 1) + (1 + (b.length + (1 + a.length))) by omega, e1 0 (d.length + 1), Nat.zero_add, e1 (d.length + 1) 1, e1 (d.length + 1 + 1) b.length, e1 (d.length + 1 + 1 + b.length) 1]
      rfl
    have q1 : t.length - (d.length + 1) = a.length + 1 + b.length := by omega
    have q2 : t.length - (d.length + 1 + 1 + b.length) = a.length := by omega
    have k1 := occR_skip t y 2 (#[], t.length) (List.range' 0 (d.length + 1)) (fun k hk hh => by
      have hk' := List.mem_range'_1.mp hk
      have h2 : t.length - k + y.length ≤ t.length := hh.1.2
      exact no1 (t.length - k) (by omega) (sub_one ey t _ hh.2 (by omega)))
    have k2 := occR_hit t y 2 (#[], t.length) (d.length + 1) [] ⟨⟨by simp, by show t.length - (d.length + 1) + y.length ≤ t.length; omega⟩, sub_of ey t _ (by rw [q1]; exact at1)⟩
    have k3 := occR_skip t y 2 ((#[] : Array Nat).push (t.length - (d.length + 1)), t.length - (d.length + 1)) (List.range' (d.length + 1 + 1) b.length) (fun k hk hh => by
      have hk' := List.mem_range'_1.mp hk
      exact no2 (t.length - k) (by omega) (by omega) (sub_one ey t _ hh.2 (by omega)))
    have k4 := occR_hit t y 2 ((#[] : Array Nat).push (t.length - (d.length + 1)), t.length - (d.length + 1)) (d.length + 1 + 1 + b.length) [] ⟨⟨by simp, by show t.length - (d.length + 1 + 1 + b.length) + y.length ≤ t.length - (d.length + 1); omega⟩, sub_of ey t _ (by rw [q2]; exact at2)⟩
    have k5 := occR_skip t y 2 (((#[] : Array Nat).push (t.length - (d.length + 1))).push (t.length - (d.length + 1 + 1 + b.length)), t.length - (d.length + 1 + 1 + b.length)) (List.range' (d.length + 1 + 1 + b.length + 1) a.length) (fun k hk hh => by
      have := hh.1.1
      simp at this)
    rw [r1, occR_app, k1, occR_app, k2]
    show (forIn (List.range' (d.length + 1 + 1) b.length ++ ([d.length + 1 + 1 + b.length] ++ List.range' (d.length + 1 + 1 + b.length + 1) a.length)) ((#[] : Array Nat).push (t.length - (d.length + 1)), t.length - (d.length + 1)) (StrLaws.occRBody t y 2)).run.fst.toList.reverse = _
    rw [occR_app, k3, occR_app, k4]
    show (forIn (List.range' (d.length + 1 + 1 + b.length + 1) a.length) (((#[] : Array Nat).push (t.length - (d.length + 1))).push (t.length - (d.length + 1 + 1 + b.length)), t.length - (d.length + 1 + 1 + b.length)) (StrLaws.occRBody t y 2)).run.fst.toList.reverse = _
    rw [k5, q1, q2]
    rfl
  have lim : limitOf t 2 = 2 := rfl
  unfold Txt.rsplitMax
  rw [lim, occ]
  have h1 : (decide (t.length < y.length) || decide (Builtin.Str.strKind t < Builtin.Str.strKind y)) = false := by
    rw [Bool.or_eq_false_iff]
    exact ⟨decide_eq_false (by omega), decide_eq_false (TL.kind_ok kd)⟩
  rw [h1, if_neg (by simp), if_neg (by simp), StrLaws.partsBetween_eq]
  show [Builtin.Str.strSub t 0 a.length, Builtin.Str.strSub t (a.length + y.length) (a.length + 1 + b.length), Builtin.Str.strSub t (a.length + 1 + b.length + y.length) t.length] = _
  have p1 : Builtin.Str.strSub t 0 a.length = a := TL.ext_tl (by
    rw [TL.tl_strSub, List.drop_zero, Nat.sub_zero, et, la, List.take_left])
  have p2 : Builtin.Str.strSub t (a.length + y.length) (a.length + 1 + b.length) = b := TL.ext_tl (by
    rw [TL.tl_strSub, et, yl, la, List.drop_append, List.drop_of_length_le (by omega), show (TL.tl a).length + 1 - (TL.tl a).length = 1 by omega, List.nil_append, List.drop_succ_cons, List.drop_zero, show (TL.tl a).length + 1 + b.length - ((TL.tl a).length + 1) = (TL.tl b).length by omega, List.take_left])
  have p3 : Builtin.Str.strSub t (a.length + 1 + b.length + y.length) t.length = d := TL.ext_tl (by
    rw [TL.tl_strSub_end, et, yl, List.drop_append, List.drop_of_length_le (by omega), List.nil_append, show a.length + 1 + b.length + 1 - (TL.tl a).length = (b.length + 1) + 1 by omega, List.drop_succ_cons, List.drop_append, List.drop_of_length_le (by omega), List.nil_append, show b.length + 1 - (TL.tl b).length = 0 + 1 by omega, List.drop_succ_cons, List.drop_zero])
  rw [p1, p2, p3]
end MM
namespace MM
open PySem PySem.Spec PySem.Calls PyProof.Rows L2
/-! ### the texts of dates -/
def twoF (i : Int) : Str := Txt.zfill (numT 10 i) 2
def oddS (o : Bool) : Str := if o then "*" else ""
def daS (y n d : Int) (o : Bool) : Str := (((((Str.empty ++ numT 10 y) ++ ("-" : Str)) ++ twoF n) ++ oddS o) ++ ("-" : Str)) ++ twoF d
theorem dash_tl : TL.tl ("-" : Str) = [45] := by decide +kernel
theorem star_tl : TL.tl ("*" : Str) = [42] := by decide +kernel
theorem two_cps {i : Int} (h0 : 0 ≤ i) : (twoF i).cps.toList = (if i < 10 then [48] else []) ++ (numT 10 i).cps.toList := by
  have hc : (numT 10 i).cps.toList = (lsd 10 i.natAbs).reverse.map dg := by
    unfold numT
    rw [if_neg (by omega)]
    rfl
  have hl : (numT 10 i).length = (lsd 10 i.natAbs).length := by
    unfold numT
    rw [if_neg (by omega), txt_len, List.length_reverse]
  unfold twoF Txt.zfill
  by_cases h : i < 10
  · have e1 : lsd 10 i.natAbs = [i.natAbs] := lsd_lt (by omega)
    rw [hl, e1, if_neg (by simp), if_pos h]
    have e2 : numT 10 i = ⟨#[dg i.natAbs]⟩ := str_ext (by rw [hc, e1]; rfl)
    rw [e2]
    have hd : dg i.natAbs = 48 + i.natAbs := by unfold dg; rw [if_pos (by omega)]
    have : ∀ k : Fin 10, (zfilled ⟨#[48 + k.val]⟩ ((2 : Int).toNat - [k.val].length)).cps.toList = [48] ++ [48 + k.val] := by decide +kernel
    have z := this ⟨i.natAbs, by omega⟩
    rw [hd]
    exact z
  · have e1 : lsd 10 i.natAbs = (i.natAbs % 10) :: lsd 10 (i.natAbs / 10) := lsd_ge (by decide) (by omega)
    have e2 : 2 ≤ (lsd 10 i.natAbs).length := by
      rw [e1, List.length_cons]
      have := List.length_pos_iff.mpr (lsd_ne 10 (i.natAbs / 10))
      omega
    rw [hl, if_pos (by omega), if_neg h]
    rfl
theorem two_neg {i : Int} (h : i < 0) : twoF i = ("-" : Str) ++ numT 10 (-i) := by
  have e : numT 10 i = ("-" : Str) ++ txt (lsd 10 i.natAbs).reverse := by
    unfold numT
    rw [if_pos h]
  have e2 : numT 10 (-i) = txt (lsd 10 i.natAbs).reverse := by
    unfold numT
    rw [if_neg (by omega), show (-i).natAbs = i.natAbs by omega]
  have hl : (2 : Int) ≤ (numT 10 i).length := by
    rw [e, dash_txt_len, List.length_reverse]
    have := List.length_pos_iff.mpr (lsd_ne 10 i.natAbs)
    omega
  unfold twoF Txt.zfill
  rw [if_pos hl, e, e2]
theorem two_len' {i : Int} {n : Nat} (z : (numT 10 i).length ≤ n) : (twoF i).length ≤ n + 1 := by
  by_cases h : i < 0
  · have hl : (2 : Int) ≤ (numT 10 i).length := by
      have e : numT 10 i = ("-" : Str) ++ txt (lsd 10 i.natAbs).reverse := by
        unfold numT
        rw [if_pos h]
      rw [e, dash_txt_len, List.length_reverse]
      have := List.length_pos_iff.mpr (lsd_ne 10 i.natAbs)
      omega
    unfold twoF Txt.zfill
    rw [if_pos hl]
    omega
  · rw [len_cps, two_cps (by omega), List.length_append, ← len_cps]
    split <;> simp <;> omega
theorem num_dig {i : Int} (h : 0 ≤ i) : ∀ c ∈ (numT 10 i).cps.toList, 48 ≤ c ∧ c ≤ 57 := by
  intro c hc
  rw [numT_cps, if_neg (by omega), List.nil_append] at hc
  obtain ⟨d, hd, rfl⟩ := List.mem_map.mp hc
  have := lsd_small (b := 10) (by decide) i.natAbs d (List.mem_reverse.mp hd)
  unfold dg
  rw [if_pos this]
  omega
theorem two_dig {i : Int} (h : 0 ≤ i) : ∀ c ∈ (twoF i).cps.toList, 48 ≤ c ∧ c ≤ 57 := by
  intro c hc
  rw [two_cps h] at hc
  rcases List.mem_append.mp hc with z | z
  · split at z
    · rw [List.mem_singleton.mp z]
      decide
    · cases z
  · exact num_dig h c z
theorem ninL_zero (b : Int) (l : List Nat) : ninL b (48 :: l) = ninL b l := by
  unfold ninL
  rw [List.foldl_cons]
  have : fv 48 = 0 := fv_dg (d := 0) (by decide)
  rw [this, Int.zero_mul, Int.add_zero]
theorem nin_two {i : Int} (h : 0 ≤ i) : nin ((10 : Nat) : Int) (twoF i) = i := by
  have e := nin_num (b := 10) (by decide) (by decide) i
  have hd : ∀ t : Str, (∀ c ∈ t.cps.toList, 48 ≤ c ∧ c ≤ 57) → hasD t.cps.toList = false := fun t ht => by
    unfold hasD
    cases hc : t.cps.toList with
    | nil => rfl
    | cons x xs =>
      have := ht x (by rw [hc]; exact List.mem_cons_self)
      show (some x == some 45) = false
      exact beq_eq_false_iff_ne.mpr fun z => by injection z with z; omega
  unfold nin unm at e ⊢
  rw [hd _ (num_dig h)] at e
  rw [hd _ (two_dig h)]
  simp only [Bool.false_eq_true, if_false] at e ⊢
  rw [two_cps h]
  split
  · rw [List.singleton_append, ninL_zero]
    exact e
  · rw [List.nil_append]
    exact e
theorem two_inj {i j : Int} (h : 0 ≤ i) (h' : 0 ≤ j) (e : twoF i = twoF j) : i = j := by
  rw [← nin_two h, e, nin_two h']
/-! a text cut at its last sign of one kind is cut so but once -/
theorem cut_once {c : Nat} {l1 l2 r1 r2 : List Nat} (e : l1 ++ c :: r1 = l2 ++ c :: r2) (h1 : c ∉ r1) (h2 : c ∉ r2) : l1 = l2 ∧ r1 = r2 := by
  rcases List.append_eq_append_iff.mp e with ⟨a, e1, e2⟩ | ⟨a, e1, e2⟩
  · cases a with
    | nil =>
      rw [List.nil_append] at e2
      injection e2 with _ e3
      exact ⟨by rw [e1, List.append_nil], e3⟩
    | cons x a =>
      rw [List.cons_append] at e2
      injection e2 with _ e3
      exact absurd (by rw [e3]; simp) h1
  · cases a with
    | nil =>
      rw [List.nil_append] at e2
      injection e2 with _ e3
      exact ⟨by rw [e1, List.append_nil], e3.symm⟩
    | cons x a =>
      rw [List.cons_append] at e2
      injection e2 with _ e3
      exact absurd (by rw [e3]; simp) h2
theorem cutd {a b a' b' : Str} (e : a ++ ("-" : Str) ++ b = a' ++ ("-" : Str) ++ b') (h : 45 ∉ b.cps.toList) (h' : 45 ∉ b'.cps.toList) : a = a' ∧ b = b' := by
  have e1 := congrArg TL.tl e
  rw [TL.tl_append, TL.tl_append, TL.tl_append, TL.tl_append, dash_tl, List.append_assoc, List.append_assoc] at e1
  obtain ⟨h1, h2⟩ := cut_once (c := 45) e1 h h'
  exact ⟨TL.ext_tl h1, TL.ext_tl h2⟩
theorem app_assoc (a b c : Str) : a ++ b ++ c = a ++ (b ++ c) := str_ext (by simp only [app_cps, List.append_assoc])
theorem emp_app (a : Str) : Str.empty ++ a = a := str_ext (by rw [app_cps]; rfl)
theorem app_emp (a : Str) : a ++ ("" : Str) = a := str_ext (by rw [app_cps, show ("" : Str).cps.toList = [] by decide +kernel, List.append_nil])
theorem daS_eq (y n d : Int) (o : Bool) : daS y n d o = numT 10 y ++ ("-" : Str) ++ (twoF n ++ oddS o) ++ ("-" : Str) ++ twoF d := by
  unfold daS
  rw [emp_app, app_assoc (numT 10 y ++ ("-" : Str)) (twoF n)]
theorem two_no {i : Int} (h : 0 ≤ i) : 45 ∉ (twoF i).cps.toList ∧ 42 ∉ (twoF i).cps.toList := ⟨fun z => by have := two_dig h _ z; omega, fun z => by have := two_dig h _ z; omega⟩
theorem num_no {i : Int} (h : 0 ≤ i) : 45 ∉ (numT 10 i).cps.toList ∧ 42 ∉ (numT 10 i).cps.toList := ⟨fun z => by have := num_dig h _ z; omega, fun z => by have := num_dig h _ z; omega⟩
theorem odd_no (o : Bool) : 45 ∉ (oddS o).cps.toList := by cases o <;> decide +kernel
theorem mid_no {w : Str} (h : 45 ∉ w.cps.toList) (o : Bool) : 45 ∉ (w ++ oddS o).cps.toList := fun z => by
  rw [app_cps] at z
  rcases List.mem_append.mp z with z | z
  · exact h z
  · exact odd_no o z
/-! a star at the end -/
theorem ends_iff (x : Str) : Txt.endswith x ("*" : Str) = true ↔ x.cps.toList.getLast? = some 42 := by
  have sl : ("*" : Str).length = 1 := by decide +kernel
  unfold Txt.endswith
  rw [sl, Bool.and_eq_true, decide_eq_true_eq, List.getLast?_eq_getElem?, len_cps]
  constructor
  · rintro ⟨h1, h2⟩
    have := sub_one star_tl x _ h2 (by rw [len_cps]; omega)
    exact this
  · intro h
    have hl := (List.getElem?_eq_some_iff.mp h).1
    exact ⟨by omega, sub_of star_tl x _ h⟩
theorem suff_yes (w : Str) : Txt.removesuffix (w ++ ("*" : Str)) ("*" : Str) = w := by
  have sl : ("*" : Str).length = 1 := by decide +kernel
  have wl : (w ++ ("*" : Str)).length = w.length + 1 := by rw [len_cps, app_cps, List.length_append, ← len_cps, ← len_cps, sl]
  have ha : (TL.tl (w ++ ("*" : Str)))[w.length]? = some 42 := by
    rw [TL.tl_append, star_tl, List.getElem?_append_right (by rw [TL.len_tl]; exact Nat.le_refl _), TL.len_tl, Nat.sub_self]
    rfl
  unfold Txt.removesuffix
  rw [wl, sl, show w.length + 1 - 1 = w.length by omega, sub_of star_tl _ _ ha]
  rw [show (decide (1 ≤ w.length + 1) && true) = true by simp, if_pos rfl]
  unfold Txt.affix
  show (if (w.length - 0 == (w ++ ("*" : Str)).length) = true then w ++ ("*" : Str) else Builtin.Str.strSub (w ++ ("*" : Str)) 0 w.length) = w
  rw [wl, Nat.sub_zero, show (w.length == w.length + 1) = false by simp]
  refine TL.ext_tl ?_
  simp only [Bool.false_eq_true, if_false]
  rw [TL.tl_strSub, TL.tl_append, List.drop_zero, Nat.sub_zero, TL.len_tl, List.take_left]
theorem suff_no {x : Str} (h : x.cps.toList.getLast? ≠ some 42) : Txt.removesuffix x ("*" : Str) = x := by
  have sl : ("*" : Str).length = 1 := by decide +kernel
  unfold Txt.removesuffix
  have : (decide (("*" : Str).length ≤ x.length) && Builtin.Str.subAt x ("*" : Str) (x.length - ("*" : Str).length)) = false := by
    cases hb : (decide (("*" : Str).length ≤ x.length) && Builtin.Str.subAt x ("*" : Str) (x.length - ("*" : Str).length)) with
    | false => rfl
    | true =>
      rw [Bool.and_eq_true, decide_eq_true_eq, sl] at hb
      refine absurd ?_ h
      rw [List.getLast?_eq_getElem?, ← len_cps]
      exact sub_one star_tl x _ hb.2 (by omega)
  rw [this]
  rfl
theorem last_app (w : Str) : (w ++ ("*" : Str)).cps.toList.getLast? = some 42 := by
  rw [app_cps, show ("*" : Str).cps.toList = [42] from star_tl]
  simp
theorem last_no {w : Str} (h : 42 ∉ w.cps.toList) : w.cps.toList.getLast? ≠ some 42 := fun z => h (List.mem_of_getLast? z)
theorem suff_odd {w : Str} (h : 42 ∉ w.cps.toList) (o : Bool) : Txt.removesuffix (w ++ oddS o) ("*" : Str) = w ∧ Txt.endswith (w ++ oddS o) ("*" : Str) = o := by
  cases o with
  | true => exact ⟨suff_yes w, (ends_iff _).mpr (last_app w)⟩
  | false =>
    have e : w ++ oddS false = w := app_emp w
    rw [e]
    refine ⟨suff_no (last_no h), ?_⟩
    cases hb : Txt.endswith w ("*" : Str) with
    | false => rfl
    | true => exact absurd ((ends_iff w).mp hb) (last_no h)
/-! read_date, as maths -/
structure Rdd where
  y : Int
  n : Int
  d : Int
  o : Bool
def rdd (t : Str) : Rdd :=
  let r1 := Txt.rpartition t ("-" : Str)
  let r2 := Txt.rpartition r1.1 ("-" : Str)
  ⟨nin ((10 : Nat) : Int) r2.1, nin ((10 : Nat) : Int) (Txt.removesuffix r2.2.2 ("*" : Str)), nin ((10 : Nat) : Int) r1.2.2, Txt.endswith r2.2.2 ("*" : Str)⟩
theorem rp_app {a b : Str} (h : 45 ∉ b.cps.toList) : Txt.rpartition (a ++ ("-" : Str) ++ b) ("-" : Str) = (a, ("-" : Str), b) := by
  rcases rpart_cases dash_tl (a ++ ("-" : Str) ++ b) with ⟨_, hn⟩ | ⟨a', b', e, ht, hb⟩
  · refine absurd ?_ hn
    rw [app_cps, app_cps, dash_cps]
    simp
  · obtain ⟨e1, e2⟩ := cutd ht h hb
    rw [e, ← e1, ← e2]
theorem rdd_of {t : Str} {y n d : Int} {o : Bool} (hn : 0 ≤ n) (hd : 0 ≤ d) (e : t = daS y n d o) : (rdd t).y = y ∧ (rdd t).n = n ∧ (rdd t).d = d ∧ (rdd t).o = o := by
  have m := mid_no (two_no hn).1 o
  have e1 : Txt.rpartition t ("-" : Str) = (numT 10 y ++ ("-" : Str) ++ (twoF n ++ oddS o), ("-" : Str), twoF d) := by
    rw [e, daS_eq]
    exact rp_app (two_no hd).1
  have e2 := rp_app (a := numT 10 y) m
  obtain ⟨s1, s2⟩ := suff_odd (two_no hn).2 o
  unfold rdd
  simp only [e1, e2, s1, s2]
  exact ⟨nin_num (b := 10) (by decide) (by decide) y, nin_two hn, nin_two hd, trivial⟩
theorem rdd_ok {t : Str} (e : daS (rdd t).y (rdd t).n (rdd t).d (rdd t).o = t) : 0 ≤ (rdd t).n ∧ 0 ≤ (rdd t).d := by
  have e0 := e
  rw [daS_eq] at e
  rcases rpart_cases dash_tl t with ⟨_, hn⟩ | ⟨r, dd, e1, ht, hb⟩
  · refine absurd ?_ hn
    rw [← e, app_cps, app_cps, dash_cps]
    simp
  have hd : 0 ≤ (rdd t).d := by
    refine Int.not_lt.mp fun z => ?_
    have ed : (rdd t).d = nin ((10 : Nat) : Int) dd := by
      unfold rdd
      simp only [e1]
    rw [two_neg z, ← app_assoc] at e
    obtain ⟨_, e3⟩ := cutd (e.trans ht) (num_no (by omega)).1 hb
    rw [← e3, nin_num (b := 10) (by decide) (by decide)] at ed
    omega
  refine ⟨?_, hd⟩
  obtain ⟨e3, _⟩ := cutd (e.trans ht) (two_no hd).1 hb
  rcases rpart_cases dash_tl r with ⟨_, hn⟩ | ⟨yy, mm, e4, hr, hm⟩
  · refine absurd ?_ hn
    rw [← e3, app_cps, app_cps, dash_cps]
    simp
  refine Int.not_lt.mp fun z => ?_
  have en : (rdd t).n = nin ((10 : Nat) : Int) (Txt.removesuffix mm ("*" : Str)) := by
    unfold rdd
    simp only [e1, e4]
  rw [two_neg z, app_assoc ("-" : Str), ← app_assoc (numT 10 (rdd t).y ++ ("-" : Str))] at e3
  obtain ⟨_, e5⟩ := cutd (e3.trans hr) (mid_no (num_no (by omega)).1 _) hm
  rw [← e5, (suff_odd (num_no (by omega)).2 _).1, nin_num (b := 10) (by decide) (by decide)] at en
  omega
end MM
namespace MM
open PySem PySem.Spec PySem.Calls PyProof.Rows L2
open AutoSeq1 (wpAny_loadPart')
open GQ (FinOf call_here)
/-! ### lists whose first things differ, == -/
section
variable {prog : Program} {w : World} {A : Around} {R : Result → Shared → Prop}
def ListF (prog : Program) (w : World) (A : Around) (E : Value → Shared → Prop) (l b : Addr) (N : Nat) (I : Shared → Prop) : Prop :=
  ∀ s, I s → ∃ (xs ys : Array Value) (n m : Nat), s.heap.get? l = some { cls := .type "list", data := .seq xs n } ∧ s.heap.get? b = some { cls := .type "list", data := .seq ys m } ∧ xs.size = N ∧ ys.size = N ∧
    ∀ (h1 : 0 < xs.size) (h2 : 0 < ys.size), wpAny (model prog w) A.in1 (eqBool xs[0] ys[0]) (fun r s' => r = false ∧ I s') E s
theorem eq_loopF (l b : Addr) (N : Nat) (hN : 0 < N) (Iv : Shared → Prop) (hl : ListF prog w A (fun e s' => R (.error e) s') l b N Iv) (fin : ∀ s, Iv s → R (.ok (.ret (.bool false))) s) {s : Shared} (h : Iv s) :
    wpAny (model prog w) A.in1 (Builtin.«list.__eq__.loop» ⟨[.ref l, .ref b, rawInt 0, rawInt 2], []⟩) (FinOf prog w A R) (fun e s' => R (.error e) s') s := by
  obtain ⟨xs, ys, n, m, gx, gy, zx, zy, turn⟩ := hl _ h
  have l1 : 0 < xs.size := by omega
  have l2 : 0 < ys.size := by omega
  have ht := turn l1 l2
  obtain ⟨hp, g, dd, tk, os⟩ := s
  wp_walk using wpAny_loadPart' gx, wpAny_loadPart' gy
  rw [show xs[(0 : Int).toNat]? = some xs[0] by simp [l1], show ys[(0 : Int).toNat]? = some ys[0] by simp [l2]]
  refine wpAny_bind (wpAny_mono ht (fun r s2 q2 => ?_) fun _ _ x => x)
  obtain ⟨hr, q2⟩ := q2
  subst hr
  obtain ⟨xs2, ys2, n2, m2, gx2, gy2, zx2, zy2, _⟩ := hl _ q2
  have hR := fin _ q2
  have k1 : 0 < xs2.size := by omega
  have k2 : 0 < ys2.size := by omega
  obtain ⟨hp2, g2, d2, tk2, os2⟩ := s2
  wp_walk using wpAny_loadPart' gx2, wpAny_loadPart' gy2
  rw [show xs2[(0 : Int).toNat]? = some xs2[0] by simp [k1], show ys2[(0 : Int).toNat]? = some ys2[0] by simp [k2]]
  wp_walk
  exact hR
theorem list_eqF (l b : Addr) (N : Nat) (hN : 0 < N) (Iv : Shared → Prop) (hl : ListF prog w A (fun e s' => R (.error e) s') l b N Iv) (fin : ∀ s, Iv s → R (.ok (.ret (.bool false))) s) {s : Shared} (h : Iv s) :
    wpAny (model prog w) A.in1 (Builtin.«list.__eq__» ⟨[.ref l, .ref b], []⟩) (FinOf prog w A R) (fun e s' => R (.error e) s') s := by
  obtain ⟨xs, ys, n, m, gx, gy, zx, zy, _⟩ := hl _ h
  have first := eq_loopF (A := A) (R := R) l b N hN Iv hl fin h
  obtain ⟨hp, g, d, tk, os⟩ := s
  have f3 := AutoSeq1.sub_list_list
  have nz : ¬ (xs.size != ys.size) = true := by simp [zx, zy]
  wp_walk using wpAny_loadPart' gx, wpAny_loadPart' gy
  exact ⟨plainId_quiet MeetsSeq3.plain_eq_loop _, codeAny_builtin MeetsSeq3.entry_eq_loop (by
    rw [Around.under_plainId MeetsSeq3.plain_eq_loop _]
    exact first)⟩
end
/-- x == y, lists of one length whose first things are not == -/
def rEqLF (D : V → V → Hp → Bool → Prop) : R2 := fun x y H Q => ∃ (a b : Addr) (p q : V) (xs ys : List V), x = .ref a ∧ y = .ref b ∧ H a = some (.lst (p :: xs)) ∧ H b = some (.lst (q :: ys)) ∧ xs.length = ys.length ∧ (∀ H', Ext H H' → D p q H' false) ∧ ∀ H', Ext H H' → Q (.bl false) H'
theorem op_eqLF {X : Cx} {n : Nat} {D : V → V → Hp → Bool → Prop} (h : EqB X n D) (hr : Room (n + 1) X.A) : OpR X (compareOp .Eq) (rEqLF D) := by
  intro pins s σ H x y v u Q I rx ry hq
  obtain ⟨a, b, p, q, xs, ys, rfl, rfl, ha, hb, hlen, hD, k⟩ := hq
  cases (show v = Value.ref a from rx)
  cases (show u = Value.ref b from ry)
  have sb : L2.Sub X (n + 1) X.A := ⟨hr, rfl⟩
  have hL : ListF X.prog X.w X.A X.xe a b (xs.length + 1) (fun s' => LoopI X pins σ H s') := fun s' z => by
    obtain ⟨H1, I1, e1⟩ := id z
    obtain ⟨_, its, k, r, e⟩ := I1.hok a _ (e1 _ _ ha)
    obtain ⟨_, its2, k2, r2, e2⟩ := I1.hok b _ (e1 _ _ hb)
    refine ⟨its.toArray, its2.toArray, k, k2, e, e2, by rw [List.size_toArray, ← r.length]; rfl, by rw [List.size_toArray, ← r2.length, List.length_cons, hlen], fun h1 h2 => ?_⟩
    obtain ⟨p', hp', rp⟩ := get_arr r h1
    obtain ⟨q', hq', rq⟩ := get_arr r2 h2
    cases hp'
    cases hq'
    refine wpAny_mono (h X.A.in1 pins s' σ H1 _ _ _ _ false sb.in1 I1 rp rq (hD H1 e1)) (fun c s2 z2 => ?_) fun _ _ y => y
    obtain ⟨hc, H2, I2, x2⟩ := z2
    exact ⟨hc, H2, I2, e1.trans x2⟩
  obtain ⟨xa, ya, n1, n2, g1, g2, _⟩ := hL s ⟨H, I, Ext.rfl'⟩
  show wpAny (model X.prog X.w) X.A (richCompare .Eq (.ref a) (.ref b)) (EP X pins σ Q) X.xe s
  refine wpAny_richCompare_same_room (op := .Eq) ⟨_, g1, rfl⟩ ⟨_, g2, rfl⟩ PySem.F.slot_list_eq (call_here PySem.F.slot_list_eq ⟨_, g1, rfl⟩ PySem.F.entry_list_eq (PySem.F.args_list_eq_2 _ _) ?_) sb.room.units0
  refine list_eqF (R := wants (fun v s' => v ≠ .notImplemented ∧ EP X pins σ Q v s') X.xe) a b (xs.length + 1) (Nat.succ_pos _) _ hL (fun s' z => ⟨(fun x => nomatch x), ?_⟩) ⟨H, I, Ext.rfl'⟩
  obtain ⟨H', I', e'⟩ := z
  exact ⟨.bl false, H', I', rfl, k H' e'⟩
end MM
namespace MM
open PySem PySem.Spec PyProof.Rows L2
/-- the text by places -/
def top (i : Nat) : Stmt := PySem.Challenge.pw_meanmoon_k74_dates_read.main.body.getD i (.Pass ⟨0, 0, 0, 0⟩)
abbrev s_NoShare_init : Stmt := inClass (top 1) 0
theorem c_NoShare_init : FnScope ["self", "top"] ["self", "top"] (defScope s_NoShare_init) := ⟨rfl, rfl, rfl, by decide +kernel, rfl, by decide +kernel, by decide +kernel⟩
theorem b_NoShare_init : Bd "__init__" "NoShare.__init__" s_NoShare_init ["self", "top"] := fun _ _ _ _ _ _ us hl => match us, hl with | [_, _], _ => rfl
abbrev s_NoCalendar_init : Stmt := inClass (top 2) 0
theorem c_NoCalendar_init : FnScope ["self", "why"] ["self", "why"] (defScope s_NoCalendar_init) := ⟨rfl, rfl, rfl, by decide +kernel, rfl, by decide +kernel, by decide +kernel⟩
theorem b_NoCalendar_init : Bd "__init__" "NoCalendar.__init__" s_NoCalendar_init ["self", "why"] := fun _ _ _ _ _ _ us hl => match us, hl with | [_, _], _ => rfl
abbrev s_NoDate_init : Stmt := inClass (top 3) 0
theorem c_NoDate_init : FnScope ["self", "date", "why"] ["self", "date", "why"] (defScope s_NoDate_init) := ⟨rfl, rfl, rfl, by decide +kernel, rfl, by decide +kernel, by decide +kernel⟩
theorem b_NoDate_init : Bd "__init__" "NoDate.__init__" s_NoDate_init ["self", "date", "why"] := fun _ _ _ _ _ _ us hl => match us, hl with | [_, _, _], _ => rfl
abbrev s_NoWheel_init : Stmt := inClass (top 4) 0
theorem c_NoWheel_init : FnScope ["self", "names"] ["self", "names"] (defScope s_NoWheel_init) := ⟨rfl, rfl, rfl, by decide +kernel, rfl, by decide +kernel, by decide +kernel⟩
theorem b_NoWheel_init : Bd "__init__" "NoWheel.__init__" s_NoWheel_init ["self", "names"] := fun _ _ _ _ _ _ us hl => match us, hl with | [_, _], _ => rfl
abbrev s_NoName_init : Stmt := inClass (top 5) 0
theorem c_NoName_init : FnScope ["self", "name"] ["self", "name"] (defScope s_NoName_init) := ⟨rfl, rfl, rfl, by decide +kernel, rfl, by decide +kernel, by decide +kernel⟩
theorem b_NoName_init : Bd "__init__" "NoName.__init__" s_NoName_init ["self", "name"] := fun _ _ _ _ _ _ us hl => match us, hl with | [_, _], _ => rfl
abbrev s_NoDay_init : Stmt := inClass (top 6) 0
theorem c_NoDay_init : FnScope ["self", "one", "two"] ["self", "one", "two"] (defScope s_NoDay_init) := ⟨rfl, rfl, rfl, by decide +kernel, rfl, by decide +kernel, by decide +kernel⟩
theorem b_NoDay_init : Bd "__init__" "NoDay.__init__" s_NoDay_init ["self", "one", "two"] := fun _ _ _ _ _ _ us hl => match us, hl with | [_, _, _], _ => rfl
abbrev s_Taken_init : Stmt := inClass (top 7) 0
theorem c_Taken_init : FnScope ["self", "name"] ["self", "name"] (defScope s_Taken_init) := ⟨rfl, rfl, rfl, by decide +kernel, rfl, by decide +kernel, by decide +kernel⟩
theorem b_Taken_init : Bd "__init__" "Taken.__init__" s_Taken_init ["self", "name"] := fun _ _ _ _ _ _ us hl => match us, hl with | [_, _], _ => rfl
abbrev s_NoText_init : Stmt := inClass (top 8) 0
theorem c_NoText_init : FnScope ["self", "at"] ["self", "at"] (defScope s_NoText_init) := ⟨rfl, rfl, rfl, by decide +kernel, rfl, by decide +kernel, by decide +kernel⟩
theorem b_NoText_init : Bd "__init__" "NoText.__init__" s_NoText_init ["self", "at"] := fun _ _ _ _ _ _ us hl => match us, hl with | [_, _], _ => rfl
abbrev s_NoNote_init : Stmt := inClass (top 9) 0
theorem c_NoNote_init : FnScope ["self", "at"] ["self", "at"] (defScope s_NoNote_init) := ⟨rfl, rfl, rfl, by decide +kernel, rfl, by decide +kernel, by decide +kernel⟩
theorem b_NoNote_init : Bd "__init__" "NoNote.__init__" s_NoNote_init ["self", "at"] := fun _ _ _ _ _ _ us hl => match us, hl with | [_, _], _ => rfl
abbrev s_NoDeed_init : Stmt := inClass (top 10) 0
theorem c_NoDeed_init : FnScope ["self"] ["self"] (defScope s_NoDeed_init) := ⟨rfl, rfl, rfl, by decide +kernel, rfl, by decide +kernel, by decide +kernel⟩
theorem b_NoDeed_init : Bd "__init__" "NoDeed.__init__" s_NoDeed_init ["self"] := fun _ _ _ _ _ _ us hl => match us, hl with | [_], _ => rfl
abbrev s_numeral : Stmt := top 13
theorem c_numeral : FnScope ["number", "base", "rest", "signs"] ["number", "base"] (defScope s_numeral) := ⟨rfl, rfl, rfl, by decide +kernel, rfl, by decide +kernel, by decide +kernel⟩
abbrev s_Date_init : Stmt := inClass (top 15) 0
theorem c_Date_init : FnScope ["self", "year", "number", "day", "odd"] ["self", "year", "number", "day", "odd"] (defScope s_Date_init) := ⟨rfl, rfl, rfl, by decide +kernel, rfl, by decide +kernel, by decide +kernel⟩
abbrev s_Date_eq : Stmt := inClass (top 15) 1
theorem c_Date_eq : FnScope ["self", "other"] ["self", "other"] (defScope s_Date_eq) := ⟨rfl, rfl, rfl, by decide +kernel, rfl, by decide +kernel, by decide +kernel⟩
theorem b_Date_eq : Bd "__eq__" "Date.__eq__" s_Date_eq ["self", "other"] := fun _ _ _ _ _ _ us hl => match us, hl with | [_, _], _ => rfl
abbrev s_Date_str : Stmt := inClass (top 15) 2
theorem c_Date_str : FnScope ["self"] ["self"] (defScope s_Date_str) := ⟨rfl, rfl, rfl, by decide +kernel, rfl, by decide +kernel, by decide +kernel⟩
theorem b_Date_str : Bd "__str__" "Date.__str__" s_Date_str ["self"] := fun _ _ _ _ _ _ us hl => match us, hl with | [_], _ => rfl
abbrev s_Date_repr : Stmt := inClass (top 15) 3
theorem c_Date_repr : FnScope ["self"] ["self"] (defScope s_Date_repr) := ⟨rfl, rfl, rfl, by decide +kernel, rfl, by decide +kernel, by decide +kernel⟩
theorem b_Date_repr : Bd "__repr__" "Date.__repr__" s_Date_repr ["self"] := fun _ _ _ _ _ _ us hl => match us, hl with | [_], _ => rfl
abbrev s_two_figures : Stmt := top 16
theorem c_two_figures : FnScope ["number"] ["number"] (defScope s_two_figures) := ⟨rfl, rfl, rfl, by decide +kernel, rfl, by decide +kernel, by decide +kernel⟩
theorem b_two_figures : Bd "two_figures" "two_figures" s_two_figures ["number"] := fun _ _ _ _ _ _ us hl => match us, hl with | [_], _ => rfl
abbrev s_odd_sign : Stmt := top 17
theorem c_odd_sign : FnScope ["odd"] ["odd"] (defScope s_odd_sign) := ⟨rfl, rfl, rfl, by decide +kernel, rfl, by decide +kernel, by decide +kernel⟩
theorem b_odd_sign : Bd "odd_sign" "odd_sign" s_odd_sign ["odd"] := fun _ _ _ _ _ _ us hl => match us, hl with | [_], _ => rfl
abbrev s_number_in : Stmt := top 19
theorem c_number_in : FnScope ["text", "base", "number", "sign"] ["text", "base"] (defScope s_number_in) := ⟨rfl, rfl, rfl, by decide +kernel, rfl, by decide +kernel, by decide +kernel⟩
abbrev s_read_date : Stmt := top 20
theorem c_read_date : FnScope ["text", "rest", "dash", "day", "year", "month", "number", "date"] ["text"] (defScope s_read_date) := ⟨rfl, rfl, rfl, by decide +kernel, rfl, by decide +kernel, by decide +kernel⟩
theorem b_read_date : Bd "read_date" "read_date" s_read_date ["text"] := fun _ _ _ _ _ _ us hl => match us, hl with | [_], _ => rfl
abbrev s_l_draws : Stmt := top 22
theorem c_l_draws : FnScope ["_law_cell", "_law_cut", "_law_k"] ["_law_cell"] (defScope s_l_draws) := ⟨rfl, rfl, rfl, by decide +kernel, rfl, by decide +kernel, by decide +kernel⟩
theorem b_l_draws : Bd "_law_draws" "_law_draws" s_l_draws ["_law_cell"] := fun _ _ _ _ _ _ us hl => match us, hl with | [_], _ => rfl
abbrev s_l_next : Stmt := top 23
theorem c_l_next : FnScope ["_law_draws_here", "_law_k", "_law_number"] ["_law_draws_here"] (defScope s_l_next) := ⟨rfl, rfl, rfl, by decide +kernel, rfl, by decide +kernel, by decide +kernel⟩
theorem b_l_next : Bd "_law_next" "_law_next" s_l_next ["_law_draws_here"] := fun _ _ _ _ _ _ us hl => match us, hl with | [_], _ => rfl
abbrev s_l_whole : Stmt := top 24
theorem c_l_whole : FnScope ["_law_told"] ["_law_told"] (defScope s_l_whole) := ⟨rfl, rfl, rfl, by decide +kernel, rfl, by decide +kernel, by decide +kernel⟩
theorem b_l_whole : Bd "_law_whole" "_law_whole" s_l_whole ["_law_told"] := fun _ _ _ _ _ _ us hl => match us, hl with | [_], _ => rfl
abbrev s_l_kinds : Stmt := top 25
theorem c_l_kinds : FnScope ["_law_kept", "_law_told"] ["_law_kept"] (defScope s_l_kinds) := ⟨rfl, rfl, rfl, by decide +kernel, rfl, by decide +kernel, by decide +kernel⟩
theorem b_l_kinds : Bd "_law_kinds" "_law_kinds" s_l_kinds ["_law_kept"] := fun _ _ _ _ _ _ us hl => match us, hl with | [_], _ => rfl
abbrev s_l_value : Stmt := top 26
theorem c_l_value : FnScope ["_law_a_text", "_law_rest", "_law_sign"] ["_law_a_text"] (defScope s_l_value) := ⟨rfl, rfl, rfl, by decide +kernel, rfl, by decide +kernel, by decide +kernel⟩
theorem b_l_value : Bd "_law_value" "_law_value" s_l_value ["_law_a_text"] := fun _ _ _ _ _ _ us hl => match us, hl with | [_], _ => rfl
abbrev s_l_bent : Stmt := top 27
theorem c_l_bent : FnScope ["_law_draws_here", "_law_a_text", "_law_signs", "_law_pick", "_law_some", "_law_sign", "_law_at", "_law_way"] ["_law_draws_here", "_law_a_text", "_law_signs"] (defScope s_l_bent) := ⟨rfl, rfl, rfl, by decide +kernel, rfl, by decide +kernel, by decide +kernel⟩
theorem b_l_bent : Bd "_law_bent" "_law_bent" s_l_bent ["_law_draws_here", "_law_a_text", "_law_signs"] := fun _ _ _ _ _ _ us hl => match us, hl with | [_, _, _], _ => rfl
abbrev s_l_text : Stmt := top 28
theorem c_l_text : FnScope ["_law_fields_here", "_law_year", "_law_number", "_law_day", "_law_a_odd", "_law_words"] ["_law_fields_here"] (defScope s_l_text) := ⟨rfl, rfl, rfl, by decide +kernel, rfl, by decide +kernel, by decide +kernel⟩
theorem b_l_text : Bd "_law_text" "_law_text" s_l_text ["_law_fields_here"] := fun _ _ _ _ _ _ us hl => match us, hl with | [_], _ => rfl
abbrev s_l_fields : Stmt := top 29
theorem c_l_fields : FnScope ["_law_draws_here", "_law_pick", "_law_year", "_law_number", "_law_day"] ["_law_draws_here"] (defScope s_l_fields) := ⟨rfl, rfl, rfl, by decide +kernel, rfl, by decide +kernel, by decide +kernel⟩
theorem b_l_fields : Bd "_law_fields" "_law_fields" s_l_fields ["_law_draws_here"] := fun _ _ _ _ _ _ us hl => match us, hl with | [_], _ => rfl
abbrev s_l_written : Stmt := top 30
theorem c_l_written : FnScope ["_law_draws_here", "_law_fields_here", "_law_pick", "_law_a_text", "_law_some"] ["_law_draws_here", "_law_fields_here"] (defScope s_l_written) := ⟨rfl, rfl, rfl, by decide +kernel, rfl, by decide +kernel, by decide +kernel⟩
theorem b_l_written : Bd "_law_written" "_law_written" s_l_written ["_law_draws_here", "_law_fields_here"] := fun _ _ _ _ _ _ us hl => match us, hl with | [_, _], _ => rfl
abbrev s_l_two : Stmt := top 31
theorem c_l_two : FnScope ["_law_word", "_law_rest", "_law_number"] ["_law_word"] (defScope s_l_two) := ⟨rfl, rfl, rfl, by decide +kernel, rfl, by decide +kernel, by decide +kernel⟩
theorem b_l_two : Bd "_law_two" "_law_two" s_l_two ["_law_word"] := fun _ _ _ _ _ _ us hl => match us, hl with | [_], _ => rfl
abbrev s_l_due : Stmt := top 32
theorem c_l_due : FnScope ["_law_a_text", "_law_words", "_law_a_odd", "_law_middle", "_law_told"] ["_law_a_text"] (defScope s_l_due) := ⟨rfl, rfl, rfl, by decide +kernel, rfl, by decide +kernel, by decide +kernel⟩
theorem b_l_due : Bd "_law_due" "_law_due" s_l_due ["_law_a_text"] := fun _ _ _ _ _ _ us hl => match us, hl with | [_], _ => rfl
abbrev s_l_asked : Stmt := top 33
theorem c_l_asked : FnScope ["_law_a_text", "_law_way", "_law_kept", "_law_told", "e", "_law_sorts"] ["_law_a_text", "_law_way"] (defScope s_l_asked) := ⟨rfl, rfl, rfl, by decide +kernel, rfl, by decide +kernel, by decide +kernel⟩
theorem b_l_asked : Bd "_law_asked" "_law_asked" s_l_asked ["_law_a_text", "_law_way"] := fun _ _ _ _ _ _ us hl => match us, hl with | [_, _], _ => rfl
abbrev s_l_is_date : Stmt := top 34
theorem c_l_is_date : FnScope ["_law_date", "_law_due_here", "_law_a_text", "_law_words", "_law_others", "_law_one"] ["_law_date", "_law_due_here", "_law_a_text"] (defScope s_l_is_date) := ⟨rfl, rfl, rfl, by decide +kernel, rfl, by decide +kernel, by decide +kernel⟩
theorem b_l_is_date : Bd "_law_is_date" "_law_is_date" s_l_is_date ["_law_date", "_law_due_here", "_law_a_text"] := fun _ _ _ _ _ _ us hl => match us, hl with | [_, _, _], _ => rfl
abbrev s_l_right : Stmt := top 35
theorem c_l_right : FnScope ["_law_draws_here", "_law_k", "_law_a_text", "_law_due_here", "_law_told"] ["_law_draws_here"] (defScope s_l_right) := ⟨rfl, rfl, rfl, by decide +kernel, rfl, by decide +kernel, by decide +kernel⟩
theorem b_l_right : Bd "_law_right" "_law_right" s_l_right ["_law_draws_here"] := fun _ _ _ _ _ _ us hl => match us, hl with | [_], _ => rfl
abbrev s_law : Stmt := top 36
theorem c_law : FnScope ["_law_script", "_law_cell"] ["_law_script"] (defScope s_law) := ⟨rfl, rfl, rfl, by decide +kernel, rfl, by decide +kernel, by decide +kernel⟩
theorem b_law : Bd "law" "law" s_law ["_law_script"] := fun _ _ _ _ _ _ us hl => match us, hl with | [_], _ => rfl
def mu2 (i : Nat) : L2.St → Hp → Nat := fun σ _ => match σ[i]? with
  | some (some (.int b)) => b.natAbs
  | _ => 0
/-! ### the law's draws -/
theorem md {j : Int} (h : 0 < j := by decide) : 0 < j := h
/-- at l stand draws, of which at most n were taken -/
def Dr (H : Hp) (l : Addr) (n : Nat) : Prop := ∃ (d k : Int) (f : Bool), H l = some (.lst [.int d, .int k, .bl f]) ∧ 0 ≤ k ∧ k ≤ n
/-- all but what stands at l is as it was -/
def But (l : Addr) (H H' : Hp) : Prop := ∀ b o, b ≠ l → H b = some o → H' b = some o
theorem But.refl {l : Addr} {H : Hp} : But l H H := fun _ _ _ h => h
theorem But.trans {l : Addr} {H H1 H2 : Hp} (a : But l H H1) (b : But l H1 H2) : But l H H2 := fun c o hc h => b c o hc (a c o hc h)
theorem But.same {l : Addr} {H H1 : Hp} (a : Same H H1) : But l H H1 := fun c o _ h => a c o h
theorem But.upd {l : Addr} {H H1 : Hp} {p : Addr} {o : HO} (a : But l H H1) (h : H1 p = none) : But l H (upd H1 p o) := fun c u hc e => by
  rw [upd_ne (ne_of_none (a c u hc e) h)]
  exact a c u hc e
theorem But.tup {l p : Addr} {H H1 : Hp} {n : Nat} {xs : List V} (a : But l H H1) (d : Dr H l n) (h : H p = some (.tup xs)) : H1 p = some (.tup xs) := by
  obtain ⟨_, _, _, hl, _⟩ := d
  exact a _ _ (ne_of h hl (by intro z; cases z)) h
theorem But.ins {l p C dx : Addr} {H H1 : Hp} {n : Nat} {fs : List (Str × V)} (a : But l H H1) (d : Dr H l n) (h : H p = some (.ins C dx fs)) : H1 p = some (.ins C dx fs) := by
  obtain ⟨_, _, _, hl, _⟩ := d
  exact a _ _ (ne_of h hl (by intro z; cases z)) h
theorem Same.upd {H H1 : Hp} {p : Addr} {o : HO} (a : Same H H1) (h : H1 p = none) : Same H (upd H1 p o) := fun c u e => by
  rw [upd_ne (ne_of_none (a c u e) h)]
  exact a c u e
theorem Same.new {H : Hp} {p : Addr} {o : HO} (h : H p = none) : Same H (L2.upd H p o) := Same.upd (Same.refl H) h
theorem Dr.same {H H1 : Hp} {l : Addr} {n m : Nat} (d : Dr H l n) (s : Same H H1) (h : n ≤ m) : Dr H1 l m := by
  obtain ⟨d, k, f, hl, h1, h2⟩ := d
  exact ⟨d, k, f, s _ _ hl, h1, by omega⟩
theorem Dr.mono {H : Hp} {l : Addr} {n m : Nat} (d : Dr H l n) (h : n ≤ m) : Dr H l m := d.same (Same.refl H) h
theorem Dr.new {H : Hp} {l p : Addr} {n : Nat} {o : HO} (d : Dr H l n) (h : H p = none) : Dr (L2.upd H p o) l n := d.same (Same.new h) (Nat.le_refl _)
def spDraws : Sp := fun vs H Q _ => ∃ c : Int, vs = [.int c] ∧ ∀ p H', H p = none → Same H H' → Dr H' p 0 → Q (.ref p) H'
def spNext : Sp := fun vs H Q _ => ∃ (l : Addr) (n : Nat), vs = [.ref l] ∧ Dr H l n ∧ n ≤ 1000000 ∧ ∀ v H', 0 ≤ v → v < 306783369 → But l H H' → Dr H' l (n + 1) → Q (.int v) H'
section
variable {P : Program} {w : World} {K : PySem.W.Frag} {mg : Str → Option Value} {base : Heap}
theorem ok_draws (D : Df K mg "_law_draws" s_l_draws []) (hra : mg "range" = none) : Ca P w K mg base CX0 1 "_law_draws" s_l_draws [] ["_law_cell"] spDraws := by
  refine ca0 (k := 0) D c_l_draws (fun vs H Q E h => ?_) fun f cdv A outer s H vs Q E hr h => ?_
  · obtain ⟨c, rfl, _⟩ := h
    rfl
  · obtain ⟨c, rfl, q⟩ := h
    refine ⟨_, pss_cons (ps_set (i := 1) c_l_draws.nd rfl (.inl rfl) (pe_op op_pow pe_int pe_int))
      (pss_cons (ps_for PassesOwn.never rfl (pi_range1 rfl hra (pa_cons pe_int pa_nil)) (pg_name (i := 2) c_l_draws.nd rfl (.inl rfl)) (pss_one (ps_set (i := 1) c_l_draws.nd rfl (.inl rfl) (pe_op op_mulA (pv 1) (pv 1)))))
      (pss_one (ps_ret (pe_lst (pa_cons (pe_op op_mod (pv 0) (pv 1)) (pa_cons pe_int (pa_cons (pe_cmpR op_ge (pv 0) (pe_op op_pow pe_int pe_int) (nomark _)) pa_nil))))))), ?_⟩
    refine ⟨_, _, rfl, rfl, ⟨by decide, by decide, by decide⟩, 7, rfl, by decide, by decide, ?_⟩
    refine for_range (n := 7) (fun i σ H' => ∃ (z : Int) (v : Option V), σ = [some (.int c), some (.int z), v] ∧ 0 < z ∧ Sz (200 * 2 ^ i) z ∧ H' = H) ⟨_, _, rfl, by decide, (by show (10 ^ 60 : Int).natAbs < 2 ^ (200 * 2 ^ 0); decide), rfl⟩ ?_ ?_
    · rintro i σ H' hi ⟨z, v, rfl, h0, hz, rfl⟩
      have l1 : 2 ^ i ≤ 2 ^ 6 := Nat.pow_le_pow_right (by decide) (by omega)
      have hz' : Sz 100000 z := hz.mono (Nat.le_trans (Nat.mul_le_mul_left 200 l1) (by decide))
      refine ⟨_, rfl, _, rfl, _, _, rfl, rfl, ⟨hz', hz'⟩, ⟨z * z, _, rfl, Int.mul_pos h0 h0, ?_, rfl⟩⟩
      exact (hz.mul hz).mono (by rw [Nat.pow_succ]; omega)
    · rintro σ H' ⟨z, v, rfl, h0, hz, rfl⟩
      refine ⟨_, rfl, _, rfl, _, _, rfl, rfl, h0, _, rfl, _, _, rfl, rfl, ⟨by decide, by decide, by decide⟩, _, _, rfl, rfl, (by show 3 ≤ sizeLine; decide), fun p hp => ?_⟩
      exact q p _ hp (Same.new hp) ⟨_, _, _, upd_same, by decide, by decide⟩
end
section
variable {P : Program} {w : World} {K : PySem.W.Frag} {mg : Str → Option Value} {base : Heap}
theorem ok_next (D : Df K mg "_law_next" s_l_next []) : Ca P w K mg base CX0 1 "_law_next" s_l_next [] ["_law_draws_here"] spNext := by
  refine ca0 (k := 0) D c_l_next (fun vs H Q E h => ?_) fun f cdv A outer s H vs Q E hr h => ?_
  · obtain ⟨l, n, rfl, _⟩ := h
    rfl
  · obtain ⟨l, n, rfl, ⟨d, k, fl, hl, k0, k1⟩, hn, q⟩ := h
    refine ⟨_, pss_cons (ps_asg (pe_op op_add (pe_ix ix_list (pv 0) pe_int (fun _ _ => rfl)) pe_int) (pg_sub (pv 0) pe_int set_list))
      (pss_cons (ps_set (i := 1) c_l_next.nd rfl (.inl rfl) (pe_ix ix_list (pv 0) pe_int (fun _ _ => rfl)))
      (pss_cons (ps_if (pt_val (pe_ix ix_list (pv 0) pe_int (fun _ _ => rfl)))
        (pss_cons (ps_set (i := 2) c_l_next.nd rfl (.inl rfl) (pe_op op_mod (pe_ix ix_list (pv 0) pe_int (fun _ _ => rfl)) (pe_op op_pow pe_int pe_int)))
        (pss_cons (ps_asg (pe_op op_fdiv (pe_ix ix_list (pv 0) pe_int (fun _ _ => rfl)) (pe_op op_pow pe_int pe_int)) (pg_sub (pv 0) pe_int set_list))
        (pss_one (ps_ret (pv 2))))) pss_nil)
      (pss_cons (ps_set (i := 2) c_l_next.nd rfl (.inl rfl) (pe_op op_mod (pe_op op_mul (pe_op op_add (pe_op op_add (pe_op op_mod (pe_ix ix_list (pv 0) pe_int (fun _ _ => rfl)) pe_int) (pe_op op_mul (pe_op op_mul (pv 1) (pv 1)) pe_int)) (pv 1)) pe_int) pe_int))
      (pss_cons (ps_set (i := 2) c_l_next.nd rfl (.inl rfl) (pe_op op_mod (pe_op op_mul (pv 2) (pv 2)) pe_int))
      (pss_one (ps_ret (pe_op op_fdiv (pe_op op_mod (pe_op op_mul (pv 2) (pe_op op_add (pv 2) pe_int)) pe_int) pe_int))))))), ?_⟩
    refine ⟨_, rfl, l, _, _, _, rfl, rfl, SqL.of hl, rfl, _, _, rfl, rfl, _, rfl, l, _, _, _, rfl, rfl, hl, rfl, ?_⟩
    refine ⟨_, rfl, l, _, _, _, rfl, rfl, SqL.of upd_same, rfl, ?_⟩
    refine ⟨_, rfl, l, _, _, _, rfl, rfl, SqL.of upd_same, rfl, _, rfl, ?_⟩
    cases fl with
    | true =>
      refine iteT ?_
      refine ⟨_, rfl, l, _, _, _, rfl, rfl, SqL.of upd_same, rfl, _, _, rfl, rfl, ⟨by decide, by decide, by decide⟩, _, _, rfl, rfl, md, ?_⟩
      refine ⟨_, rfl, l, _, _, _, rfl, rfl, SqL.of upd_same, rfl, _, _, rfl, rfl, ⟨by decide, by decide, by decide⟩, _, _, rfl, rfl, ⟨by decide, by decide⟩, _, rfl, l, _, _, _, rfl, rfl, upd_same, rfl, ?_⟩
      refine ⟨_, rfl, ?_⟩
      have h1 := Int.emod_nonneg d (show (1000000 : Int) ≠ 0 by decide)
      have h2 := Int.emod_lt_of_pos d (show (0 : Int) < 1000000 by decide)
      refine q (d % 1000000) _ h1 (by omega) (fun b o hb e => ?_) ⟨_, _, _, upd_same, by omega, by omega⟩
      rw [upd_ne hb, upd_ne hb]
      exact e
    | false =>
      refine iteF ?_
      have g1 := Int.emod_nonneg ((d % 1000003 + (k + 1) * (k + 1) * 7919 + (k + 1)) * 48271) (show (2147483629 : Int) ≠ 0 by decide)
      have g2 := Int.emod_lt_of_pos ((d % 1000003 + (k + 1) * (k + 1) * 7919 + (k + 1)) * 48271) (show (0 : Int) < 2147483629 by decide)
      refine ⟨_, rfl, l, _, _, _, rfl, rfl, SqL.of upd_same, rfl, _, _, rfl, rfl, md, _, rfl, _, rfl, _, _, rfl, rfl, .inl ⟨by omega, by omega⟩, _, _, rfl, rfl, .inr ⟨by decide, by decide⟩, _, _, rfl, rfl, _, rfl, _, _, rfl, rfl, _, _, rfl, rfl, .inr ⟨by decide, by decide⟩, _, _, rfl, rfl, md, ?_⟩
      refine ⟨_, rfl, _, rfl, _, _, rfl, rfl, .inl ⟨Int.lt_of_lt_of_le (by decide) g1, Int.lt_trans g2 (by decide)⟩, _, _, rfl, rfl, md, ?_⟩
      generalize hz : ((d % 1000003 + (k + 1) * (k + 1) * 7919 + (k + 1)) * 48271 % 2147483629) * ((d % 1000003 + (k + 1) * (k + 1) * 7919 + (k + 1)) * 48271 % 2147483629) = z
      have i1 := Int.emod_nonneg z (show (2147483587 : Int) ≠ 0 by decide)
      have i2 := Int.emod_lt_of_pos z (show (0 : Int) < 2147483587 by decide)
      refine ⟨_, rfl, _, rfl, _, _, rfl, rfl, _, _, rfl, rfl, .inl ⟨Int.lt_of_lt_of_le (by decide) i1, Int.lt_trans i2 (by decide)⟩, _, _, rfl, rfl, md, _, _, rfl, rfl, ⟨by decide, by decide⟩, ?_⟩
      have j1 := Int.emod_nonneg (z % 2147483587 * (z % 2147483587 + 2)) (show (2147483579 : Int) ≠ 0 by decide)
      have j2 := Int.emod_lt_of_pos (z % 2147483587 * (z % 2147483587 + 2)) (show (0 : Int) < 2147483579 by decide)
      refine q (z % 2147483587 * (z % 2147483587 + 2) % 2147483579 / 7) _ (by omega) (by omega) (fun b o hb e => ?_) ⟨_, _, _, upd_same, by omega, by omega⟩
      rw [upd_ne hb]
      exact e
end
/-! ### the __init__ of own errors -/
/-- a def of a class that is an exception's -/
structure Dx (K : PySem.W.Frag) (C : Addr) (qual : Str) (st : Stmt) : Prop where
  ex : ∃ (f : Addr) (fd : FuncData), FunD K "__init__" qual (defArgs st) (defBody st) (defScope st) [] [] f fd ∧ PySem.W.findIn K (.ref C) "__init__" = some (some (.ref f)) ∧ PySem.W.typeIn K (.ref f) = some (.type "function")
structure Cx1 (P : Program) (w : World) (K : PySem.W.Frag) (mg : Str → Option Value) (base : Heap) (k : Nat) (C : Addr) (qual : Str) (st : Stmt) (ps : List Str) (sp : Sp) : Prop where
  ex : ∃ (f : Addr) (fd : FuncData), FunD K "__init__" qual (defArgs st) (defBody st) (defScope st) [] [] f fd ∧ PySem.W.findIn K (.ref C) "__init__" = some (some (.ref f)) ∧ PySem.W.typeIn K (.ref f) = some (.type "function") ∧ FnOk P w K mg base CX0 k f fd ps sp
theorem str_app_len (a b : Str) : (a ++ b).length = a.length + b.length := by
  show (a.cps ++ b.cps).size = a.cps.size + b.cps.size
  exact Array.size_append
/-! ### figures of numbers -/
def spNum : Sp := fun vs H Q _ => ∃ (i : Int) (b : Nat), vs = [.int i, .int (b : Int)] ∧ 2 ≤ b ∧ b ≤ 16 ∧ Sz 400 i ∧ ∀ H', Same H H' → Q (.str (numT b i)) H'
theorem numT_len {b : Nat} {i : Int} (hb : 2 ≤ b) (h : Sz 400 i) : (numT b i).length ≤ 401 := by
  have h1 := lsd_len hb 400 i.natAbs h (by decide)
  unfold numT
  split
  · rw [dash_txt_len, List.length_reverse]
    omega
  · rw [txt_len, List.length_reverse]
    omega
theorem abs_nat (i : Int) : (if i < 0 then -i else i) = ((i.natAbs : Nat) : Int) := by
  split <;> omega
theorem sum_one : ∀ ds : List Nat, ((ds.map sg).map (·.length)).sum = ds.length
  | [] => rfl
  | d :: ds => by
    rw [List.map_cons, List.map_cons, List.sum_cons, sum_one ds, List.length_cons]
    show 1 + _ = _
    omega
theorem len_sg {ds : List Nat} (h : ds.length ≤ 400) : ((ds.map sg).reverse.map (·.length)).sum + (ds.map sg).reverse.length * ("" : Str).length ≤ 16777216 := by
  have e : ("" : Str).length = 0 := by decide +kernel
  rw [e, Nat.mul_zero, ← List.map_reverse, sum_one, List.length_reverse]
  omega
theorem len_dash {ds : List Nat} (h : ds.length ≤ 400) : ((ds.map sg ++ [("-" : Str)]).reverse.map (·.length)).sum + (ds.map sg ++ [("-" : Str)]).reverse.length * ("" : Str).length ≤ 16777216 := by
  have e : ("" : Str).length = 0 := by decide +kernel
  rw [e, Nat.mul_zero, List.reverse_append, List.map_append, List.sum_append, ← List.map_reverse, sum_one, List.length_reverse]
  have e2 : (List.map (fun x : Str => x.length) [("-" : Str)].reverse).sum = 1 := by decide +kernel
  rw [e2]
  omega
theorem szb {b n : Nat} (h : b ≤ 16) (hn : 5 ≤ n) : Sz n ((b : Nat) : Int) := Nat.lt_of_lt_of_le (show ((b : Nat) : Int).natAbs < 2 ^ 5 by omega) (Nat.pow_le_pow_right (by decide) hn)
section
variable {P : Program} {w : World} {K : PySem.W.Frag} {mg : Str → Option Value} {base : Heap}
theorem ok_num (D : Df K mg "numeral" s_numeral [.int 10]) {tk : Tok} (h_FIGURES : mg "FIGURES" = some (.str FIG tk)) (g_abs : mg "abs" = none) (g_reversed : mg "reversed" = none) : Ca P w K mg base CX0 1 "numeral" s_numeral [.int 10] ["number", "base"] spNum := by
  refine ca0 (k := 0) D c_numeral (fun vs H Q E h => ?_) fun f cdv A outer s H vs Q E hr h => ?_
  · obtain ⟨i, b, rfl, _⟩ := h
    rfl
  · obtain ⟨i, b, rfl, h2, h16, zi, q⟩ := h
    refine ⟨_, (pss_cons (ps_set (i := 2) c_numeral.nd rfl (.inl rfl) (pe_callB call_abs rfl g_abs (by decide +kernel) (pa_cons (pv 0) pa_nil)))
      (pss_cons (ps_set (i := 3) c_numeral.nd rfl (.inl rfl) (pe_lst (pa_cons (pe_ix ix_str (pe_glob (v := .str FIG) rfl h_FIGURES ⟨_, rfl⟩) (pe_op op_mod (pv 2) (pv 1)) (fun _ _ => rfl)) pa_nil)))
      (pss_cons (ps_while PassesOwn.never (pt_cmpR op_ge (pv 2) (pv 1) (nomark _)) (pss_cons (ps_set (i := 2) c_numeral.nd rfl (.inl rfl) (pe_op op_fdivA (pv 2) (pv 1)))
      (pss_one (ps_expr (pe_bm PySem.F.plainAttrs_list PySem.F.slot_list_append PySem.F.type_list_append mt_append (pv 3) (pa_cons (pe_ix ix_str (pe_glob (v := .str FIG) rfl h_FIGURES ⟨_, rfl⟩) (pe_op op_mod (pv 2) (pv 1)) (fun _ _ => rfl)) pa_nil))))))
      (pss_cons (ps_if (pt_cmpR op_lt (pv 0) pe_int (nomark _)) (pss_one (ps_expr (pe_bm PySem.F.plainAttrs_list PySem.F.slot_list_append PySem.F.type_list_append mt_append (pv 3) (pa_cons pe_str pa_nil)))) pss_nil)
      (pss_one (ps_ret (pe_joinRev rfl pe_str rfl g_reversed (pv 3)))))))), ?_⟩
    have hl := lsd_len h2 400 i.natAbs zi (by decide)
    have hb0 : (0 : Int) < (b : Int) := by omega
    have md' : ∀ r : Nat, ((r : Nat) : Int) % (b : Int) = ((r % b : Nat) : Int) := fun r => (Int.natCast_emod r b).symm
    have dv' : ∀ r : Nat, ((r : Nat) : Int).fdiv (b : Int) = ((r / b : Nat) : Int) := fun r => by
      rw [Int.fdiv_eq_ediv_of_nonneg _ (by omega)]
      exact (Int.natCast_ediv r b).symm
    have lt16 : ∀ r : Nat, r % b < 16 := fun r => Nat.lt_of_lt_of_le (Nat.mod_lt _ (by omega)) h16
    have fa : ∀ r : Nat, atI FIG.cps.toList (((r : Nat) : Int) % (b : Int)) = some (dg (r % b)) := fun r => by
      rw [md']
      exact fig_at (lt16 r)
    have fl : FIG.length ≤ sizeLine := by rw [fig_len]; decide
    refine ⟨_, rfl, i, rfl, ?_⟩
    rw [abs_nat]
    refine ⟨_, rfl, _, rfl, _, _, rfl, rfl, hb0, FIG, _, dg (i.natAbs % b), rfl, rfl, fl, fa _, (by show 1 ≤ sizeLine; decide), fun l nl => ?_⟩
    have e0 : ([V.str ⟨#[dg (i.natAbs % b)]⟩] : List V) = ((([] : List Nat) ++ [i.natAbs % b]).map sg).map V.str := rfl
    rw [e0]
    refine while_by (fun σ H' => ∃ (pre : List Nat) (r : Nat), σ = [some (.int i), some (.int (b : Int)), some (.int ((r : Nat) : Int)), some (.ref l)] ∧ pre ++ lsd b r = lsd b i.natAbs ∧ H' = L2.upd H l (.lst (((pre ++ [r % b]).map sg).map V.str))) (mu2 2) ⟨[], i.natAbs, rfl, rfl, rfl⟩ ?_ (fun σ H' R R' hq ⟨v, h1, v2, h12, a, c, h2, h3, k, h4, h5⟩ => ⟨v, h1, v2, h12, a, c, h2, h3, k, h4, hq _ _ h5⟩)
    rintro σ H' ⟨pre, r, rfl, hp, rfl⟩
    refine ⟨_, rfl, _, rfl, _, _, rfl, rfl, _, rfl, ?_⟩
    have plen : (pre ++ [r % b]).length ≤ 400 := by
      have h3 : (pre ++ lsd b r).length ≤ 400 := by rw [hp]; exact hl
      have h4 : 0 < (lsd b r).length := List.length_pos_iff.mpr (lsd_ne b r)
      rw [List.length_append] at h3 ⊢
      simp only [List.length_singleton]
      omega
    by_cases hr' : b ≤ r
    · rw [decide_eq_true (show ((r : Nat) : Int) ≥ (b : Int) by omega)]
      refine iteT ?_
      refine ⟨_, rfl, _, rfl, _, _, rfl, rfl, ⟨by omega, szb h16 (by decide)⟩, ?_⟩
      rw [show (fun i j : Int => V.int (Int.fdiv i j)) ((r : Nat) : Int) (b : Int) = V.int ((r / b : Nat) : Int) from congrArg V.int (dv' r)]
      refine ⟨_, rfl, .inl ⟨rfl, _, SqL.of upd_same⟩, _, rfl, _, rfl, _, _, rfl, rfl, hb0, FIG, _, dg (r / b % b), rfl, rfl, fl, fa _, l, _, _, rfl, rfl, upd_same, ?_, ?_⟩
      · rw [List.length_map, List.length_map]
        exact Nat.lt_of_le_of_lt plen (by decide)
      · refine ⟨⟨pre ++ [r % b], r / b, rfl, ?_, ?_⟩, ?_⟩
        · rw [← hp, lsd_ge h2 hr', List.append_assoc]
          rfl
        · rw [upd_upd]
          congr 1
          rw [List.map_append (l₁ := pre ++ [r % b]), List.map_append (l₁ := (pre ++ [r % b]).map sg)]
          rfl
        · show (((r / b : Nat) : Int)).natAbs < (((r : Nat) : Int)).natAbs
          rw [Int.natAbs_natCast, Int.natAbs_natCast]
          exact Nat.div_lt_self (show 0 < r by omega) (show 1 < b by omega)
    · rw [decide_eq_false (show ¬ ((r : Nat) : Int) ≥ (b : Int) by omega)]
      refine iteF ?_
      have er : pre ++ [r % b] = lsd b i.natAbs := by
        rw [← hp, lsd_lt (by omega), Nat.mod_eq_of_lt (by omega)]
      rw [er]
      refine ⟨_, rfl, _, _, rfl, rfl, _, rfl, ?_⟩
      by_cases hn : i < 0
      · rw [decide_eq_true hn]
        refine iteT ?_
        refine ⟨_, rfl, .inl ⟨rfl, _, SqL.of upd_same⟩, l, _, _, rfl, rfl, upd_same, ?_, ?_⟩
        · rw [List.length_map, List.length_map]
          exact Nat.lt_of_le_of_lt hl (by decide)
        rw [upd_upd]
        have e1 : ((lsd b i.natAbs).map sg).map V.str ++ [V.str ("-" : Str)] = ((lsd b i.natAbs).map sg ++ [("-" : Str)]).map V.str := by
          rw [List.map_append]
          rfl
        rw [e1]
        refine ⟨⟨_, rfl⟩, _, rfl, _, l, _, rfl, rfl, SqL.of upd_same, ?_, ?_⟩
        · exact len_dash hl
        · rw [join_dash]
          have q2 := q _ (Same.new (o := .lst (((lsd b i.natAbs).map sg ++ [("-" : Str)]).map V.str)) nl)
          unfold numT at q2
          rw [if_pos hn] at q2
          exact q2
      · rw [decide_eq_false hn]
        refine iteF ?_
        refine ⟨⟨_, rfl⟩, _, rfl, _, l, _, rfl, rfl, SqL.of upd_same, ?_, ?_⟩
        · exact len_sg hl
        · rw [join_sg]
          have q2 := q _ (Same.new (o := .lst (((lsd b i.natAbs).map sg).map V.str)) nl)
          unfold numT at q2
          rw [if_neg hn] at q2
          exact q2
end
/-! ### NoText -/
abbrev bmV : List Value := [.type "ValueError", .type "Exception", .type "BaseException", .type "object"]
abbrev OxV (K : PySem.W.Frag) (C : Addr) : Prop := OxG K C "ValueError" "ValueError.__new__" "ValueError.__init__" bmV
theorem typ_V : typeOf (.type "ValueError") = pure (.type "type") := by kernel_rfl
structure NtT (K : PySem.W.Frag) (mg : Str → Option Value) (CN : Addr) : Prop where
  ox : OxV K CN
  no : PySem.W.findIn K (.ref CN) "at" = some none
  vV : PySem.W.findCls K (.type "ValueError") (.type "type") "__init__" = some (.val (.builtin "ValueError.__init__"))
  gV : mg "ValueError" = none
  mN : mg "NoText" = some (.ref CN)
def spNt (CN : Addr) : Sp := fun vs H Q _ => ∃ (a : Addr) (x : Str), vs = [.ref a, .str x] ∧ x.length ≤ 1000 ∧ H a = some (exo a CN none) ∧ ∀ dx, H dx = none → dx ≠ a → Q .non (L2.upd (L2.upd H dx (exd dx [("at", .str x)])) a (exo a CN (some dx)))
/-- an error of NoText that tells x -/
def NtE (CN : Addr) (E : XK) (H : Hp) (x : Str) : Prop := ∀ (d : Addr) (H' : Hp), H d = none → Same H H' → H' d = some (.xd [("at", .str x)]) → E (.ref CN) (some d) H'
theorem NtE.same {CN : Addr} {E : XK} {H H1 : Hp} {x : Str} (k : NtE CN E H x) (s : Same H H1) : NtE CN E H1 x := fun d H' nd hs e => k d H' (s.free nd) (s.trans hs) e
section
variable {P : Program} {w : World} {K : PySem.W.Frag} {mg : Str → Option Value} {base : Heap} {CN : Addr}
theorem ok_nt (D : Dx K CN "NoText.__init__" s_NoText_init) (T : NtT K mg CN) : Cx1 P w K mg base 1 CN "NoText.__init__" s_NoText_init ["self", "at"] (spNt CN) := by
  obtain ⟨f, fd, F, h1, h2⟩ := D.ex
  refine ⟨f, fd, F, h1, h2, F.ok c_NoText_init (fun vs H Q E h => ?_) fun cdv A outer s H vs Q E hr h => ?_⟩
  · obtain ⟨a, x, rfl, _⟩ := h
    rfl
  · obtain ⟨a, x, rfl, hx, ha, q⟩ := h
    refine ⟨_, PSs.nox (pss_cons (ps_expr (pe_bini (newId := "ValueError.__new__") (bm := bmV) rfl T.gV (by decide +kernel) typ_V T.vV (pa_cons (pv 0) (pa_cons (pe_joined (.cons pe_str (.cons (pe_fmt (pv 1)) .nil))) pa_nil)))) (pss_one (ps_gst (B := "ValueError") (newId := "ValueError.__new__") (initId := "ValueError.__init__") (bm := bmV) (f := "at") (pv 0) (pv 1)))), ?_⟩
    refine ⟨_, rfl, _, rfl, (by decide), _, rfl, .inl ⟨x, rfl, Nat.le_trans hx (by decide), x, rfl, ?_, a, CN, _, rfl, (by show 1 ≤ 1000; decide), T.ox, ha, ?_⟩⟩
    · rw [str_app_len, str_app_len]
      exact Nat.le_trans (Nat.add_le_add_left hx _) (by decide)
    · exact ⟨_, rfl, _, rfl, a, CN, rfl, T.ox, T.no, .inl ⟨ha, q⟩⟩
/-- raise NoText(x) -/
theorem mk_nt {X : Cx} {e : Expr} {te : TE} {p pos : Pos} (T : NtT X.K X.mg CN) (c : Cx1 X.prog X.w X.K X.mg X.base 1 CN "NoText.__init__" s_NoText_init ["self", "at"] (spNt CN)) (hr : Room 2 X.A) (hg : Gl X "NoText") (ha : PA X [e] (tCons te tNil))
    (he : starEach (e :: []) X.env = (false, eval e X.env) :: starEach [] X.env := by rfl) (hpl : (backTo pos (starEach [] X.env)).any (·.1) = false := by rfl) : PMk X (.Call (.Name "NoText" p) [e] [] pos) (tMkO CN (spNt CN) [] (tCons te tNil)) := by
  obtain ⟨f, fd, F, h1, h2, G⟩ := c.ex
  exact pmk_g T.ox h1 h2 G hr (F.bindsN fun _ _ _ _ _ _ us hl => match us, hl with | [_, _], _ => rfl) .nil pass0 hg T.mN ha (by decide) he hpl
theorem rd_nt {H : Hp} {E : XK} {x : Str} (hx : x.length ≤ 1000) (k : NtE CN E H x) {H1 : Hp} (s : Same H H1) : ([V.str x] : List V).length ≤ 1000 ∧ ∀ a, H1 a = none → spNt CN (.ref a :: ([V.str x] ++ [])) (L2.upd H1 a (exo a CN none))
    (fun v H2 => v = .non ∧ ∃ (d : Addr) (fs : List (Str × V)), H2 a = some (exo a CN (some d)) ∧ H2 d = some (exd d fs) ∧ H1 d = none ∧ E (.ref CN) (some d) (L2.upd (del H2 a) d (.xd fs))) (fun _ _ _ => False) := by
  refine ⟨(by show 1 ≤ 1000; decide), fun a na => ⟨a, x, rfl, hx, upd_same, fun dx nd ne => ⟨rfl, dx, [("at", .str x)], upd_same, ?_, ?_, ?_⟩⟩⟩
  · rw [upd_ne ne, upd_same]
  · rw [upd_ne ne] at nd
    exact nd
  · rw [upd_ne ne] at nd
    refine k dx _ (s.free nd) (fun b o e => ?_) upd_same
    have e1 := s b o e
    rw [upd_ne (ne_of_none e1 nd), del_ne (ne_of_none e1 na), upd_ne (ne_of_none e1 na), upd_ne (ne_of_none e1 nd), upd_ne (ne_of_none e1 na)]
    exact e1
end
theorem kit_self {K : PySem.W.Frag} {C : Addr} : PySem.W.kitOne K (.ref C) (.ref C) = some true := by
  unfold PySem.W.kitOne
  rw [if_pos (by simp)]
/-! ### Date -/
def dfs (y n d o : V) : List (Str × V) := putF "odd" o (putF "day" d (putF "number" n (putF "year" y [])))
theorem dyn_ : ¬ (("year" : Str) = "number") := by decide +kernel
theorem dyd_ : ¬ (("year" : Str) = "day") := by decide +kernel
theorem dyo_ : ¬ (("year" : Str) = "odd") := by decide +kernel
theorem dnd_ : ¬ (("number" : Str) = "day") := by decide +kernel
theorem dno_ : ¬ (("number" : Str) = "odd") := by decide +kernel
theorem ddo_ : ¬ (("day" : Str) = "odd") := by decide +kernel
theorem df_year (y n d o : V) : (dfs y n d o).lookup ("year" : Str) = some y := by
  unfold dfs
  rw [lookup_putF, if_neg dyo_, lookup_putF, if_neg dyd_, lookup_putF, if_neg dyn_, lookup_putF, if_pos rfl]
theorem df_number (y n d o : V) : (dfs y n d o).lookup ("number" : Str) = some n := by
  unfold dfs
  rw [lookup_putF, if_neg dno_, lookup_putF, if_neg dnd_, lookup_putF, if_pos rfl]
theorem df_day (y n d o : V) : (dfs y n d o).lookup ("day" : Str) = some d := by
  unfold dfs
  rw [lookup_putF, if_neg ddo_, lookup_putF, if_pos rfl]
theorem df_odd (y n d o : V) : (dfs y n d o).lookup ("odd" : Str) = some o := by
  unfold dfs
  rw [lookup_putF, if_pos rfl]
/-- what the top says of the class -/
structure DaT (K : PySem.W.Frag) (Cd : Addr) : Prop where
  cl : Cls K Cd
  n1 : NoAttr K Cd "year"
  n2 : NoAttr K Cd "number"
  n3 : NoAttr K Cd "day"
  n4 : NoAttr K Cd "odd"
  ty : ∀ (H : Hp) (a dx : Addr) (fs : List (Str × V)), H a = some (.ins Cd dx fs) → TyX K H (.ref a) (.ref Cd)
/-- at p a Date -/
def Da (Cd : Addr) (H : Hp) (p : Addr) (y n d : Int) (o : Bool) : Prop := ∃ dx, H p = some (.ins Cd dx (dfs (.int y) (.int n) (.int d) (.bl o)))
theorem Da.same {Cd p : Addr} {H H1 : Hp} {y n d : Int} {o : Bool} (h : Da Cd H p y n d o) (s : Same H H1) : Da Cd H1 p y n d o := by
  obtain ⟨dx, e⟩ := h
  exact ⟨dx, s _ _ e⟩
def spDaI (Cd : Addr) : Sp := fun vs H Q _ => ∃ (p dx : Addr) (y n d o : V), vs = [.ref p, y, n, d, o] ∧ H p = some (.ins Cd dx []) ∧ Q .non (L2.upd H p (.ins Cd dx (dfs y n d o)))
def spDaE (Cd : Addr) : Sp := fun vs H Q _ => ∃ (p r : Addr) (y n d y' n' d' : Int) (o o' : Bool), vs = [.ref p, .ref r] ∧ Da Cd H p y n d o ∧ Da Cd H r y' n' d' o' ∧ Q (.bl (decide (y = y') && (decide (n = n') && (decide (d = d') && decide (o = o'))))) H
theorem dec_int (a b : Int) : decide (V.int a = V.int b) = decide (a = b) := by
  by_cases h : a = b
  · rw [decide_eq_true h, decide_eq_true (congrArg V.int h)]
  · rw [decide_eq_false h, decide_eq_false (fun z => h (V.int.inj z))]
theorem dec_bl (a b : Bool) : decide (V.bl a = V.bl b) = decide (a = b) := by
  by_cases h : a = b
  · rw [decide_eq_true h, decide_eq_true (congrArg V.bl h)]
  · rw [decide_eq_false h, decide_eq_false (fun z => h (V.bl.inj z))]
section
variable {P : Program} {w : World} {K : PySem.W.Frag} {mg : Str → Option Value} {base : Heap} {Cd : Addr}
theorem ok_daI (D : Di K mg "Date" Cd "Date.__init__" s_Date_init [.bl false]) (T : DaT K Cd) : Ci P w K mg base CX0 1 "Date" Cd "Date.__init__" s_Date_init [.bl false] ["self", "year", "number", "day", "odd"] (spDaI Cd) := by
  refine ci0 (k := 0) D c_Date_init (fun vs H Q E h => ?_) fun f cdv A outer s H vs Q E hr h => ?_
  · obtain ⟨p, dx, y, n, d, o, rfl, _⟩ := h
    rfl
  · obtain ⟨p, dx, y, n, d, o, rfl, hp, q⟩ := h
    refine ⟨_, (pss_cons (ps_fld (pv 0) (pv 1) rfl)
      (pss_cons (ps_fld (pv 0) (pv 2) rfl)
      (pss_cons (ps_fld (pv 0) (pv 3) rfl)
      (pss_one (ps_fld (pv 0) (pv 4) rfl))))), ?_⟩
    refine ⟨_, rfl, _, rfl, p, Cd, dx, _, rfl, hp, T.cl, T.n1, (by show 0 < 1000; decide), ?_⟩
    refine ⟨_, rfl, _, rfl, p, Cd, dx, _, rfl, upd_same, T.cl, T.n2, (by show 1 < 1000; decide), ?_⟩
    refine ⟨_, rfl, _, rfl, p, Cd, dx, _, rfl, upd_same, T.cl, T.n3, (by show 2 < 1000; decide), ?_⟩
    refine ⟨_, rfl, _, rfl, p, Cd, dx, _, rfl, upd_same, T.cl, T.n4, (by show 3 < 1000; decide), ?_⟩
    rw [upd_upd, upd_upd, upd_upd]
    exact q
theorem bd_Date4 : Bd1 "__init__" "Date.__init__" s_Date_init ["self", "year", "number", "day", "odd"] 5 1 1 := fun _ _ _ _ _ _ _ us its hu hi => match us, hu, its, hi with | [_, _, _, _, _], _, [_], _ => ⟨_, rfl, rfl⟩
theorem ok_daE (D : Dm K Cd "__eq__" "Date.__eq__" s_Date_eq) (T : DaT K Cd) (g_isinstance : mg "isinstance" = none) (h_Date : mg "Date" = some (.ref Cd)) : Cm P w K mg base CX0 1 Cd "__eq__" "Date.__eq__" s_Date_eq ["self", "other"] (spDaE Cd) := by
  refine cm0 (k := 0) D c_Date_eq (fun vs H Q E h => ?_) fun f cdv A outer s H vs Q E hr h => ?_
  · obtain ⟨p, r, y, n, d, y', n', d', o, o', rfl, _⟩ := h
    rfl
  · obtain ⟨p, r, y, n, d, y', n', d', o, o', rfl, ⟨dx, hp⟩, ⟨dx', hr'⟩, q⟩ := h
    refine ⟨_, (pss_one (ps_ret (pe_and (pe_callB call_isi rfl g_isinstance (by decide +kernel) (pa_cons (pv 1) (pa_cons (pe_glob (v := .ref Cd) rfl h_Date rfl) pa_nil))) (pe_and (pe_cmpR op_eq (pe_fld (pv 0) rfl) (pe_fld (pv 1) rfl) (nomark _)) (pe_and (pe_cmpR op_eq (pe_fld (pv 0) rfl) (pe_fld (pv 1) rfl) (nomark _)) (pe_and (pe_cmpR op_eq (pe_fld (pv 0) rfl) (pe_fld (pv 1) rfl) (nomark _)) (pe_one (pe_cmpR op_eq (pe_fld (pv 0) rfl) (pe_fld (pv 1) rfl) (nomark _))))))))), ?_⟩
    refine ⟨_, rfl, _, _, _, _, _, rfl, .own Cd, T.ty _ _ _ _ hr', kit_self, _, rfl, iteT ?_⟩
    refine ⟨_, rfl, p, Cd, dx, _, _, rfl, hp, T.cl, T.n1, df_year _ _ _ _, _, rfl, r, Cd, dx', _, _, rfl, hr', T.cl, T.n1, df_year _ _ _ _, rfl, _, rfl, ?_⟩
    rw [dec_int]
    by_cases h1 : y = y'
    · rw [decide_eq_true h1] at q ⊢
      refine iteT ?_
      refine ⟨_, rfl, p, Cd, dx, _, _, rfl, hp, T.cl, T.n2, df_number _ _ _ _, _, rfl, r, Cd, dx', _, _, rfl, hr', T.cl, T.n2, df_number _ _ _ _, rfl, _, rfl, ?_⟩
      rw [dec_int]
      by_cases h2 : n = n'
      · rw [decide_eq_true h2] at q ⊢
        refine iteT ?_
        refine ⟨_, rfl, p, Cd, dx, _, _, rfl, hp, T.cl, T.n3, df_day _ _ _ _, _, rfl, r, Cd, dx', _, _, rfl, hr', T.cl, T.n3, df_day _ _ _ _, rfl, _, rfl, ?_⟩
        rw [dec_int]
        by_cases h3 : d = d'
        · rw [decide_eq_true h3] at q ⊢
          refine iteT ?_
          refine ⟨_, rfl, p, Cd, dx, _, _, rfl, hp, T.cl, T.n4, df_odd _ _ _ _, _, rfl, r, Cd, dx', _, _, rfl, hr', T.cl, T.n4, df_odd _ _ _ _, rfl, ?_⟩
          rw [dec_bl]
          exact q
        · rw [decide_eq_false h3] at q ⊢
          exact iteF q
      · rw [decide_eq_false h2] at q ⊢
        exact iteF q
    · rw [decide_eq_false h1] at q ⊢
      exact iteF q
end
/-- a new Date, read as its maker's caller wants it -/
theorem made_da {Cd : Addr} {H : Hp} {R : Addr → Hp → Prop} {E : XK} {y n d o : V} (h : ∀ p dx H', H p = none → Same H H' → H' p = some (.ins Cd dx (dfs y n d o)) → R p H') :
    ∀ x dx, H x = none → H dx = none → dx ≠ x → spDaI Cd [.ref x, y, n, d, o] (L2.upd (L2.upd H dx (.own x)) x (.ins Cd dx [])) (fun v H2 => v = .non ∧ R x H2) E := by
  intro x dx hx hd ne
  refine ⟨x, dx, y, n, d, o, rfl, upd_same, rfl, ?_⟩
  rw [upd_upd]
  refine h x dx _ hx (Same.upd (Same.new hd) ?_) upd_same
  rw [upd_ne ne.symm]
  exact hx
/-! ### numbers out of any text -/
theorem bd_numeral1 : Bd1 "numeral" "numeral" s_numeral ["number", "base"] 1 0 1 := fun _ _ _ _ _ _ _ us its hu hi => match us, hu, its, hi with | [_], _, [_], _ => ⟨_, rfl, rfl⟩
theorem bd_numeral2 : Bd1 "numeral" "numeral" s_numeral ["number", "base"] 2 1 1 := fun _ _ _ _ _ _ _ us its hu hi => match us, hu, its, hi with | [_, _], _, [_], _ => ⟨_, rfl, rfl⟩
theorem bd_number_in1 : Bd1 "number_in" "number_in" s_number_in ["text", "base"] 1 0 1 := fun _ _ _ _ _ _ _ us its hu hi => match us, hu, its, hi with | [_], _, [_], _ => ⟨_, rfl, rfl⟩
theorem bd_number_in2 : Bd1 "number_in" "number_in" s_number_in ["text", "base"] 2 1 1 := fun _ _ _ _ _ _ _ us its hu hi => match us, hu, its, hi with | [_, _], _, [_], _ => ⟨_, rfl, rfl⟩
def spNinG : Sp := fun vs H Q _ => ∃ (t : Str) (b : Nat), vs = [.str t, .int (b : Int)] ∧ 2 ≤ b ∧ b ≤ 16 ∧ t.length ≤ 98 ∧ Q (.int (nin (b : Int) t)) H
section
variable {P : Program} {w : World} {K : PySem.W.Frag} {mg : Str → Option Value} {base : Heap}
theorem ok_ninG (D : Df K mg "number_in" s_number_in [.int 10]) {tk : Tok} (h_FIGURES : mg "FIGURES" = some (.str FIG tk)) : Ca P w K mg base CX0 1 "number_in" s_number_in [.int 10] ["text", "base"] spNinG := by
  refine ca0 (k := 0) D c_number_in (fun vs H Q E h => ?_) fun f cdv A outer s H vs Q E hr h => ?_
  · obtain ⟨t, b, rfl, _⟩ := h
    rfl
  · obtain ⟨t, b, rfl, h2, h16, hl, q⟩ := h
    refine ⟨_, (pss_cons (ps_set (i := 2) c_number_in.nd rfl (.inl rfl) pe_int)
      (pss_cons (ps_for PassesOwn.never rfl (pi_str (pe_m1 PySem.F.slot_str_removeprefix PySem.F.type_str_removeprefix mt_removeprefix (pv 0) pe_str)) (pg_name (i := 3) c_number_in.nd rfl (.inl rfl)) (pss_one (ps_set (i := 2) c_number_in.nd rfl (.inl rfl) (pe_op op_add (pe_op op_mulA (pv 2) (pv 1)) (pe_m1 PySem.F.slot_str_find PySem.F.type_str_find mt_find (pe_glob (v := .str FIG) rfl h_FIGURES ⟨_, rfl⟩) (pv 3))))))
      (pss_one (ps_ret (pe_ifExp (pt_val (pe_m1 PySem.F.slot_str_startswith PySem.F.type_str_startswith mt_startswith (pv 0) pe_str)) (pe_un un_neg (pv 2)) (pv 2)))))), ?_⟩
    have ll : t.length ≤ sizeLine := Nat.le_trans hl (by decide)
    refine ⟨_, rfl, ⟨_, rfl⟩, t, _, rfl, rfl, ll, _, rfl, ?_⟩
    have rp := rp_gen t
    have hcl := unm_len t.cps.toList
    rw [← len_cps] at hcl
    generalize hz : Txt.removeprefix t ("-" : Str) = z at *
    have hzs : z.cps.size = (unm t.cps.toList).length := by rw [← rp]; simp
    refine for_it (walk_str (z := z)) (fun j σ H' => ∃ v3 : Option V, σ = [some (.str t), some (.int (b : Int)), some (.int (ninL (b : Int) ((unm t.cps.toList).take j))), v3] ∧ H' = H) ⟨_, rfl, rfl⟩ (fun _ _ _ _ _ => trivial) ?_ ?_
    · rintro j x σ H' H2 hj ⟨v3, rfl, rfl⟩ ⟨rfl, c, hc, rfl⟩
      have hj' : j < (unm t.cps.toList).length := by omega
      have ec : c = (unm t.cps.toList)[j] := by
        have e1 : z.cps.toList[j]? = some c := by simpa using hc
        rw [rp, List.getElem?_eq_getElem hj'] at e1
        exact (Option.some.inj e1).symm
      have vz : Sz 399 (ninL (b : Int) ((unm t.cps.toList).take j)) := by
        have h3 := ninL_sz h16 ((unm t.cps.toList).take j)
        have h4 : ((unm t.cps.toList).take j).length ≤ 98 := by rw [List.length_take]; omega
        have h5 : (16 : Nat) ^ (((unm t.cps.toList).take j).length + 1) ≤ 16 ^ 99 := Nat.pow_le_pow_right (by decide) (by omega)
        have h6 : (16 : Nat) ^ 99 = 2 ^ 396 := by decide
        exact Nat.lt_of_lt_of_le (Nat.lt_of_lt_of_le h3 h5) (by rw [h6]; exact Nat.pow_le_pow_right (by decide) (by decide))
      refine ⟨_, rfl, _, rfl, _, _, rfl, rfl, ⟨vz.mono (by decide), szb h16 (by decide)⟩, ⟨_, rfl⟩, _, rfl, FIG, ⟨#[c]⟩, rfl, rfl, _, _, rfl, rfl, ?_⟩
      refine ⟨some (.str ⟨#[c]⟩), ?_, rfl⟩
      show [_, _, some (V.int (ninL (b : Int) ((unm t.cps.toList).take j) * (b : Int) + fv c)), _] = _
      rw [← List.take_append_getElem hj', ninL_app, ec]
    · rintro σ H' ⟨v3, rfl, rfl⟩
      rw [hzs, List.take_length]
      refine ⟨_, rfl, ⟨_, rfl⟩, t, _, rfl, rfl, _, rfl, ?_⟩
      rw [sw_gen]
      unfold nin at q
      cases hD : hasD t.cps.toList with
      | true =>
        rw [hD, if_pos rfl] at q
        exact iteT ⟨_, rfl, _, rfl, q⟩
      | false =>
        rw [hD, if_neg Bool.false_ne_true] at q
        exact iteF ⟨_, rfl, q⟩
end
/-! ### a Date as a text, a Date beside anything -/
def daR (y n d : Int) (o : Bool) : Str := ((((((((Str.empty ++ ("Date(" : Str)) ++ numT 10 y) ++ (", " : Str)) ++ numT 10 n) ++ (", " : Str)) ++ numT 10 d) ++ (", odd=" : Str)) ++ blS o) ++ (")" : Str)
theorem sl_len {a : Str} {n : Nat} (h : a.length ≤ n) (hn : n ≤ 5000 := by decide) : a.length ≤ sizeLine := Nat.le_trans h (Nat.le_trans hn (by decide))
theorem ap_len {a b : Str} {n m : Nat} (ha : a.length ≤ n) (hb : b.length ≤ m) : (a ++ b).length ≤ n + m := by
  rw [str_app_len]
  omega
theorem lit_len {s : Str} {n : Nat} (h : Nat.ble s.length n = true := by decide +kernel) : s.length ≤ n := Nat.le_of_ble_eq_true h
theorem two_len {i : Int} (z : Sz 400 i) : (twoF i).length ≤ 402 := two_len' (numT_len (by decide) z)
theorem odd_len (o : Bool) : (oddS o).length ≤ 1 := by cases o <;> decide +kernel
theorem bls_len (o : Bool) : (blS o).length ≤ 5 := by cases o <;> decide +kernel
def spTwoF : Sp := fun vs H Q _ => ∃ i : Int, vs = [.int i] ∧ Sz 400 i ∧ ∀ H', Same H H' → Q (.str (twoF i)) H'
def spOddS : Sp := fun vs H Q _ => ∃ o : Bool, vs = [.bl o] ∧ Q (.str (oddS o)) H
def spDaS (Cd : Addr) : Sp := fun vs H Q _ => ∃ (p : Addr) (y n d : Int) (o : Bool), vs = [.ref p] ∧ Da Cd H p y n d o ∧ Sz 400 y ∧ Sz 400 n ∧ Sz 400 d ∧ ∀ H', Same H H' → Q (.str (daS y n d o)) H'
def spDaR (Cd : Addr) : Sp := fun vs H Q _ => ∃ (p : Addr) (y n d : Int) (o : Bool), vs = [.ref p] ∧ Da Cd H p y n d o ∧ Sz 400 y ∧ Sz 400 n ∧ Sz 400 d ∧ ∀ H', Same H H' → Q (.str (daR y n d o)) H'
def spDaG (K : PySem.W.Frag) (Cd : Addr) : Sp := fun vs H Q _ => ∃ (p : Addr) (x : V) (y n d : Int) (o : Bool), vs = [.ref p, x] ∧ Da Cd H p y n d o ∧
  ((∃ (r : Addr) (y' n' d' : Int) (o' : Bool), x = .ref r ∧ Da Cd H r y' n' d' o' ∧ Q (.bl (decide (y = y') && (decide (n = n') && (decide (d = d') && decide (o = o'))))) H) ∨ (∃ t, TyX K H x t ∧ PySem.W.kitOne K t (.ref Cd) = some false ∧ Q (.bl false) H))
section
variable {P : Program} {w : World} {K : PySem.W.Frag} {mg : Str → Option Value} {base : Heap} {Cd : Addr}
theorem ok_twoF (D : Df K mg "two_figures" s_two_figures []) (f_numeral : Ca P w K mg base CX0 1 "numeral" s_numeral [.int 10] ["number", "base"] spNum) : Ca P w K mg base CX0 2 "two_figures" s_two_figures [] ["number"] spTwoF := by
  refine ca0 (k := 1) D c_two_figures (fun vs H Q E h => ?_) fun f cdv A outer s H vs Q E hr h => ?_
  · obtain ⟨i, rfl, _⟩ := h
    rfl
  · obtain ⟨i, rfl, z, q⟩ := h
    refine ⟨_, (pss_one (ps_ret (pe_m1 PySem.F.slot_str_zfill PySem.F.type_str_zfill mt_zfill (pe_caD f_numeral bd_numeral1 (by decide) rfl hr (by decide) pass0 rfl (pa_cons (pv 0) pa_nil)) pe_int))), ?_⟩
    exact ⟨_, rfl, i, 10, rfl, by decide, by decide, z, fun H1 s1 => ⟨⟨_, rfl⟩, numT 10 i, 2, rfl, rfl, by decide +kernel, q H1 s1⟩⟩
theorem ok_oddS (D : Df K mg "odd_sign" s_odd_sign []) : Ca P w K mg base CX0 1 "odd_sign" s_odd_sign [] ["odd"] spOddS := by
  refine ca0 (k := 0) D c_odd_sign (fun vs H Q E h => ?_) fun f cdv A outer s H vs Q E hr h => ?_
  · obtain ⟨i, rfl, _⟩ := h
    rfl
  · obtain ⟨o, rfl, q⟩ := h
    refine ⟨_, (pss_one (ps_ret (pe_ifExp (pt_val (pv 0)) pe_str pe_str))), ?_⟩
    refine ⟨_, rfl, _, rfl, ?_⟩
    cases o with
    | true => exact iteT q
    | false => exact iteF q
theorem ok_daS (D : Dm K Cd "__str__" "Date.__str__" s_Date_str) (T : DaT K Cd) (f_numeral : Ca P w K mg base CX0 1 "numeral" s_numeral [.int 10] ["number", "base"] spNum) (f_two_figures : Ca P w K mg base CX0 2 "two_figures" s_two_figures [] ["number"] spTwoF)
    (f_odd_sign : Ca P w K mg base CX0 1 "odd_sign" s_odd_sign [] ["odd"] spOddS) : Cm P w K mg base CX0 3 Cd "__str__" "Date.__str__" s_Date_str ["self"] (spDaS Cd) := by
  refine cm0 (k := 2) D c_Date_str (fun vs H Q E h => ?_) fun f cdv A outer s H vs Q E hr h => ?_
  · obtain ⟨p, y, n, d, o, rfl, _⟩ := h
    rfl
  · obtain ⟨p, y, n, d, o, rfl, ⟨dx, e⟩, zy, zn, zd, q⟩ := h
    refine ⟨_, (pss_one (ps_ret (pe_joined (.cons (pe_fmt (pe_caD f_numeral bd_numeral1 (by decide) rfl hr (by decide) pass0 rfl (pa_cons (pe_fld (pv 0) rfl) pa_nil))) (.cons pe_str (.cons (pe_fmt (pe_ca f_two_figures b_two_figures hr (by decide) pass0 rfl (pa_cons (pe_fld (pv 0) rfl) pa_nil))) (.cons (pe_fmt (pe_ca f_odd_sign b_odd_sign hr (by decide) pass0 rfl (pa_cons (pe_fld (pv 0) rfl) pa_nil))) (.cons pe_str (.cons (pe_fmt (pe_ca f_two_figures b_two_figures hr (by decide) pass0 rfl (pa_cons (pe_fld (pv 0) rfl) pa_nil))) .nil))))))))), ?_⟩
    have l1 : (numT 10 y).length ≤ 401 := numT_len (by decide) zy
    have l2 := two_len zn
    have l3 := odd_len o
    have l4 := two_len zd
    have k0 : Str.empty.length ≤ 0 := lit_len
    have kd : ("-" : Str).length ≤ 1 := lit_len
    have a1 := ap_len k0 l1
    have a2 := ap_len a1 kd
    have a3 := ap_len a2 l2
    have a4 := ap_len a3 l3
    have a5 := ap_len a4 kd
    have a6 := ap_len a5 l4
    refine ⟨_, rfl, p, Cd, dx, _, _, rfl, e, T.cl, T.n1, df_year _ _ _ _, y, 10, rfl, by decide, by decide, zy, fun H1 s1 => .inl ⟨_, rfl, sl_len l1, _, rfl, sl_len a1, ?_⟩⟩
    refine ⟨_, rfl, sl_len a2, ?_⟩
    refine ⟨_, rfl, p, Cd, dx, _, _, rfl, s1 _ _ e, T.cl, T.n2, df_number _ _ _ _, n, rfl, zn, fun H2 s2 => .inl ⟨_, rfl, sl_len l2, _, rfl, sl_len a3, ?_⟩⟩
    refine ⟨_, rfl, p, Cd, dx, _, _, rfl, s2 _ _ (s1 _ _ e), T.cl, T.n4, df_odd _ _ _ _, o, rfl, .inl ⟨_, rfl, sl_len l3, _, rfl, sl_len a4, ?_⟩⟩
    refine ⟨_, rfl, sl_len a5, ?_⟩
    refine ⟨_, rfl, p, Cd, dx, _, _, rfl, s2 _ _ (s1 _ _ e), T.cl, T.n3, df_day _ _ _ _, d, rfl, zd, fun H3 s3 => .inl ⟨_, rfl, sl_len l4, _, rfl, sl_len a6, ?_⟩⟩
    exact q H3 (s1.trans (s2.trans s3))
theorem ok_daR (D : Dm K Cd "__repr__" "Date.__repr__" s_Date_repr) (T : DaT K Cd) (f_numeral : Ca P w K mg base CX0 1 "numeral" s_numeral [.int 10] ["number", "base"] spNum) : Cm P w K mg base CX0 2 Cd "__repr__" "Date.__repr__" s_Date_repr ["self"] (spDaR Cd) := by
  refine cm0 (k := 1) D c_Date_repr (fun vs H Q E h => ?_) fun f cdv A outer s H vs Q E hr h => ?_
  · obtain ⟨p, y, n, d, o, rfl, _⟩ := h
    rfl
  · obtain ⟨p, y, n, d, o, rfl, ⟨dx, e⟩, zy, zn, zd, q⟩ := h
    refine ⟨_, (pss_one (ps_ret (pe_joined (.cons pe_str (.cons (pe_fmt (pe_caD f_numeral bd_numeral1 (by decide) rfl hr (by decide) pass0 rfl (pa_cons (pe_fld (pv 0) rfl) pa_nil))) (.cons pe_str (.cons (pe_fmt (pe_caD f_numeral bd_numeral1 (by decide) rfl hr (by decide) pass0 rfl (pa_cons (pe_fld (pv 0) rfl) pa_nil))) (.cons pe_str (.cons (pe_fmt (pe_caD f_numeral bd_numeral1 (by decide) rfl hr (by decide) pass0 rfl (pa_cons (pe_fld (pv 0) rfl) pa_nil))) (.cons pe_str (.cons (pe_fmtB (pe_fld (pv 0) rfl)) (.cons pe_str .nil)))))))))))), ?_⟩
    have l1 : (numT 10 y).length ≤ 401 := numT_len (by decide) zy
    have l2 : (numT 10 n).length ≤ 401 := numT_len (by decide) zn
    have l3 : (numT 10 d).length ≤ 401 := numT_len (by decide) zd
    have l4 := bls_len o
    have k0 : (Str.empty ++ ("Date(" : Str)).length ≤ 5 := lit_len
    have kc : (", " : Str).length ≤ 2 := lit_len
    have ko : (", odd=" : Str).length ≤ 6 := lit_len
    have kp : (")" : Str).length ≤ 1 := lit_len
    have a1 := ap_len k0 l1
    have a2 := ap_len a1 kc
    have a3 := ap_len a2 l2
    have a4 := ap_len a3 kc
    have a5 := ap_len a4 l3
    have a6 := ap_len a5 ko
    have a7 := ap_len a6 l4
    have a8 := ap_len a7 kp
    refine ⟨_, rfl, sl_len k0, ?_⟩
    refine ⟨_, rfl, p, Cd, dx, _, _, rfl, e, T.cl, T.n1, df_year _ _ _ _, y, 10, rfl, by decide, by decide, zy, fun H1 s1 => .inl ⟨_, rfl, sl_len l1, _, rfl, sl_len a1, ?_⟩⟩
    refine ⟨_, rfl, sl_len a2, ?_⟩
    refine ⟨_, rfl, p, Cd, dx, _, _, rfl, s1 _ _ e, T.cl, T.n2, df_number _ _ _ _, n, 10, rfl, by decide, by decide, zn, fun H2 s2 => .inl ⟨_, rfl, sl_len l2, _, rfl, sl_len a3, ?_⟩⟩
    refine ⟨_, rfl, sl_len a4, ?_⟩
    refine ⟨_, rfl, p, Cd, dx, _, _, rfl, s2 _ _ (s1 _ _ e), T.cl, T.n3, df_day _ _ _ _, d, 10, rfl, by decide, by decide, zd, fun H3 s3 => .inl ⟨_, rfl, sl_len l3, _, rfl, sl_len a5, ?_⟩⟩
    refine ⟨_, rfl, sl_len a6, ?_⟩
    refine ⟨_, rfl, p, Cd, dx, _, _, rfl, s3 _ _ (s2 _ _ (s1 _ _ e)), T.cl, T.n4, df_odd _ _ _ _, o, rfl, _, rfl, sl_len a7, ?_⟩
    refine ⟨_, rfl, sl_len a8, ?_⟩
    exact q H3 (s1.trans (s2.trans s3))
theorem ok_daG (D : Dm K Cd "__eq__" "Date.__eq__" s_Date_eq) (T : DaT K Cd) (g_isinstance : mg "isinstance" = none) (h_Date : mg "Date" = some (.ref Cd)) : Cm P w K mg base CX0 1 Cd "__eq__" "Date.__eq__" s_Date_eq ["self", "other"] (spDaG K Cd) := by
  refine cm0 (k := 0) D c_Date_eq (fun vs H Q E h => ?_) fun f cdv A outer s H vs Q E hr h => ?_
  · obtain ⟨p, x, y, n, d, o, rfl, _⟩ := h
    rfl
  · obtain ⟨p, x, y, n, d, o, rfl, ⟨dx, hp⟩, hh⟩ := h
    refine ⟨_, (pss_one (ps_ret (pe_and (pe_callB call_isi rfl g_isinstance (by decide +kernel) (pa_cons (pv 1) (pa_cons (pe_glob (v := .ref Cd) rfl h_Date rfl) pa_nil))) (pe_and (pe_cmpR op_eq (pe_fld (pv 0) rfl) (pe_fld (pv 1) rfl) (nomark _)) (pe_and (pe_cmpR op_eq (pe_fld (pv 0) rfl) (pe_fld (pv 1) rfl) (nomark _)) (pe_and (pe_cmpR op_eq (pe_fld (pv 0) rfl) (pe_fld (pv 1) rfl) (nomark _)) (pe_one (pe_cmpR op_eq (pe_fld (pv 0) rfl) (pe_fld (pv 1) rfl) (nomark _))))))))), ?_⟩
    rcases hh with ⟨r, y', n', d', o', rfl, ⟨dx', hr'⟩, q⟩ | ⟨t, ty, kt, q⟩
    · refine ⟨_, rfl, _, _, _, _, _, rfl, .own Cd, T.ty _ _ _ _ hr', kit_self, _, rfl, iteT ?_⟩
      refine ⟨_, rfl, p, Cd, dx, _, _, rfl, hp, T.cl, T.n1, df_year _ _ _ _, _, rfl, r, Cd, dx', _, _, rfl, hr', T.cl, T.n1, df_year _ _ _ _, rfl, _, rfl, ?_⟩
      rw [dec_int]
      by_cases h1 : y = y'
      · rw [decide_eq_true h1] at q ⊢
        refine iteT ?_
        refine ⟨_, rfl, p, Cd, dx, _, _, rfl, hp, T.cl, T.n2, df_number _ _ _ _, _, rfl, r, Cd, dx', _, _, rfl, hr', T.cl, T.n2, df_number _ _ _ _, rfl, _, rfl, ?_⟩
        rw [dec_int]
        by_cases h2 : n = n'
        · rw [decide_eq_true h2] at q ⊢
          refine iteT ?_
          refine ⟨_, rfl, p, Cd, dx, _, _, rfl, hp, T.cl, T.n3, df_day _ _ _ _, _, rfl, r, Cd, dx', _, _, rfl, hr', T.cl, T.n3, df_day _ _ _ _, rfl, _, rfl, ?_⟩
          rw [dec_int]
          by_cases h3 : d = d'
          · rw [decide_eq_true h3] at q ⊢
            refine iteT ?_
            refine ⟨_, rfl, p, Cd, dx, _, _, rfl, hp, T.cl, T.n4, df_odd _ _ _ _, _, rfl, r, Cd, dx', _, _, rfl, hr', T.cl, T.n4, df_odd _ _ _ _, rfl, ?_⟩
            rw [dec_bl]
            exact q
          · rw [decide_eq_false h3] at q ⊢
            exact iteF q
        · rw [decide_eq_false h2] at q ⊢
          exact iteF q
      · rw [decide_eq_false h1] at q ⊢
        exact iteF q
    · exact ⟨_, rfl, _, _, _, _, _, rfl, .own Cd, ty, kt, _, rfl, iteF q⟩
end
/-! ### Dates out of texts -/
def spRd (Cd CN : Addr) : Sp := fun vs H Q E => ∃ t : Str, vs = [.str t] ∧ t.length ≤ 98 ∧ (∀ y n d o, 0 ≤ n → 0 ≤ d → t = daS y n d o → ∀ p H', Same H H' → Da Cd H' p y n d o → Q (.ref p) H') ∧ ((∀ y n d o, 0 ≤ n → 0 ≤ d → t ≠ daS y n d o) → NtE CN E H t)
theorem rp_len (t : Str) : (Txt.rpartition t ("-" : Str)).1.length ≤ t.length ∧ (Txt.rpartition t ("-" : Str)).2.2.length ≤ t.length := by
  rcases rpart_cases dash_tl t with ⟨e, _⟩ | ⟨a, b, e, h, _⟩
  · rw [e]
    exact ⟨Nat.zero_le _, Nat.le_refl _⟩
  · rw [e, h]
    have h1 := str_app_len (a ++ ("-" : Str)) b
    have h2 := str_app_len a ("-" : Str)
    constructor
    · show a.length ≤ _
      omega
    · show b.length ≤ _
      omega
theorem nin_z {t : Str} (h : t.length ≤ 98) : Sz 400 (nin ((10 : Nat) : Int) t) := Nat.lt_of_lt_of_le (nin_sz (b := 10) (n := 98) (by decide) h) (Nat.pow_le_pow_right (by decide) (by decide))
section
variable {P : Program} {w : World} {K : PySem.W.Frag} {mg : Str → Option Value} {base : Heap} {Cd CN : Addr}
theorem ok_rd (D : Df K mg "read_date" s_read_date []) (T : NtT K mg CN) (nc : Cx1 P w K mg base 1 CN "NoText.__init__" s_NoText_init ["self", "at"] (spNt CN)) (Td : DaT K Cd) (g_str : mg "str" = none) (f_number_in : Ca P w K mg base CX0 1 "number_in" s_number_in [.int 10] ["text", "base"] spNinG)
    (f_Date : Ci P w K mg base CX0 1 "Date" Cd "Date.__init__" s_Date_init [.bl false] ["self", "year", "number", "day", "odd"] (spDaI Cd)) (f_Date_str : Cm P w K mg base CX0 3 Cd "__str__" "Date.__str__" s_Date_str ["self"] (spDaS Cd)) : Ca P w K mg base (L2.CX P w) 6 "read_date" s_read_date [] ["text"] (spRd Cd CN) := by
  refine caX (k := 5) D c_read_date (fun vs H Q E h => ?_) fun f cdv A outer s H vs Q E hr h => ?_
  · obtain ⟨t, rfl, _⟩ := h
    rfl
  · obtain ⟨t, rfl, hl, q, qn⟩ := h
    refine ⟨_, (pss_cons (ps_asg (pe_m1 PySem.F.slot_str_rpartition PySem.F.type_str_rpartition mt_rpartition (pv 0) pe_str) (pg_tup rfl (pgs_cons (pg_name (i := 1) c_read_date.nd rfl (.inl rfl)) (pgs_cons (pg_name (i := 2) c_read_date.nd rfl (.inl rfl)) (pgs_cons (pg_name (i := 3) c_read_date.nd rfl (.inl rfl)) pgs_nil)))))
      (pss_cons (ps_asg (pe_m1 PySem.F.slot_str_rpartition PySem.F.type_str_rpartition mt_rpartition (pv 1) pe_str) (pg_tup rfl (pgs_cons (pg_name (i := 4) c_read_date.nd rfl (.inl rfl)) (pgs_cons (pg_name (i := 2) c_read_date.nd rfl (.inl rfl)) (pgs_cons (pg_name (i := 5) c_read_date.nd rfl (.inl rfl)) pgs_nil)))))
      (pss_cons (ps_set (i := 6) c_read_date.nd rfl (.inl rfl) (pe_caD f_number_in bd_number_in1 (by decide) rfl hr (by decide) pass0 rfl (pa_cons (pe_m1 PySem.F.slot_str_removesuffix PySem.F.type_str_removesuffix mt_removesuffix (pv 5) pe_str) pa_nil)))
      (pss_cons (ps_set (i := 7) c_read_date.nd rfl (.inl rfl) (pe_ci f_Date bd_Date4 (by decide) rfl hr (by decide) pass0 rfl (pa_cons (pe_caD f_number_in bd_number_in1 (by decide) rfl hr (by decide) pass0 rfl (pa_cons (pv 4) pa_nil)) (pa_cons (pv 6) (pa_cons (pe_caD f_number_in bd_number_in1 (by decide) rfl hr (by decide) pass0 rfl (pa_cons (pv 3) pa_nil)) (pa_cons (pe_m1 PySem.F.slot_str_endswith PySem.F.type_str_endswith mt_endswith (pv 5) pe_str) pa_nil))))))
      (pss_cons (ps_if (pt_cmpR op_ne (pe_callTy (call_str_SA f_Date_str b_Date_str (hr.mono (by decide)) pass0) rfl g_str (by decide +kernel) (pa_cons (pv 7) pa_nil)) (pv 0) (nomark _)) (pss_one (ps_raise rfl (takes_of (E := E) rfl rfl rfl rfl) (mk_nt T nc (hr.mono (by decide)) rfl (pa_cons (pv 0) pa_nil)))) pss_nil)
      (pss_one (ps_ret (pv 7)))))))), ?_⟩
    have ll : t.length ≤ sizeLine := Nat.le_trans hl (by decide)
    have lp := rp_len t
    refine ⟨_, rfl, ⟨_, rfl⟩, t, ("-" : Str), rfl, rfl, rfl, ll, fun p np => ?_⟩
    have sp' := Same.new (o := .tup [.str (Txt.rpartition t ("-" : Str)).1, .str (Txt.rpartition t ("-" : Str)).2.1, .str (Txt.rpartition t ("-" : Str)).2.2]) np
    refine ⟨p, _, rfl, SqT.of upd_same, rfl, _, _, rfl, _, _, rfl, _, _, rfl, rfl, ?_⟩
    generalize L2.upd H p _ = H1 at *
    have er : ∀ r1 r2, Txt.rpartition t ("-" : Str) = r1 → Txt.rpartition r1.1 ("-" : Str) = r2 → rdd t = ⟨nin ((10 : Nat) : Int) r2.1, nin ((10 : Nat) : Int) (Txt.removesuffix r2.2.2 ("*" : Str)), nin ((10 : Nat) : Int) r1.2.2, Txt.endswith r2.2.2 ("*" : Str)⟩ := fun r1 r2 h1 h2 => by
      subst h1 h2
      rfl
    have er' := er _ _ rfl rfl
    clear er
    generalize Txt.rpartition t ("-" : Str) = r1 at *
    obtain ⟨r, d1, dd⟩ := r1
    have lr : r.length ≤ 98 := Nat.le_trans lp.1 hl
    have ldd : dd.length ≤ 98 := Nat.le_trans lp.2 hl
    have lq := rp_len r
    refine ⟨_, rfl, ⟨_, rfl⟩, r, ("-" : Str), rfl, rfl, rfl, Nat.le_trans lr (by decide), fun p2 np2 => ?_⟩
    have sp2 := Same.new (o := .tup [.str (Txt.rpartition r ("-" : Str)).1, .str (Txt.rpartition r ("-" : Str)).2.1, .str (Txt.rpartition r ("-" : Str)).2.2]) np2
    refine ⟨p2, _, rfl, SqT.of upd_same, rfl, _, _, rfl, _, _, rfl, _, _, rfl, rfl, ?_⟩
    generalize L2.upd H1 p2 _ = H2 at *
    dsimp only at er' lp lq
    generalize Txt.rpartition r ("-" : Str) = r2 at *
    obtain ⟨yy, d2, mm⟩ := r2
    dsimp only at er'
    have lyy : yy.length ≤ 98 := Nat.le_trans lq.1 lr
    have lmm : mm.length ≤ 98 := Nat.le_trans lq.2 lr
    have lsf : (Txt.removesuffix mm ("*" : Str)).length ≤ 98 := Nat.le_trans (len_removesuffix mm ("*" : Str)) lmm
    have s12 := sp'.trans sp2
    refine ⟨_, rfl, ⟨_, rfl⟩, mm, ("*" : Str), rfl, rfl, Nat.le_trans lmm (by decide), _, 10, rfl, by decide, by decide, lsf, ?_⟩
    refine ⟨_, rfl, yy, 10, rfl, by decide, by decide, lyy, _, rfl, _, rfl, dd, 10, rfl, by decide, by decide, ldd, _, rfl, ⟨_, rfl⟩, mm, ("*" : Str), rfl, rfl, ?_⟩
    refine made_da (R := fun p H1 => _) fun dt dx H3 nd s3 ed => ?_
    have zy := nin_z lyy
    have zn := nin_z lsf
    have zd := nin_z ldd
    have s13 := s12.trans s3
    have eda : Da Cd H3 dt (rdd t).y (rdd t).n (rdd t).d (rdd t).o := by
      rw [er']
      exact ⟨dx, ed⟩
    refine ⟨_, rfl, sa_own ed ⟨dt, _, _, _, _, rfl, ⟨dx, ed⟩, zy, zn, zd, fun H4 s4 => ⟨_, rfl, _, rfl, rfl, _, rfl, ?_⟩⟩⟩
    by_cases hc : daS (rdd t).y (rdd t).n (rdd t).d (rdd t).o = t
    · have hc' := hc
      rw [er'] at hc'
      rw [show decide (V.str (daS _ _ _ _) = V.str t) = true from decide_eq_true (congrArg V.str hc')]
      obtain ⟨h0, h1⟩ := rdd_ok hc
      exact iteF ⟨_, rfl, q _ _ _ _ h0 h1 hc.symm _ _ (s13.trans s4) (eda.same s4)⟩
    · have hc' := hc
      rw [er'] at hc'
      rw [show decide (V.str (daS _ _ _ _) = V.str t) = false from decide_eq_false (fun z => hc' (V.str.inj z))]
      refine iteT ⟨_, rfl, rd_nt (Nat.le_trans hl (by decide)) (qn fun y n d o h0 h1 e => hc ?_) (s13.trans s4)⟩
      obtain ⟨e1, e2, e3, e4⟩ := rdd_of h0 h1 e
      rw [e1, e2, e3, e4]
      exact e.symm
end
/-! ### which kind a kept error is -/
/-- the ten classes of errors, and what an error of the class D is an instance of -/
structure KdF (K : PySem.W.Frag) (mg : Str → Option Value) (D : Addr) (b0 b1 b2 b3 b4 b5 b6 b7 b8 b9 c0 c1 c2 c3 c4 c5 : Bool) (C_NoShare C_NoCalendar C_NoDate C_NoWheel C_NoName C_NoDay C_Taken C_NoText C_NoNote C_NoDeed : Addr) : Prop where
  xc : XcF K D
  m0 : mg "NoShare" = some (.ref C_NoShare)
  m1 : mg "NoCalendar" = some (.ref C_NoCalendar)
  m2 : mg "NoDate" = some (.ref C_NoDate)
  m3 : mg "NoWheel" = some (.ref C_NoWheel)
  m4 : mg "NoName" = some (.ref C_NoName)
  m5 : mg "NoDay" = some (.ref C_NoDay)
  m6 : mg "Taken" = some (.ref C_Taken)
  m7 : mg "NoText" = some (.ref C_NoText)
  m8 : mg "NoNote" = some (.ref C_NoNote)
  m9 : mg "NoDeed" = some (.ref C_NoDeed)
  k0 : PySem.W.kitOne K (.ref D) (.ref C_NoShare) = some b0
  k1 : PySem.W.kitOne K (.ref D) (.ref C_NoCalendar) = some b1
  k2 : PySem.W.kitOne K (.ref D) (.ref C_NoDate) = some b2
  k3 : PySem.W.kitOne K (.ref D) (.ref C_NoWheel) = some b3
  k4 : PySem.W.kitOne K (.ref D) (.ref C_NoName) = some b4
  k5 : PySem.W.kitOne K (.ref D) (.ref C_NoDay) = some b5
  k6 : PySem.W.kitOne K (.ref D) (.ref C_Taken) = some b6
  k7 : PySem.W.kitOne K (.ref D) (.ref C_NoText) = some b7
  k8 : PySem.W.kitOne K (.ref D) (.ref C_NoNote) = some b8
  k9 : PySem.W.kitOne K (.ref D) (.ref C_NoDeed) = some b9
  t0 : PySem.W.kitOne K (.ref D) (.type "ZeroDivisionError") = some c0
  t1 : PySem.W.kitOne K (.ref D) (.type "LookupError") = some c1
  t2 : PySem.W.kitOne K (.ref D) (.type "ValueError") = some c2
  t3 : PySem.W.kitOne K (.ref D) (.type "KeyError") = some c3
  t4 : PySem.W.kitOne K (.ref D) (.type "IndexError") = some c4
  t5 : PySem.W.kitOne K (.ref D) (.type "RuntimeError") = some c5
/-! ### which kinds a kept error is of, as a list -/
def spKinds (D : Addr) (bs : List Bool) : Sp := fun vs H Q _ => ∃ (a d : Addr) (fs : List (Str × V)), vs = [.ref a] ∧ H a = some (KX a (.ref D) (some d)) ∧ H d = some (.xd fs) ∧ ∀ l H', Same H H' → H' l = some (.lst (bs.map V.bl)) → Q (.ref l) H'
section
variable {P : Program} {w : World} {K : PySem.W.Frag} {mg : Str → Option Value} {base : Heap} {D0 : Addr} {b0 b1 b2 b3 b4 b5 b6 b7 b8 b9 c0 c1 c2 c3 c4 c5 : Bool} {C_NoShare C_NoCalendar C_NoDate C_NoWheel C_NoName C_NoDay C_Taken C_NoText C_NoNote C_NoDeed : Addr}
theorem ok_kinds (D : Df K mg "_law_kinds" s_l_kinds []) (T : KdF K mg D0 b0 b1 b2 b3 b4 b5 b6 b7 b8 b9 c0 c1 c2 c3 c4 c5 C_NoShare C_NoCalendar C_NoDate C_NoWheel C_NoName C_NoDay C_Taken C_NoText C_NoNote C_NoDeed) (g_isinstance : mg "isinstance" = none) :
    Ca P w K mg base CX0 1 "_law_kinds" s_l_kinds [] ["_law_kept"] (spKinds D0 [b0, b1, b2, b3, b4, b5, b6, b7, b8, b9]) := by
  refine ca0 (k := 0) D c_l_kinds (fun vs H Q E h => ?_) fun f cdv A outer s H vs Q E hr h => ?_
  · obtain ⟨a, d, fs, rfl, _⟩ := h
    rfl
  · obtain ⟨a, d, fs, rfl, ha, hd, q⟩ := h
    have XC := T.xc
    have h_NoShare := T.m0
    have h_NoCalendar := T.m1
    have h_NoDate := T.m2
    have h_NoWheel := T.m3
    have h_NoName := T.m4
    have h_NoDay := T.m5
    have h_Taken := T.m6
    have h_NoText := T.m7
    have h_NoNote := T.m8
    have h_NoDeed := T.m9
    refine ⟨_, (pss_cons (ps_set (i := 1) c_l_kinds.nd rfl (.inl rfl) (pe_lst (pa_cons (pe_callB (call_isK XC) rfl g_isinstance (by decide +kernel) (pa_cons (pv 0) (pa_cons (pe_glob (v := .ref C_NoShare) rfl h_NoShare rfl) pa_nil))) (pa_cons (pe_callB (call_isK XC) rfl g_isinstance (by decide +kernel) (pa_cons (pv 0) (pa_cons (pe_glob (v := .ref C_NoCalendar) rfl h_NoCalendar rfl) pa_nil))) (pa_cons (pe_callB (call_isK XC) rfl g_isinstance (by decide +kernel) (pa_cons (pv 0) (pa_cons (pe_glob (v := .ref C_NoDate) rfl h_NoDate rfl) pa_nil))) pa_nil)))))
      (pss_cons (ps_set (i := 1) c_l_kinds.nd rfl (.inl rfl) (pe_op op_cat (pv 1) (pe_lst (pa_cons (pe_callB (call_isK XC) rfl g_isinstance (by decide +kernel) (pa_cons (pv 0) (pa_cons (pe_glob (v := .ref C_NoWheel) rfl h_NoWheel rfl) pa_nil))) (pa_cons (pe_callB (call_isK XC) rfl g_isinstance (by decide +kernel) (pa_cons (pv 0) (pa_cons (pe_glob (v := .ref C_NoName) rfl h_NoName rfl) pa_nil))) (pa_cons (pe_callB (call_isK XC) rfl g_isinstance (by decide +kernel) (pa_cons (pv 0) (pa_cons (pe_glob (v := .ref C_NoDay) rfl h_NoDay rfl) pa_nil))) pa_nil))))))
      (pss_cons (ps_set (i := 1) c_l_kinds.nd rfl (.inl rfl) (pe_op op_cat (pv 1) (pe_lst (pa_cons (pe_callB (call_isK XC) rfl g_isinstance (by decide +kernel) (pa_cons (pv 0) (pa_cons (pe_glob (v := .ref C_Taken) rfl h_Taken rfl) pa_nil))) (pa_cons (pe_callB (call_isK XC) rfl g_isinstance (by decide +kernel) (pa_cons (pv 0) (pa_cons (pe_glob (v := .ref C_NoText) rfl h_NoText rfl) pa_nil))) (pa_cons (pe_callB (call_isK XC) rfl g_isinstance (by decide +kernel) (pa_cons (pv 0) (pa_cons (pe_glob (v := .ref C_NoNote) rfl h_NoNote rfl) pa_nil))) pa_nil))))))
      (pss_one (ps_ret (pe_op op_cat (pv 1) (pe_lst (pa_cons (pe_callB (call_isK XC) rfl g_isinstance (by decide +kernel) (pa_cons (pv 0) (pa_cons (pe_glob (v := .ref C_NoDeed) rfl h_NoDeed rfl) pa_nil))) pa_nil)))))))), ?_⟩
    refine ⟨_, rfl, a, d, fs, _, _, _, rfl, ha, hd, .own _, T.k0, _, rfl, a, d, fs, _, _, _, rfl, ha, hd, .own _, T.k1, _, rfl, a, d, fs, _, _, _, rfl, ha, hd, .own _, T.k2, ln _, fun p1 n1 => ?_⟩
    have s1 := Same.new (o := .lst [.bl b0, .bl b1, .bl b2]) n1
    refine ⟨_, rfl, _, rfl, a, d, fs, _, _, _, rfl, s1 _ _ ha, s1 _ _ hd, .own _, T.k3, _, rfl, a, d, fs, _, _, _, rfl, s1 _ _ ha, s1 _ _ hd, .own _, T.k4, _, rfl, a, d, fs, _, _, _, rfl, s1 _ _ ha, s1 _ _ hd, .own _, T.k5, ln _, fun p2 n2 => ?_⟩
    have s2 := s1.trans (Same.new (o := .lst [.bl b3, .bl b4, .bl b5]) n2)
    refine ⟨p1, p2, _, _, rfl, rfl, (Same.new n2 _ _ upd_same), upd_same, (by show 6 ≤ sizeLine; decide), fun p3 n3 => ?_⟩
    have s3 := s2.trans (Same.new (o := .lst ([.bl b0, .bl b1, .bl b2] ++ [.bl b3, .bl b4, .bl b5])) n3)
    refine ⟨_, rfl, _, rfl, a, d, fs, _, _, _, rfl, s3 _ _ ha, s3 _ _ hd, .own _, T.k6, _, rfl, a, d, fs, _, _, _, rfl, s3 _ _ ha, s3 _ _ hd, .own _, T.k7, _, rfl, a, d, fs, _, _, _, rfl, s3 _ _ ha, s3 _ _ hd, .own _, T.k8, ln _, fun p4 n4 => ?_⟩
    have s4 := s3.trans (Same.new (o := .lst [.bl b6, .bl b7, .bl b8]) n4)
    refine ⟨p3, p4, _, _, rfl, rfl, (Same.new n4 _ _ upd_same), upd_same, (by show 9 ≤ sizeLine; decide), fun p5 n5 => ?_⟩
    have s5 := s4.trans (Same.new (o := .lst (([.bl b0, .bl b1, .bl b2] ++ [.bl b3, .bl b4, .bl b5]) ++ [.bl b6, .bl b7, .bl b8])) n5)
    refine ⟨_, rfl, _, rfl, a, d, fs, _, _, _, rfl, s5 _ _ ha, s5 _ _ hd, .own _, T.k9, ln _, fun p6 n6 => ?_⟩
    have s6 := s5.trans (Same.new (o := .lst [.bl b9]) n6)
    refine ⟨p5, p6, _, _, rfl, rfl, (Same.new n6 _ _ upd_same), upd_same, (by show 10 ≤ sizeLine; decide), fun p7 n7 => ?_⟩
    exact q p7 _ (s6.trans (Same.new n7)) upd_same
end
/-! ### the law's own look at figures by ten -/
theorem md0 (v : Int) {j : Int} (h : 0 < j := by decide) : 0 ≤ v % j := Int.emod_nonneg v (by omega)
theorem md1 (v : Int) {j : Int} (h : 0 < j := by decide) : v % j < j := Int.emod_lt_of_pos v h
theorem cutS_len (z : Str) (lo hi : Option Int) : (cutS z lo hi).length ≤ z.length := by
  rw [len_cps, len_cps]
  show (((z.cps.toList.drop (HT.sIx z.length 0 lo)).take (HT.sIx z.length z.length hi - HT.sIx z.length 0 lo)).toArray.toList).length ≤ _
  rw [List.toList_toArray, List.length_take, List.length_drop]
  omega
theorem cut_head (t : Str) : (cutS t none (some 1)).cps.toList = t.cps.toList.take 1 := by
  show (((t.cps.toList.drop (HT.sIx t.length 0 none)).take (HT.sIx t.length t.length (some 1) - HT.sIx t.length 0 none)).toArray.toList) = _
  rw [List.toList_toArray]
  have e1 : HT.sIx t.length 0 none = 0 := rfl
  have e2 : HT.sIx t.length t.length (some 1) = min 1 t.length := HT.sIx_nat _ _ 1
  rw [e1, e2, List.drop_zero, len_cps]
  cases t.cps.toList with
  | nil => rfl
  | cons c cs => simp
theorem cut_tail (t : Str) : (cutS t (some 1) none).cps.toList = t.cps.toList.tail := by
  show (((t.cps.toList.drop (HT.sIx t.length 0 (some 1))).take (HT.sIx t.length t.length none - HT.sIx t.length 0 (some 1))).toArray.toList) = _
  rw [List.toList_toArray]
  have e1 : HT.sIx t.length t.length none = t.length := rfl
  have e2 : HT.sIx t.length 0 (some 1) = min 1 t.length := HT.sIx_nat _ _ 1
  rw [e1, e2, len_cps]
  cases t.cps.toList with
  | nil => rfl
  | cons c cs => simp
theorem head_d (t : Str) : decide (V.str (cutS t none (some 1)) = V.str ("-" : Str)) = hasD t.cps.toList := by
  have h := cut_head t
  unfold hasD
  by_cases e : cutS t none (some 1) = ("-" : Str)
  · rw [decide_eq_true (congrArg V.str e)]
    rw [e, dash_cps] at h
    cases hc : t.cps.toList with
    | nil =>
      rw [hc] at h
      cases h
    | cons c cs =>
      rw [hc] at h
      have : c = 45 := by
        have h2 : [45] = [c] := h
        injection h2 with h3
        exact h3.symm
      rw [this]
      rfl
  · rw [decide_eq_false (fun z => e (V.str.inj z))]
    cases hc : t.cps.toList with
    | nil => rfl
    | cons c cs =>
      have hne : c ≠ 45 := fun z => e (str_ext (by rw [h, hc, z, dash_cps]; rfl))
      simp [hne]
theorem emp_iff (z : Str) : z = ("" : Str) ↔ z.cps.toList = [] := by
  constructor
  · rintro rfl
    decide +kernel
  · intro h
    exact str_ext (by rw [h]; decide +kernel)
theorem zero_iff (z : Str) : z = ("0" : Str) ↔ z.cps.toList = [48] := by
  constructor
  · rintro rfl
    decide +kernel
  · intro h
    exact str_ext (by rw [h]; decide +kernel)
theorem mz_iff (z : Str) : z = ("-0" : Str) ↔ z.cps.toList = [45, 48] := by
  constructor
  · rintro rfl
    decide +kernel
  · intro h
    exact str_ext (by rw [h]; decide +kernel)
def spWhole : Sp := fun vs H Q _ => ∃ i : Int, vs = [.int i] ∧ Q (.bl true) H
def spVal : Sp := fun vs H Q _ => ∃ t : Str, vs = [.str t] ∧ t.length ≤ 98 ∧ (∀ i, t = numT 10 i → ∀ H', Same H H' → Q (.int i) H') ∧ ((∀ i, t ≠ numT 10 i) → ∀ H', Same H H' → Q .non H')
section
variable {P : Program} {w : World} {K : PySem.W.Frag} {mg : Str → Option Value} {base : Heap}
theorem ok_lwhole (D : Df K mg "_law_whole" s_l_whole []) (g_isinstance : mg "isinstance" = none) (g_int : mg "int" = none) (g_bool : mg "bool" = none) : Ca P w K mg base CX0 1 "_law_whole" s_l_whole [] ["_law_told"] spWhole := by
  refine ca0 (k := 0) D c_l_whole (fun vs H Q E h => ?_) fun f cdv A outer s H vs Q E hr h => ?_
  · obtain ⟨i, rfl, _⟩ := h
    rfl
  · obtain ⟨i, rfl, q⟩ := h
    refine ⟨_, (pss_one (ps_ret (pe_and (pe_callB call_isi rfl g_isinstance (by decide +kernel) (pa_cons (pv 0) (pa_cons (pe_bltn (v := .ty "int") rfl g_int (by decide +kernel) rfl) pa_nil))) (pe_one (pe_not (pe_callB call_isi rfl g_isinstance (by decide +kernel) (pa_cons (pv 0) (pa_cons (pe_bltn (v := .ty "bool") rfl g_bool (by decide +kernel) rfl) pa_nil)))))))), ?_⟩
    refine ⟨_, rfl, _, _, _, _, _, rfl, .ty "int", .base (.int i), kit_ty (r := true) (by decide +kernel), _, rfl, iteT ?_⟩
    refine ⟨_, rfl, _, _, _, _, _, rfl, .ty "bool", .base (.int i), kit_ty (r := false) (by decide +kernel), _, rfl, ?_⟩
    exact q
theorem ok_lval (D : Df K mg "_law_value" s_l_value []) (g_int : mg "int" = none) : Ca P w K mg base CX0 1 "_law_value" s_l_value [] ["_law_a_text"] spVal := by
  refine ca0 (k := 0) D c_l_value (fun vs H Q E h => ?_) fun f cdv A outer s H vs Q E hr h => ?_
  · obtain ⟨t, rfl, _⟩ := h
    rfl
  · obtain ⟨t, rfl, hl, q, qn⟩ := h
    refine ⟨_, (pss_cons (ps_set (i := 1) c_l_value.nd rfl (.inl rfl) (pv 0))
      (C8.pss_cut (ps_if (pt_cmpR op_eq (pe_slice sl_str (pv 0) po_none (po_some pe_int)) pe_str (nomark _)) (pss_one (ps_set (i := 1) c_l_value.nd rfl (.inl rfl) (pe_slice sl_str (pv 0) (po_some pe_int) po_none))) pss_nil)
      (pss_cons (ps_for PassesOwn.never rfl (pi_str (pv 1)) (pg_name (i := 2) c_l_value.nd rfl (.inl rfl)) (pss_one (ps_if (pt_cmpR op_notIn_sign (pv 2) pe_str rfl) (pss_one (ps_ret pe_non)) pss_nil)))
      (C8.pss_cut (ps_if (PW.pt (pw_or (pt_cmpR op_eq (pv 1) pe_str (nomark _)) (pw_or (PW.pt (pw_and (pt_cmpR op_eq (pe_ix ix_str (pv 1) pe_int (fun _ _ => rfl)) pe_str (nomark _)) (pw_and1 (pt_cmpR op_ne (pv 1) pe_str (nomark _))))) (pw_or1 (pt_cmpR op_eq (pv 0) pe_str (nomark _)))))) (pss_one (ps_ret pe_non)) pss_nil)
      (pss_one (ps_ret (pe_op op_mulA (pe_callTy call_int_str rfl g_int (by decide +kernel) (pa_cons (pv 1) pa_nil)) (pe_ix ix_list (pe_lst (pa_cons pe_int (pa_cons (pe_op op_sub pe_int pe_int) pa_nil))) (pe_callTy call_int1 rfl g_int (by decide +kernel) (pa_cons (pe_cmpR op_ne (pv 1) (pv 0) (nomark _)) pa_nil)) (fun _ _ => rfl))))))))), ?_⟩
    have ll : t.length ≤ sizeLine := Nat.le_trans hl (by decide)
    have none_of : ¬ Wr 10 t → ∀ H', Same H H' → Q .non H' := fun hw => qn fun i e => hw (by rw [e]; exact wr_num (by decide) (by decide) i)
    refine ⟨_, rfl, ?_⟩
    refine ⟨fun σ' H' => ∃ z : Str, σ' = [some (.str t), some (.str z), none] ∧ z.cps.toList = unm t.cps.toList ∧ H' = H, ?_, ?_⟩
    · refine ⟨_, rfl, _, rfl, t, rfl, ll, rfl, _, rfl, ?_⟩
      rw [head_d]
      cases hD : hasD t.cps.toList with
      | true =>
        refine iteT ⟨_, rfl, _, rfl, t, rfl, ll, ⟨_, rfl, ?_, rfl⟩⟩
        rw [cut_tail]
        unfold unm
        rw [hD]
        rfl
      | false =>
        refine iteF ⟨t, rfl, ?_, rfl⟩
        unfold unm
        rw [hD]
        rfl
    · rintro σ' H' ⟨z, rfl, hz, rfl⟩
      have hzl : z.length ≤ 98 := by
        rw [len_cps, hz]
        have := unm_len t.cps.toList
        rw [← len_cps] at this
        omega
      have hzs : z.cps.size = (unm t.cps.toList).length := by rw [← hz]; simp
      refine ⟨_, rfl, _, rfl, ?_⟩
      refine for_it (walk_str (z := z)) (fun j σ H2 => ∃ v2 : Option V, σ = [some (.str t), some (.str z), v2] ∧ (∀ c ∈ (unm t.cps.toList).take j, 48 ≤ c ∧ c ≤ 57) ∧ H2 = H') ⟨_, rfl, (fun c hc => by simp at hc), rfl⟩ (fun _ _ _ _ _ => trivial) ?_ ?_
      · rintro j x σ H2 H3 hj ⟨v2, rfl, hall, rfl⟩ ⟨rfl, c, hc, rfl⟩
        have hj' : j < (unm t.cps.toList).length := by omega
        have ec : c = (unm t.cps.toList)[j] := by
          have e1 : z.cps.toList[j]? = some c := by simpa using hc
          rw [hz, List.getElem?_eq_getElem hj'] at e1
          exact (Option.some.inj e1).symm
        have hmem : c ∈ unm t.cps.toList := by rw [ec]; exact List.getElem_mem hj'
        refine ⟨_, rfl, c, TEN, rfl, rfl, _, rfl, ?_⟩
        by_cases h0 : 48 ≤ c ∧ c ≤ 57
        · rw [decide_eq_true ((mem_ten c).mpr h0)]
          refine iteF ⟨_, rfl, fun x hx => ?_, rfl⟩
          rw [← List.take_append_getElem hj'] at hx
          rcases List.mem_append.mp hx with hx | hx
          · exact hall x hx
          · rw [List.mem_singleton.mp hx, ← ec]
            exact h0
        · rw [decide_eq_false (fun y => h0 ((mem_ten c).mp y))]
          exact iteT (none_of (fun w => h0 (ten_fv.mp (w.all c hmem))) _ (Same.refl _))
      · rintro σ H2 ⟨v2, rfl, hall, rfl⟩
        rw [hzs, List.take_length] at hall
        refine ⟨fun σ' H' => σ' = [some (.str t), some (.str z), v2] ∧ H' = H2 ∧ Wr 10 t, ?_, ?_⟩
        · refine ⟨_, rfl, rfl, _, rfl, ?_⟩
          by_cases he : unm t.cps.toList = []
          · rw [decide_eq_true (congrArg V.str ((emp_iff z).mpr (hz.trans he)))]
            exact iteT (iteT (none_of (fun w => w.ne he) _ (Same.refl _)))
          rw [decide_eq_false (fun y => he (hz.symm.trans ((emp_iff z).mp (V.str.inj y))))]
          refine iteF ?_
          obtain ⟨c0, hc0⟩ : ∃ c0, (unm t.cps.toList).head? = some c0 := by
            cases hu : unm t.cps.toList with
            | nil => exact absurd hu he
            | cons c cs => exact ⟨c, rfl⟩
          have hat : atI z.cps.toList 0 = some c0 := by
            rw [hz]
            cases hu : unm t.cps.toList with
            | nil => exact absurd hu he
            | cons c cs =>
              rw [hu] at hc0
              have : c = c0 := by simpa using hc0
              rw [this]
              unfold atI ixN
              rw [if_pos (by decide), if_pos (by rw [List.length_cons]; omega)]
              rfl
          refine ⟨_, rfl, z, _, c0, rfl, rfl, Nat.le_trans hzl (by decide), hat, rfl, _, rfl, ?_⟩
          by_cases h48 : c0 = 48
          · rw [decide_eq_true (show V.str ⟨#[c0]⟩ = V.str ("0" : Str) by rw [h48]; exact congrArg V.str ((zero_iff _).mpr rfl))]
            refine iteT ⟨_, rfl, rfl, _, rfl, ?_⟩
            by_cases hz0 : unm t.cps.toList = [48]
            · rw [show (!decide (V.str z = V.str ("0" : Str))) = false by rw [(zero_iff z).mpr (hz.trans hz0)]; simp]
              refine iteF ⟨_, rfl, rfl, _, rfl, ?_⟩
              by_cases hm : t = ("-0" : Str)
              · rw [decide_eq_true (congrArg V.str hm)]
                exact iteT (none_of (fun w => w.nd ((mz_iff t).mp hm)) _ (Same.refl _))
              · rw [decide_eq_false (fun y => hm (V.str.inj y))]
                exact iteF ⟨rfl, rfl, ⟨(fun c hc => ten_fv.mpr (hall c hc)), he, fun y => y.2 hz0, fun y => hm ((mz_iff t).mpr y)⟩⟩
            · rw [show (!decide (V.str z = V.str ("0" : Str))) = true by
                have : ¬ z = ("0" : Str) := fun y => hz0 (hz.symm.trans ((zero_iff z).mp y))
                simpa using this]
              exact iteT (iteT (none_of (fun w => w.no ⟨by rw [hc0, h48], hz0⟩) _ (Same.refl _)))
          · rw [decide_eq_false (show ¬ V.str ⟨#[c0]⟩ = V.str ("0" : Str) from fun y => h48 (by
              have := (zero_iff _).mp (V.str.inj y)
              have h3 : [c0] = [48] := this
              injection h3))]
            refine iteF (iteF ⟨_, rfl, rfl, _, rfl, ?_⟩)
            by_cases hm : t = ("-0" : Str)
            · rw [decide_eq_true (congrArg V.str hm)]
              exact iteT (none_of (fun w => w.nd ((mz_iff t).mp hm)) _ (Same.refl _))
            · rw [decide_eq_false (fun y => hm (V.str.inj y))]
              exact iteF ⟨rfl, rfl, ⟨(fun c hc => ten_fv.mpr (hall c hc)), he, fun y => h48 (by rw [hc0] at y; exact Option.some.inj y.1), fun y => hm ((mz_iff t).mpr y)⟩⟩
        · rintro σ' H' ⟨rfl, rfl, wr⟩
          have et := num_wr (by decide) (by decide) wr
          have zn : Sz 399 (ninL ((10 : Nat) : Int) (unm t.cps.toList)) := by
            have h3 := ninL_sz (b := 10) (by decide) (unm t.cps.toList)
            have h4 := unm_len t.cps.toList
            rw [← len_cps] at h4
            have h5 : (16 : Nat) ^ ((unm t.cps.toList).length + 1) ≤ 16 ^ 99 := Nat.pow_le_pow_right (by decide) (by omega)
            have h6 : (16 : Nat) ^ 99 = 2 ^ 396 := by decide
            exact Nat.lt_of_lt_of_le (Nat.lt_of_lt_of_le h3 h5) (by rw [h6]; exact Nat.pow_le_pow_right (by decide) (by decide))
          refine ⟨_, rfl, z, _, rfl, int_fig (by rw [hz]; exact fun c hc => ten_fv.mp (wr.all c hc)) (by rw [hz]; exact wr.ne) hzl, Nat.le_trans hzl (by decide), ?_⟩
          rw [hz]
          refine ⟨_, _, rfl, rfl, ln _, fun p np => ?_⟩
          have s1 := Same.new (o := .lst [.int 1, .int (0 - 1)]) np
          refine ⟨_, rfl, _, rfl, rfl, .inr ⟨_, rfl, ?_⟩⟩
          have q2 := q _ et _ s1
          unfold nin at q2
          cases hD : hasD t.cps.toList with
          | true =>
            have hne : ¬ z = t := fun y => by
              have h3 : unm t.cps.toList = t.cps.toList := by rw [← hz, y]
              have h4 : unm t.cps.toList = t.cps.toList.tail := by unfold unm; rw [hD]; rfl
              rw [h4] at h3
              have h5 := congrArg List.length h3
              have h6 : t.cps.toList ≠ [] := fun y => by rw [y] at hD; cases hD
              have h7 := List.length_pos_iff.mpr h6
              rw [List.length_tail] at h5
              omega
            rw [show (!decide (V.str z = V.str t)) = true by simpa using hne]
            rw [hD, if_pos rfl] at q2
            refine ⟨p, _, _, _, rfl, rfl, SqL.of upd_same, rfl, _, _, rfl, rfl, ⟨zn.mono (by decide), (Sz.of (n := 3) (by decide) (by decide)).mono (by decide)⟩, ?_⟩
            have e : ninL ((10 : Nat) : Int) (unm t.cps.toList) * (0 - 1) = - ninL ((10 : Nat) : Int) (unm t.cps.toList) := by omega
            rw [← e] at q2
            exact q2
          | false =>
            have hzt : z = t := str_ext (by
              rw [hz]
              unfold unm
              rw [hD]
              rfl)
            rw [show (!decide (V.str z = V.str t)) = false by rw [hzt]; simp]
            rw [hD, if_neg Bool.false_ne_true] at q2
            refine ⟨p, _, _, _, rfl, rfl, SqL.of upd_same, rfl, _, _, rfl, rfl, ⟨zn.mono (by decide), (Sz.of (n := 3) (by decide) (by decide)).mono (by decide)⟩, ?_⟩
            have e : ninL ((10 : Nat) : Int) (unm t.cps.toList) * 1 = ninL ((10 : Nat) : Int) (unm t.cps.toList) := by omega
            rw [← e] at q2
            exact q2
end
/-! ### texts bent, odd ones, and what is told of them -/
theorem str_at {z : Str} {i : Int} (h0 : 0 ≤ i) (h1 : i < z.length) : ∃ c, atI z.cps.toList i = some c := by
  unfold atI ixN
  have hl := len_cps z
  rw [if_pos h0, if_pos (by omega)]
  exact ⟨_, List.getElem?_eq_getElem (show i.toNat < z.cps.toList.length by omega)⟩
def AZ : Str := " !\"#$&'()*+,-./0123456789:;<=>?@ABCDEFGHIJKLMNOPQRSTUVWXYZ[\\]^_`abcdefghijklmnopqrstuvwxyz{|}~\n"
theorem az_len : AZ.length = 95 := by decide +kernel
theorem one_len (c : Nat) : (⟨#[c]⟩ : Str).length = 1 := rfl
def spBentS : Sp := fun vs H Q _ => ∃ (l : Addr) (t sg : Str) (n : Nat), vs = [.ref l, .str t, .str sg] ∧ Dr H l n ∧ n ≤ 1000 ∧ t.length ≤ 95 ∧ 0 < sg.length ∧ sg.length ≤ 100 ∧ ∀ t' H', t'.length ≤ t.length + 1 → But l H H' → Dr H' l (n + 3) → Q (.str t') H'
section
variable {P : Program} {w : World} {K : PySem.W.Frag} {mg : Str → Option Value} {base : Heap} {CN : Addr} {C_NoShare C_NoCalendar C_NoDate C_NoWheel C_NoName C_NoDay C_Taken C_NoNote C_NoDeed : Addr}
theorem ok_lbentS (D : Df K mg "_law_bent" s_l_bent []) (f_l_next : Ca P w K mg base CX0 1 "_law_next" s_l_next [] ["_law_draws_here"] spNext) (g_len : mg "len" = none) : Ca P w K mg base CX0 2 "_law_bent" s_l_bent [] ["_law_draws_here", "_law_a_text", "_law_signs"] spBentS := by
  refine ca0 (k := 1) D c_l_bent (fun vs H Q E h => ?_) fun f cdv A outer s H vs Q E hr h => ?_
  · obtain ⟨l, t, sg, n, rfl, _⟩ := h
    rfl
  · obtain ⟨l, t, sg, n, rfl, d, hn, hl, sg0, sg1, q⟩ := h
    refine ⟨_, (pss_cons (ps_set (i := 3) c_l_bent.nd rfl (.inl rfl) (pe_ca f_l_next b_l_next hr (by decide) pass0 rfl (pa_cons (pv 0) pa_nil)))
      (pss_cons (ps_set (i := 4) c_l_bent.nd rfl (.inl rfl) pe_str)
      (pss_cons (ps_set (i := 5) c_l_bent.nd rfl (.inl rfl) (pe_ix ix_str (pv 4) (pe_op op_mod (pe_op op_fdiv (pv 3) pe_int) (pe_callB call_len_str rfl g_len (by decide +kernel) (pa_cons (pv 4) pa_nil))) (fun _ _ => rfl)))
      (C8.pss_cut (ps_if (pt_cmpR op_gt (pe_op op_mod (pv 3) pe_int) pe_int (nomark _)) (pss_one (ps_set (i := 5) c_l_bent.nd rfl (.inl rfl) (pe_ix ix_str (pv 2) (pe_op op_mod (pe_op op_fdiv (pv 3) pe_int) (pe_callB call_len_str rfl g_len (by decide +kernel) (pa_cons (pv 2) pa_nil))) (fun _ _ => rfl)))) pss_nil)
      (pss_cons (ps_set (i := 6) c_l_bent.nd rfl (.inl rfl) (pe_op op_mod (pe_ca f_l_next b_l_next hr (by decide) pass0 rfl (pa_cons (pv 0) pa_nil)) (pe_op op_add (pe_callB call_len_str rfl g_len (by decide +kernel) (pa_cons (pv 1) pa_nil)) pe_int)))
      (pss_cons (ps_set (i := 7) c_l_bent.nd rfl (.inl rfl) (pe_op op_mod (pe_ca f_l_next b_l_next hr (by decide) pass0 rfl (pa_cons (pv 0) pa_nil)) pe_int))
      (pss_cons (ps_if (pt_cmpR op_eq (pv 7) pe_int (nomark _)) (pss_one (ps_ret (pe_op op_add_str (pe_slice sl_str (pv 1) po_none (po_some (pv 6))) (pe_slice sl_str (pv 1) (po_some (pe_op op_add (pv 6) pe_int)) po_none)))) pss_nil)
      (pss_cons (ps_if (pt_cmpR op_eq (pv 7) pe_int (nomark _)) (pss_one (ps_ret (pe_op op_add_str (pe_op op_add_str (pe_slice sl_str (pv 1) po_none (po_some (pv 6))) (pv 5)) (pe_slice sl_str (pv 1) (po_some (pe_op op_add (pv 6) pe_int)) po_none)))) pss_nil)
      (pss_one (ps_ret (pe_op op_add_str (pe_op op_add_str (pe_slice sl_str (pv 1) po_none (po_some (pv 6))) (pv 5)) (pe_slice sl_str (pv 1) (po_some (pv 6)) po_none)))))))))))), ?_⟩
    have ll : t.length ≤ sizeLine := Nat.le_trans hl (by decide)
    have la : AZ.length ≤ sizeLine := by rw [az_len]; decide
    have lf : sg.length ≤ sizeLine := Nat.le_trans sg1 (by decide)
    refine ⟨_, rfl, l, n, rfl, d, by omega, fun v H1 v0 v1 b1 d1 => ?_⟩
    obtain ⟨c1, hc1⟩ := str_at (z := AZ) (i := v / 4 % 95) (md0 (v / 4)) (by rw [az_len]; exact md1 (v / 4))
    refine ⟨_, rfl, _, rfl, _, _, rfl, rfl, ⟨by decide, by decide⟩, _, rfl, AZ, rfl, la, _, _, rfl, rfl, (by show (0 : Int) < ((AZ.length : Nat) : Int); rw [az_len]; decide), AZ, _, c1, rfl, rfl, la, (by rw [az_len]; exact hc1), ?_⟩
    refine ⟨fun σ' H' => ∃ c : Nat, σ' = [some (.ref l), some (.str t), some (.str sg), some (.int v), some (.str AZ), some (.str ⟨#[c]⟩), none, none] ∧ H' = H1, ?_, ?_⟩
    · refine ⟨_, rfl, _, _, rfl, rfl, md, _, _, rfl, rfl, _, rfl, ite2 (fun _ => ?_) (fun _ => ⟨c1, rfl, rfl⟩)⟩
      have hp : (0 : Int) < ((sg.length : Nat) : Int) := by omega
      obtain ⟨c2, hc2⟩ := str_at (z := sg) (i := v / 4 % ((sg.length : Nat) : Int)) (md0 (v / 4) hp) (md1 (v / 4) hp)
      exact ⟨_, rfl, _, rfl, _, _, rfl, rfl, ⟨by decide, by decide⟩, _, rfl, sg, rfl, lf, _, _, rfl, rfl, hp, sg, _, c2, rfl, rfl, lf, hc2, c2, rfl, rfl⟩
    · rintro σ' H' ⟨c, rfl, rfl⟩
      refine ⟨_, rfl, l, _, rfl, d1, by omega, fun u H2 u0 u1 b2 d2 => ?_⟩
      refine ⟨_, rfl, t, rfl, ll, _, _, rfl, rfl, _, _, rfl, rfl, (by omega), ?_⟩
      refine ⟨_, rfl, l, _, rfl, d2, by omega, fun u' H3 u0' u1' b3 d3 => ⟨_, _, rfl, rfl, md, ?_⟩⟩
      have b03 := (b1.trans b2).trans b3
      have fin : ∀ t' : Str, t'.length ≤ t.length + 1 → Q (.str t') H3 := fun t' h => q t' H3 h b03 (d3.mono (by omega))
      have lc : ∀ lo hi, (cutS t lo hi).length ≤ 95 := fun lo hi => Nat.le_trans (cutS_len t lo hi) hl
      have h0 := md0 u (j := (t.length : Int) + 1) (by omega)
      have h1 := md1 u (j := (t.length : Int) + 1) (by omega)
      -- the two cuts are no longer than the text
      have two : ∀ k : Int, u % ((t.length : Int) + 1) ≤ k → (cutS t none (some (u % ((t.length : Int) + 1)))).length + (cutS t (some k) none).length ≤ t.length := fun k hk => by
        rw [len_cps, len_cps]
        show (((t.cps.toList.drop (HT.sIx t.length 0 none)).take (HT.sIx t.length t.length (some _) - HT.sIx t.length 0 none)).toArray.toList).length + (((t.cps.toList.drop (HT.sIx t.length 0 (some k))).take (HT.sIx t.length t.length none - HT.sIx t.length 0 (some k))).toArray.toList).length ≤ _
        rw [List.toList_toArray, List.toList_toArray, List.length_take, List.length_take, List.length_drop, List.length_drop, ← len_cps]
        have e0 : HT.sIx t.length 0 none = 0 := rfl
        have e1 : HT.sIx t.length t.length none = t.length := rfl
        have e2 : HT.sIx t.length t.length (some (u % ((t.length : Int) + 1))) = min (u % ((t.length : Int) + 1)).toNat t.length := by
          show (if u % ((t.length : Int) + 1) < 0 then _ else min (u % ((t.length : Int) + 1)).toNat t.length) = _
          rw [if_neg (by omega)]
        have e3 : HT.sIx t.length 0 (some k) = min k.toNat t.length := by
          show (if k < 0 then _ else min k.toNat t.length) = _
          rw [if_neg (by omega)]
        rw [e0, e1, e2, e3]
        omega
      refine ⟨_, rfl, rfl, _, rfl, ite2 (fun _ => ?_) (fun _ => ?_)⟩
      · refine ⟨_, rfl, _, rfl, _, rfl, t, rfl, ll, _, rfl, _, rfl, _, _, rfl, rfl, _, rfl, t, rfl, ll, _, _, rfl, rfl, Nat.le_trans (Nat.add_le_add (lc _ _) (lc _ _)) (by decide), fin _ ?_⟩
        rw [str_app_len]
        have := two (u % ((t.length : Int) + 1) + 1) (by omega)
        omega
      refine ⟨_, rfl, rfl, _, rfl, ite2 (fun _ => ?_) (fun _ => ?_)⟩
      · refine ⟨_, rfl, _, rfl, _, rfl, t, rfl, ll, _, rfl, _, _, rfl, rfl, Nat.le_trans (Nat.add_le_add (lc _ _) (Nat.le_of_eq (one_len c))) (by decide), _, rfl, _, rfl, _, _, rfl, rfl, _, rfl, t, rfl, ll, _, _, rfl, rfl, ?_, fin _ ?_⟩
        · rw [str_app_len]
          exact Nat.le_trans (Nat.add_le_add (Nat.add_le_add (lc _ _) (Nat.le_of_eq (one_len c))) (lc _ _)) (by decide)
        · rw [str_app_len, str_app_len, one_len]
          have := two (u % ((t.length : Int) + 1) + 1) (by omega)
          omega
      · refine ⟨_, rfl, _, rfl, _, rfl, t, rfl, ll, _, rfl, _, _, rfl, rfl, Nat.le_trans (Nat.add_le_add (lc _ _) (Nat.le_of_eq (one_len c))) (by decide), _, rfl, _, rfl, _, rfl, t, rfl, ll, _, _, rfl, rfl, ?_, fin _ ?_⟩
        · rw [str_app_len]
          exact Nat.le_trans (Nat.add_le_add (Nat.add_le_add (lc _ _) (Nat.le_of_eq (one_len c))) (lc _ _)) (by decide)
        · rw [str_app_len, str_app_len, one_len]
          have := two (u % ((t.length : Int) + 1)) (by omega)
          omega
end
theorem ne_of_none' {H : Hp} {l p : Addr} {n : Nat} (d : Dr H l n) (e : H p = none) : p ≠ l := by
  obtain ⟨_, _, _, h, _⟩ := d
  exact (ne_of_none h e).symm
/-! ### the law's look at a date's words -/
theorem zero_cps : ("0" : Str).cps.toList = [48] := by decide +kernel
theorem emp_cps : Str.empty.cps.toList = [] := by decide +kernel
theorem sz_log' {n : Nat} {i : Int} (h : Sz n i) (h0 : 0 < n := by decide) (hn : n ≤ 1920 := by decide) : i.natAbs.log2 < 1920 := by
  by_cases z : i.natAbs = 0
  · rw [z]
    decide
  · exact Nat.lt_of_lt_of_le ((Nat.log2_lt z).mpr h) hn
theorem ltwo_eq {i : Int} (h0 : 0 ≤ i) : (if decide (i < 10) = true then ("0" : Str) else Str.empty) ++ (Str.ofString (toString i)) = twoF i := by
  refine str_ext ?_
  rw [app_cps, two_cps h0, numT_str]
  by_cases h : i < 10
  · rw [if_pos (by simpa using h), if_pos h, zero_cps]
  · rw [if_neg (by simpa using h), if_neg h, emp_cps]
theorem ls_cps (x : Str) : (Txt.lstripChars x ("0" : Str)).cps.toList = x.cps.toList.dropWhile (fun c => c == 48) := by
  have hg : (("0" : Str).cps.contains : Nat → Bool) = fun c => c == 48 := by
    funext c
    have e : ("0" : Str).cps = #[48] := by decide +kernel
    rw [e]
    by_cases h : c = 48 <;> simp [h]
  unfold Txt.lstripChars
  rw [stripBy_eq, hg]
  show TL.tl (Builtin.Str.strSub x (stripLo (fun c => c == 48) true x) x.length) = _
  rw [TL.tl_strSub_end]
  show (x.cps.toList).drop ((x.cps.toList.takeWhile fun c => c == 48).length) = _
  generalize x.cps.toList = l
  induction l with
  | nil => rfl
  | cons c l ih =>
    rw [List.takeWhile_cons, List.dropWhile_cons]
    by_cases h : (c == 48) = true
    · rw [h, if_pos rfl, if_pos rfl, List.length_cons, List.drop_succ_cons]
      exact ih
    · rw [if_neg h, if_neg h]
      rfl
/-- what is left of a word without its noughts ahead -/
def lsr (w : Str) : Str := Txt.lstripChars w ("0" : Str) ++ (if decide (Txt.lstripChars w ("0" : Str) = ("" : Str)) = true then ("0" : Str) else Str.empty)
theorem num_head {i : Int} (h : 0 < i) : ∃ c l, (numT 10 i).cps.toList = c :: l ∧ c ≠ 48 := by
  have w := wr_num (b := 10) (by decide) (by decide) i
  have e : unm (numT 10 i).cps.toList = (numT 10 i).cps.toList := by
    unfold unm
    rw [(num_ds (b := 10) (by decide) (by decide) i).2, decide_eq_false (by omega)]
    rfl
  have hno := w.no
  have hne := w.ne
  rw [e] at hno hne
  cases hc : (numT 10 i).cps.toList with
  | nil => exact absurd hc hne
  | cons c l =>
    refine ⟨c, l, rfl, fun z => hno ⟨by rw [hc, z]; rfl, fun z2 => ?_⟩⟩
    have e0 : numT 10 i = numT 10 0 := str_ext (by rw [z2]; decide +kernel)
    have := congrArg (nin ((10 : Nat) : Int)) e0
    rw [nin_num (b := 10) (by decide) (by decide), nin_num (b := 10) (by decide) (by decide)] at this
    omega
theorem lsr_two {i : Int} (h : 0 ≤ i) : lsr (twoF i) = numT 10 i := by
  refine str_ext ?_
  unfold lsr
  rw [app_cps]
  have hl : (Txt.lstripChars (twoF i) ("0" : Str)).cps.toList = if i = 0 then [] else (numT 10 i).cps.toList := by
    rw [ls_cps, two_cps h]
    by_cases h0 : i = 0
    · subst h0
      decide +kernel
    · rw [if_neg h0]
      obtain ⟨c, l, e, hc⟩ := num_head (i := i) (by omega)
      rw [e]
      have hb : ¬ (c == 48) = true := by simpa using hc
      split
      · rw [List.singleton_append, List.dropWhile_cons, if_pos (by decide), List.dropWhile_cons, if_neg hb]
      · rw [List.nil_append, List.dropWhile_cons, if_neg hb]
  by_cases h0 : i = 0
  · rw [if_pos h0] at hl
    rw [decide_eq_true (show Txt.lstripChars (twoF i) ("0" : Str) = ("" : Str) from str_ext (by rw [hl]; decide +kernel)), if_pos rfl, hl, h0]
    decide +kernel
  · rw [if_neg h0] at hl
    obtain ⟨c, l, e, hc⟩ := num_head (i := i) (by omega)
    rw [decide_eq_false (fun z => ?_), if_neg (by simp), emp_cps, hl, List.append_nil]
    have z2 : (Txt.lstripChars (twoF i) ("0" : Str)).cps.toList = ("" : Str).cps.toList := by rw [z]
    rw [hl, e] at z2
    exact absurd z2 (by rw [show ("" : Str).cps.toList = [] by decide +kernel]; simp)
theorem lsr_no {w : Str} (h : 45 ∉ w.cps.toList) : 45 ∉ (lsr w).cps.toList := by
  intro z
  unfold lsr at z
  rw [app_cps] at z
  rcases List.mem_append.mp z with z | z
  · rw [ls_cps] at z
    exact h (List.dropWhile_sublist _ |>.subset z)
  · split at z
    · rw [zero_cps] at z
      exact absurd z (by decide)
    · rw [emp_cps] at z
      cases z
theorem neg_has {i : Int} (h : i < 0) : 45 ∈ (numT 10 i).cps.toList := by
  rw [numT_cps, if_pos h]
  simp
theorem two_ge {j : Int} (h : 0 ≤ j) : 2 ≤ (twoF j).length := by
  have hl : (numT 10 j).cps.toList.length = (lsd 10 j.natAbs).length := by
    rw [numT_cps, if_neg (by omega), List.nil_append, List.length_map, List.length_reverse]
  have hp := List.length_pos_iff.mpr (lsd_ne 10 j.natAbs)
  rw [len_cps, two_cps h, List.length_append, hl]
  by_cases c : j < 10
  · rw [if_pos c, List.length_singleton]
    omega
  · rw [if_neg c, lsd_ge (by decide) (show 10 ≤ j.natAbs by omega), List.length_cons]
    have := List.length_pos_iff.mpr (lsd_ne 10 (j.natAbs / 10))
    omega
theorem ls_len (w : Str) : (Txt.lstripChars w ("0" : Str)).length ≤ w.length := len_lstripChars w ("0" : Str)
def spLT : Sp := fun vs H Q _ => ∃ t : Str, vs = [.str t] ∧ t.length ≤ 97 ∧ 45 ∉ t.cps.toList ∧ (∀ i, 0 ≤ i → t = twoF i → ∀ H', Same H H' → Q (.int i) H') ∧ ((∀ i, 0 ≤ i → t ≠ twoF i) → ∀ H', Same H H' → Q .non H')
theorem num_sz {t : Str} {i : Int} (h : t.length ≤ 98) (e : t = numT 10 i) : Sz 400 i := by
  have := nin_z h
  rw [e, nin_num (b := 10) (by decide) (by decide)] at this
  exact this
section
variable {P : Program} {w : World} {K : PySem.W.Frag} {mg : Str → Option Value} {base : Heap}
theorem ok_ltwo (D : Df K mg "_law_two" s_l_two []) (g_int : mg "int" = none) (g_str : mg "str" = none) (g_len : mg "len" = none) (f_l_value : Ca P w K mg base CX0 1 "_law_value" s_l_value [] ["_law_a_text"] spVal) : Ca P w K mg base CX0 2 "_law_two" s_l_two [] ["_law_word"] spLT := by
  refine ca0 (k := 1) D c_l_two (fun vs H Q E h => ?_) fun f cdv A outer s H vs Q E hr h => ?_
  · obtain ⟨t, rfl, _⟩ := h
    rfl
  · obtain ⟨t, rfl, hl, hno, q, qn⟩ := h
    refine ⟨_, (pss_cons (ps_set (i := 1) c_l_two.nd rfl (.inl rfl) (pe_m1 PySem.F.slot_str_lstrip PySem.F.type_str_lstrip mt_lstripChars (pv 0) pe_str))
      (pss_cons (ps_set (i := 2) c_l_two.nd rfl (.inl rfl) (pe_ca f_l_value b_l_value hr (by decide) pass0 rfl (pa_cons (pe_op op_add_str (pv 1) (pe_op op_mulS pe_str (pe_callTy call_int1 rfl g_int (by decide +kernel) (pa_cons (pe_cmpR op_eq (pv 1) pe_str (nomark _)) pa_nil)))) pa_nil)))
      (pss_cons (ps_if (PW.pt (pw_or (pt_cmp (pc_isN (pv 2))) (pw_or (pt_cmpR op_lt (pe_callB call_len_str rfl g_len (by decide +kernel) (pa_cons (pv 0) pa_nil)) pe_int (nomark _)) (pw_or1 (pt_cmpR op_ne (pv 0) (pe_op op_add_str (pe_op op_mulS pe_str (pe_callTy call_int1 rfl g_int (by decide +kernel) (pa_cons (pe_cmpR op_lt (pv 2) pe_int (nomark _)) pa_nil))) (pe_callTy call_str_int rfl g_str (by decide +kernel) (pa_cons (pv 2) pa_nil))) (nomark _)))))) (pss_one (ps_ret pe_non)) pss_nil)
      (pss_one (ps_ret (pv 2)))))), ?_⟩
    have l0 := ls_len t
    refine ⟨_, rfl, ⟨_, rfl⟩, t, ("0" : Str), rfl, rfl, Nat.le_trans hl (by decide), ?_⟩
    have elr : lsr t = Txt.lstripChars t ("0" : Str) ++ (if decide (Txt.lstripChars t ("0" : Str) = ("" : Str)) = true then ("0" : Str) else Str.empty) := rfl
    have lz : (if decide (Txt.lstripChars t ("0" : Str) = ("" : Str)) = true then ("0" : Str) else Str.empty).length ≤ 1 := by split <;> decide +kernel
    have llr : (lsr t).length ≤ 98 := by
      rw [elr]
      exact Nat.le_trans (ap_len l0 lz) (by omega)
    have nolr := lsr_no hno
    refine ⟨_, rfl, _, rfl, rfl, .inr ⟨_, rfl, _, _, rfl, rfl, ?_⟩⟩
    rw [show decide (V.str (Txt.lstripChars t ("0" : Str)) = V.str ("" : Str)) = decide (Txt.lstripChars t ("0" : Str) = ("" : Str)) from by simp]
    refine ⟨_, _, rfl, rfl, Nat.le_trans (Nat.add_le_add l0 lz) (Nat.le_trans (Nat.add_le_add_right hl 1) (by decide)), ?_⟩
    rw [← elr]
    refine ⟨lsr t, rfl, llr, fun i ei H1 s1 => ?_, fun hn H1 s1 => ?_⟩
    · have i0 : 0 ≤ i := Int.not_lt.mp fun z => nolr (by rw [ei]; exact neg_has z)
      have zi := num_sz llr ei
      refine ⟨_, rfl, _, rfl, no' rfl ?_⟩
      refine ⟨_, rfl, t, rfl, Nat.le_trans hl (by decide), _, _, rfl, rfl, _, rfl, ?_⟩
      by_cases h2 : (t.length : Int) < 2
      · rw [decide_eq_true h2]
        refine iteT (iteT (qn (fun j j0 ej => ?_) H1 s1))
        have := two_ge j0
        rw [← ej] at this
        omega
      · rw [decide_eq_false h2]
        refine iteF ?_
        have l1 : (Str.ofString (toString i)).length ≤ 401 := by rw [numT_str]; exact numT_len (by decide) zi
        have l2 : (if decide (i < 10) = true then ("0" : Str) else Str.empty).length ≤ 1 := by split <;> decide +kernel
        refine ⟨_, rfl, _, rfl, _, _, rfl, rfl, .inr ⟨_, rfl, _, _, rfl, rfl, ?_⟩⟩
        refine ⟨_, rfl, i, rfl, sz_log' zi, _, _, rfl, rfl, Nat.le_trans (Nat.add_le_add l2 l1) (by decide), ?_⟩
        rw [ltwo_eq i0]
        refine ⟨rfl, _, rfl, ?_⟩
        by_cases hc : t = twoF i
        · rw [decide_eq_true (congrArg V.str hc)]
          exact iteF ⟨_, rfl, q i i0 hc H1 s1⟩
        · rw [decide_eq_false (fun z => hc (V.str.inj z))]
          refine iteT (qn (fun j j0 ej => hc ?_) H1 s1)
          have : lsr t = numT 10 j := by rw [ej, lsr_two j0]
          have e2 := congrArg (nin ((10 : Nat) : Int)) (ei.symm.trans this)
          rw [nin_num (b := 10) (by decide) (by decide), nin_num (b := 10) (by decide) (by decide)] at e2
          rw [e2]
          exact ej
    · refine ⟨_, rfl, _, rfl, iteT (qn (fun i i0 ei => hn i ?_) H1 s1)⟩
      rw [ei, lsr_two i0]
end
/-! ### the law's date out of a text -/
theorem six_m1 (n d : Nat) : HT.sIx n d (some (-1)) = n - 1 := by
  unfold HT.sIx
  simp
  omega
theorem last_cut (b : Str) : (cutS b (some (-1)) none).cps.toList = b.cps.toList.drop (b.cps.toList.length - 1) := by
  show (((b.cps.toList.drop (HT.sIx b.length 0 (some (-1)))).take (HT.sIx b.length b.length none - HT.sIx b.length 0 (some (-1)))).toArray.toList) = _
  have e1 : HT.sIx b.length b.length none = b.length := rfl
  rw [List.toList_toArray, six_m1, e1, len_cps, List.take_of_length_le]
  rw [List.length_drop]
  exact Nat.le_refl _
theorem init_cut (b : Str) : (cutS b none (some (-1))).cps.toList = b.cps.toList.take (b.cps.toList.length - 1) := by
  show (((b.cps.toList.drop (HT.sIx b.length 0 none)).take (HT.sIx b.length b.length (some (-1)) - HT.sIx b.length 0 none)).toArray.toList) = _
  have e1 : HT.sIx b.length 0 none = 0 := rfl
  rw [List.toList_toArray, six_m1, e1, List.drop_zero, Nat.sub_zero, len_cps]
theorem star_yes (w : Str) : cutS (w ++ ("*" : Str)) (some (-1)) none = ("*" : Str) ∧ cutS (w ++ ("*" : Str)) none (some (-1)) = w := by
  have st : ("*" : Str).cps.toList = [42] := star_tl
  refine ⟨str_ext ?_, str_ext ?_⟩
  · rw [last_cut, app_cps, st, List.length_append, List.length_singleton, Nat.add_sub_cancel, List.drop_left]
  · rw [init_cut, app_cps, st, List.length_append, List.length_singleton, Nat.add_sub_cancel, List.take_left]
theorem star_back {b : Str} (h : cutS b (some (-1)) none = ("*" : Str)) : b = cutS b none (some (-1)) ++ ("*" : Str) := by
  have st : ("*" : Str).cps.toList = [42] := star_tl
  have e := last_cut b
  rw [h, st] at e
  refine str_ext ?_
  rw [app_cps, init_cut, st, e, List.take_append_drop]
theorem star_no {w : Str} (h : 42 ∉ w.cps.toList) : cutS w (some (-1)) none ≠ ("*" : Str) := fun z => h (by
  rw [star_back z, app_cps]
  exact List.mem_append_right _ (by rw [show ("*" : Str).cps.toList = [42] from star_tl]; simp))
theorem star_odd {w : Str} (h : 42 ∉ w.cps.toList) (o : Bool) : decide (cutS (w ++ oddS o) (some (-1)) none = ("*" : Str)) = o ∧ (if o = true then cutS (w ++ oddS o) none (some (-1)) else w ++ oddS o) = w := by
  cases o with
  | true =>
    obtain ⟨h1, h2⟩ := star_yes w
    exact ⟨decide_eq_true h1, by rw [if_pos rfl]; exact h2⟩
  | false =>
    have e : w ++ oddS false = w := app_emp w
    rw [e]
    exact ⟨decide_eq_false (star_no h), if_neg (by simp)⟩
theorem cnt_nn (c : Nat) : ∀ l : List Nat, 0 ≤ cnt c l
  | [] => by rw [cnt_nil]; omega
  | x :: l => by
    rw [cnt_cons]
    have := cnt_nn c l
    split <;> omega
theorem dash_mk : ("-" : Str) = ⟨#[45]⟩ := str_ext (by decide +kernel)
theorem count_d (t : Str) : Txt.count t ("-" : Str) = cnt 45 t.cps.toList := by
  rw [dash_mk]
  exact count_cnt t 45
theorem cnt_d : cnt 45 ("-" : Str).cps.toList = 1 := by
  rw [dash_cps, cnt_cons, cnt_nil]
  rfl
theorem da_count {t : Str} {y n d : Int} {o : Bool} (e : t = daS y n d o) : ¬ Txt.count t ("-" : Str) < 2 := by
  rw [count_d, e, daS_eq, app_cps, app_cps, app_cps, app_cps, cnt_append, cnt_append, cnt_append, cnt_append, cnt_d]
  have h1 := cnt_nn 45 (numT 10 y).cps.toList
  have h2 := cnt_nn 45 (twoF n ++ oddS o).cps.toList
  have h3 := cnt_nn 45 (twoF d).cps.toList
  omega
theorem due_cut {t : Str} (h : ¬ Txt.count t ("-" : Str) < 2) : ∃ a b d : Str, t = a ++ ("-" : Str) ++ b ++ ("-" : Str) ++ d ∧ 45 ∉ b.cps.toList ∧ 45 ∉ d.cps.toList := by
  rw [count_d] at h
  rcases rpart_cases dash_tl t with ⟨_, hn⟩ | ⟨r, d, _, ht, hd⟩
  · rw [cnt_none 45 _ hn] at h
    omega
  rw [ht, app_cps, app_cps, cnt_append, cnt_append, cnt_d, cnt_none 45 _ hd] at h
  rcases rpart_cases dash_tl r with ⟨_, hn⟩ | ⟨a, b, _, hr, hb⟩
  · rw [cnt_none 45 _ hn] at h
    omega
  exact ⟨a, b, d, by rw [ht, hr], hb, hd⟩
theorem da_parts {a b c : Str} {y n d : Int} {o : Bool} (hb : 45 ∉ b.cps.toList) (hc : 45 ∉ c.cps.toList) (hn : 0 ≤ n) (hd : 0 ≤ d) (e : a ++ ("-" : Str) ++ b ++ ("-" : Str) ++ c = daS y n d o) : a = numT 10 y ∧ b = twoF n ++ oddS o ∧ c = twoF d := by
  rw [daS_eq] at e
  obtain ⟨e1, e2⟩ := cutd e hc (two_no hd).1
  obtain ⟨e3, e4⟩ := cutd e1 hb (mid_no (two_no hn).1 o)
  exact ⟨e3, e4, e2⟩
def spDue74 : Sp := fun vs H Q _ => ∃ t : Str, vs = [.str t] ∧ t.length ≤ 97 ∧ (∀ y n d o, 0 ≤ n → 0 ≤ d → t = daS y n d o → ∀ p H', Same H H' → H' p = some (.tup [.int y, .int n, .int d, .bl o]) → Q (.ref p) H') ∧ ((∀ y n d o, 0 ≤ n → 0 ≤ d → t ≠ daS y n d o) → ∀ H', Same H H' → Q .non H')
theorem val_any {t : Str} {H : Hp} {Q : VK} {E : XK} (hl : t.length ≤ 98) (k : ∀ v H', Same H H' → ((∃ i, v = .int i ∧ t = numT 10 i) ∨ (v = .non ∧ ∀ i, t ≠ numT 10 i)) → Q v H') : spVal ([.str t] ++ []) H Q E := ⟨t, rfl, hl, fun i e H' s => k _ H' s (.inl ⟨i, rfl, e⟩), fun hn H' s => k _ H' s (.inr ⟨rfl, hn⟩)⟩
theorem two_any {t : Str} {H : Hp} {Q : VK} {E : XK} (hl : t.length ≤ 97) (hno : 45 ∉ t.cps.toList) (k : ∀ v H', Same H H' → ((∃ i, v = .int i ∧ 0 ≤ i ∧ t = twoF i) ∨ (v = .non ∧ ∀ i, 0 ≤ i → t ≠ twoF i)) → Q v H') : spLT ([.str t] ++ []) H Q E := ⟨t, rfl, hl, hno, fun i i0 e H' s => k _ H' s (.inl ⟨i, rfl, i0, e⟩), fun hn H' s => k _ H' s (.inr ⟨rfl, hn⟩)⟩
section
variable {P : Program} {w : World} {K : PySem.W.Frag} {mg : Str → Option Value} {base : Heap}
theorem ok_ldue74 (D : Df K mg "_law_due" s_l_due []) (f_l_value : Ca P w K mg base CX0 1 "_law_value" s_l_value [] ["_law_a_text"] spVal) (f_l_two : Ca P w K mg base CX0 2 "_law_two" s_l_two [] ["_law_word"] spLT) : Ca P w K mg base CX0 3 "_law_due" s_l_due [] ["_law_a_text"] spDue74 := by
  refine ca0 (k := 2) D c_l_due (fun vs H Q E h => ?_) fun f cdv A outer s H vs Q E hr h => ?_
  · obtain ⟨t, rfl, _⟩ := h
    rfl
  · obtain ⟨t, rfl, hl, q, qn⟩ := h
    refine ⟨_, (pss_cons (ps_if (pt_cmpR op_lt (pe_m1 PySem.F.slot_str_count PySem.F.type_str_count mt_count (pv 0) pe_str) pe_int (nomark _)) (pss_one (ps_ret pe_non)) pss_nil)
      (pss_cons (ps_set (i := 1) c_l_due.nd rfl (.inl rfl) (pe_bm PySem.F.plainAttrs_str PySem.F.slot_str_rsplit PySem.F.type_str_rsplit mt_rsplit2 (pv 0) (pa_cons pe_str (pa_cons pe_int pa_nil))))
      (pss_cons (ps_set (i := 2) c_l_due.nd rfl (.inl rfl) (pe_cmpR op_eq (pe_slice sl_str (pe_ix ix_list (pv 1) pe_int (fun _ _ => rfl)) (po_some (pe_un un_neg pe_int)) po_none) pe_str (nomark _)))
      (pss_cons (ps_set (i := 3) c_l_due.nd rfl (.inl rfl) (pe_ix ix_list (pv 1) pe_int (fun _ _ => rfl)))
      (C8.pss_cut (ps_if (pt_val (pv 2)) (pss_one (ps_set (i := 3) c_l_due.nd rfl (.inl rfl) (pe_slice sl_str (pv 3) po_none (po_some (pe_un un_neg pe_int))))) pss_nil)
      (pss_cons (ps_set (i := 4) c_l_due.nd rfl (.inl rfl) (pe_lst (pa_cons (pe_ca f_l_value b_l_value hr (by decide) pass0 rfl (pa_cons (pe_ix ix_list (pv 1) pe_int (fun _ _ => rfl)) pa_nil)) (pa_cons (pe_ca f_l_two b_l_two hr (by decide) pass0 rfl (pa_cons (pv 3) pa_nil)) (pa_cons (pe_ca f_l_two b_l_two hr (by decide) pass0 rfl (pa_cons (pe_ix ix_list (pv 1) pe_int (fun _ _ => rfl)) pa_nil)) pa_nil)))))
      (pss_cons (ps_if (pt_cmpR op_in_seq pe_non (pv 4) rfl) (pss_one (ps_ret pe_non)) pss_nil)
      (pss_one (ps_ret (pe_tup (pa_cons (pe_ix ix_list (pv 4) pe_int (fun _ _ => rfl)) (pa_cons (pe_ix ix_list (pv 4) pe_int (fun _ _ => rfl)) (pa_cons (pe_ix ix_list (pv 4) pe_int (fun _ _ => rfl)) (pa_cons (pv 2) pa_nil)))))))))))))), ?_⟩
    refine ⟨_, rfl, ⟨_, rfl⟩, t, ("-" : Str), rfl, rfl, _, _, rfl, rfl, _, rfl, ?_⟩
    by_cases hc : Txt.count t ("-" : Str) < 2
    · rw [decide_eq_true hc]
      exact iteT (qn (fun y n d o _ _ e => da_count e hc) H (Same.refl _))
    rw [decide_eq_false hc]
    refine iteF ?_
    obtain ⟨a, b, c, ht, hb, hcc⟩ := due_cut hc
    have hcut : Txt.rsplitMax t ("-" : Str) 2 = [a, b, c] := by
      rw [ht]
      exact rsplit_two dash_tl (by decide +kernel) hb hcc
    have la : a.length ≤ 97 ∧ b.length ≤ 97 ∧ c.length ≤ 97 := by
      rw [ht] at hl
      have h1 := str_app_len (a ++ ("-" : Str) ++ b ++ ("-" : Str)) c
      have h2 := str_app_len (a ++ ("-" : Str) ++ b) ("-" : Str)
      have h3 := str_app_len (a ++ ("-" : Str)) b
      have h4 := str_app_len a ("-" : Str)
      omega
    refine ⟨_, rfl, rfl, t, ("-" : Str), 2, rfl, rfl, rfl, (by decide), Nat.le_trans (Nat.add_le_add_right hl 2) (by decide), ?_⟩
    rw [hcut]
    intro L nL
    have s1 := Same.new (o := .lst [.str a, .str b, .str c]) nL
    have eL := upd_same (H := H) (a := L) (o := .lst [.str a, .str b, .str c])
    generalize hH1 : L2.upd H L _ = H1
    have s1 : Same H H1 := by rw [← hH1]; exact s1
    have eL : H1 L = some (.lst [.str a, .str b, .str c]) := by rw [← hH1]; exact eL
    refine ⟨_, rfl, L, _, _, _, rfl, rfl, SqL.of eL, rfl, ?_⟩
    refine ⟨_, rfl, _, rfl, b, rfl, Nat.le_trans la.2.1 (by decide), rfl, ?_⟩
    refine ⟨_, rfl, L, _, _, _, rfl, rfl, SqL.of eL, rfl, ?_⟩
    have eo : decide (V.str (cutS b (some (-1)) none) = V.str ("*" : Str)) = decide (cutS b (some (-1)) none = ("*" : Str)) := by
      by_cases z : cutS b (some (-1)) none = ("*" : Str)
      · rw [decide_eq_true z, decide_eq_true (congrArg V.str z)]
      · rw [decide_eq_false z, decide_eq_false (fun w => z (V.str.inj w))]
    obtain ⟨o, ho⟩ : ∃ o, decide (cutS b (some (-1)) none = ("*" : Str)) = o := ⟨_, rfl⟩
    obtain ⟨mid, hm⟩ : ∃ m : Str, (if o = true then cutS b none (some (-1)) else b) = m := ⟨_, rfl⟩
    have bm : b = mid ++ oddS o := by
      rw [← hm]
      cases o with
      | true =>
        rw [if_pos rfl]
        exact star_back (of_decide_eq_true ho)
      | false =>
        rw [if_neg (by simp)]
        exact (app_emp b).symm
    have lm : mid.length ≤ 97 := by
      rw [← hm]
      split
      · exact Nat.le_trans (cutS_len b none (some (-1))) la.2.1
      · exact la.2.1
    have nm : 45 ∉ mid.cps.toList := fun z => hb (by rw [bm, app_cps]; exact List.mem_append_left _ z)
    refine ⟨fun σ' H' => σ' = [some (.str t), some (.ref L), some (.bl o), some (.str mid), none] ∧ H' = H1, ?_, ?_⟩
    · rw [eo, ho]
      refine ⟨_, rfl, _, rfl, ?_⟩
      cases o with
      | true =>
        rw [if_pos rfl] at hm
        refine iteT ⟨_, rfl, _, rfl, _, rfl, b, rfl, Nat.le_trans la.2.1 (by decide), ?_, rfl⟩
        rw [← hm]
        rfl
      | false =>
        rw [if_neg (by simp)] at hm
        refine iteF ⟨?_, rfl⟩
        rw [← hm]
        rfl
    rintro σ' H' ⟨rfl, rfl⟩
    have parts : ∀ y n d o', 0 ≤ n → 0 ≤ d → t = daS y n d o' → a = numT 10 y ∧ mid = twoF n ∧ c = twoF d ∧ o' = o := fun y n d o' hn hd e => by
      obtain ⟨e1, e2, e3⟩ := da_parts hb hcc hn hd (ht.symm.trans e)
      obtain ⟨f1, f2⟩ := star_odd (two_no hn).2 o'
      rw [← e2] at f1 f2
      have eoo : o' = o := f1.symm.trans ho
      subst eoo
      exact ⟨e1, hm.symm.trans f2, e3, rfl⟩
    refine ⟨_, rfl, L, _, _, _, rfl, rfl, SqL.of eL, rfl, ?_⟩
    dsimp only [tNil]
    refine val_any (Nat.le_trans la.1 (by decide)) fun v1 H2 s2 h1 => ?_
    refine ⟨_, rfl, ?_⟩
    dsimp only [tNil]
    refine two_any lm nm fun v2 H3 s3 h2 => ?_
    refine ⟨_, rfl, L, _, _, _, rfl, rfl, SqL.of (s3 _ _ (s2 _ _ eL)), rfl, ?_⟩
    dsimp only [tNil]
    refine two_any la.2.2 hcc fun v3 H4 s4 h3 => ?_
    refine ⟨ln _, fun p np => ?_⟩
    have s5 := Same.new (o := .lst [v1, v2, v3]) np
    have s05 := s1.trans (s2.trans (s3.trans (s4.trans s5)))
    have ep := upd_same (H := H4) (a := p) (o := .lst [v1, v2, v3])
    generalize L2.upd H4 p _ = H5 at *
    by_cases hall : (∃ y n d, v1 = .int y ∧ v2 = .int n ∧ v3 = .int d ∧ a = numT 10 y ∧ 0 ≤ n ∧ mid = twoF n ∧ 0 ≤ d ∧ c = twoF d)
    · obtain ⟨y, n, d, rfl, rfl, rfl, e1, n0, e2, d0, e3⟩ := hall
      refine ⟨_, rfl, p, _, rfl, .inl (SqL.of ep), rfl, rfl, _, rfl, no' rfl ?_⟩
      refine ⟨_, rfl, p, _, _, _, rfl, rfl, SqL.of ep, rfl, _, rfl, p, _, _, _, rfl, rfl, SqL.of ep, rfl, _, rfl, p, _, _, _, rfl, rfl, SqL.of ep, rfl, _, rfl, ln _, fun pt nt => ?_⟩
      refine q y n d o n0 d0 ?_ pt _ (s05.trans (Same.new nt)) upd_same
      rw [ht, bm, e1, e2, e3, daS_eq]
    · have hin : inV .non [v1, v2, v3] = true ∧ flatV v1 = true ∧ flatV v2 = true ∧ flatV v3 = true := by
        rcases h1 with ⟨y, rfl, e1⟩ | ⟨rfl, e1⟩ <;> rcases h2 with ⟨n, rfl, n0, e2⟩ | ⟨rfl, e2⟩ <;> rcases h3 with ⟨d, rfl, d0, e3⟩ | ⟨rfl, e3⟩
        · exact absurd ⟨y, n, d, rfl, rfl, rfl, e1, n0, e2, d0, e3⟩ hall
        all_goals exact ⟨rfl, rfl, rfl, rfl⟩
      refine ⟨_, rfl, p, _, rfl, .inl (SqL.of ep), rfl, ?_, _, rfl, ?_⟩
      · show (flatV v1 && (flatV v2 && (flatV v3 && true))) = true
        rw [hin.2.1, hin.2.2.1, hin.2.2.2]
        rfl
      · rw [hin.1]
        refine iteT (qn (fun y n d o' hn hd e => hall ?_) _ s05)
        obtain ⟨e1, e2, e3, _⟩ := parts y n d o' hn hd e
        rcases h1 with ⟨y', rfl, e1'⟩ | ⟨rfl, e1'⟩
        · rcases h2 with ⟨n', rfl, n0, e2'⟩ | ⟨rfl, e2'⟩
          · rcases h3 with ⟨d', rfl, d0, e3'⟩ | ⟨rfl, e3'⟩
            · exact ⟨y', n', d', rfl, rfl, rfl, e1', n0, e2', d0, e3'⟩
            · exact absurd e3 (e3' d hd)
          · exact absurd e2 (e2' n hn)
        · exact absurd e1 (e1' y)
end
/-! ### the law's texts of dates -/
theorem lsd_len10 : ∀ (k n : Nat), n < 10 ^ k → 0 < k → (lsd 10 n).length ≤ k := fun k => by
  induction k with
  | zero => intro n h h0; omega
  | succ k ih =>
    intro n h h0
    by_cases hn : n < 10
    · rw [lsd_lt hn]
      simp
    · rw [lsd_ge (by decide) (by omega), List.length_cons]
      have h2 : n / 10 < 10 ^ k := by rw [Nat.pow_succ] at h; omega
      by_cases hk : 0 < k
      · have := ih (n / 10) h2 hk
        omega
      · have e0 : k = 0 := by omega
        subst e0
        have h3 : n / 10 < 1 := h2
        omega
theorem numT_len10 {i : Int} {k : Nat} (h : i.natAbs < 10 ^ k) (h0 : 0 < k := by decide) : (numT 10 i).length ≤ k + 1 := by
  have h1 := lsd_len10 k i.natAbs h h0
  unfold numT
  split
  · rw [dash_txt_len, List.length_reverse]
    omega
  · rw [txt_len, List.length_reverse]
    omega
def spFld : Sp := fun vs H Q _ => ∃ (l : Addr) (k : Nat), vs = [.ref l] ∧ Dr H l k ∧ k ≤ 900 ∧ ∀ r y n d o H', y.natAbs < 10 ^ 20 → 0 ≤ n → n.natAbs < 10 ^ 19 → 0 ≤ d → d.natAbs < 10 ^ 20 → But l H H' → Dr H' l (k + 3) → H' r = some (.tup [.int y, .int n, .int d, .bl o]) → Q (.ref r) H'
def spText74 : Sp := fun vs H Q _ => ∃ (r : Addr) (y n d : Int) (o : Bool), vs = [.ref r] ∧ H r = some (.tup [.int y, .int n, .int d, .bl o]) ∧ y.natAbs < 10 ^ 20 ∧ n.natAbs < 10 ^ 19 ∧ d.natAbs < 10 ^ 20 ∧ ∀ (z : Str) (H' : Hp), z.length ≤ 75 → Same H H' → Q (.str z) H'
def spWr74 : Sp := fun vs H Q _ => ∃ (l r : Addr) (k : Nat) (y n d : Int) (o : Bool), vs = [.ref l, .ref r] ∧ Dr H l k ∧ k ≤ 900 ∧ H r = some (.tup [.int y, .int n, .int d, .bl o]) ∧ y.natAbs < 10 ^ 20 ∧ n.natAbs < 10 ^ 19 ∧ d.natAbs < 10 ^ 20 ∧ ∀ (z : Str) (H' : Hp), z.length ≤ 97 → But l H H' → Dr H' l (k + 7) → Q (.str z) H'
theorem ten_sz {i : Int} (h : i.natAbs < 10 ^ 20) : Sz 70 i := Nat.lt_of_lt_of_le h (by decide)
theorem ten_len {i : Int} {k : Nat} (h : i.natAbs < 10 ^ k) (h0 : 0 < k := by decide) : (Str.ofString (toString i)).length ≤ k + 1 := by
  rw [numT_str]
  exact numT_len10 h h0
theorem ite_len (b : Bool) {s : Str} (h : s.length = 1) : (if b = true then s else Str.empty).length ≤ 1 := by
  cases b with
  | true => rw [if_pos rfl, h]; exact Nat.le_refl _
  | false => rw [if_neg (by simp)]; exact Nat.zero_le _
section
variable {P : Program} {w : World} {K : PySem.W.Frag} {mg : Str → Option Value} {base : Heap}
theorem ok_ltext74 (D : Df K mg "_law_text" s_l_text []) (g_int : mg "int" = none) (g_str : mg "str" = none) : Ca P w K mg base CX0 1 "_law_text" s_l_text [] ["_law_fields_here"] spText74 := by
  refine ca0 (k := 0) D c_l_text (fun vs H Q E h => ?_) fun f cdv A outer s H vs Q E hr h => ?_
  · obtain ⟨r, y, n, d, o, rfl, _⟩ := h
    rfl
  · obtain ⟨r, y, n, d, o, rfl, er, hy, hn, hd, q⟩ := h
    refine ⟨_, (pss_cons (ps_asg (pv 0) (pg_tup rfl (pgs_cons (pg_name (i := 1) c_l_text.nd rfl (.inl rfl)) (pgs_cons (pg_name (i := 2) c_l_text.nd rfl (.inl rfl)) (pgs_cons (pg_name (i := 3) c_l_text.nd rfl (.inl rfl)) (pgs_cons (pg_name (i := 4) c_l_text.nd rfl (.inl rfl)) pgs_nil))))))
      (pss_cons (ps_set (i := 5) c_l_text.nd rfl (.inl rfl) (pe_lst (pa_cons (pe_callTy call_str_int rfl g_str (by decide +kernel) (pa_cons (pv 1) pa_nil)) (pa_cons (pe_op op_add_str (pe_op op_add_str (pe_op op_mulS pe_str (pe_callTy call_int1 rfl g_int (by decide +kernel) (pa_cons (pe_cmpR op_lt (pv 2) pe_int (nomark _)) pa_nil))) (pe_callTy call_str_int rfl g_str (by decide +kernel) (pa_cons (pv 2) pa_nil))) (pe_op op_mulS pe_str (pe_callTy call_int1 rfl g_int (by decide +kernel) (pa_cons (pv 4) pa_nil)))) (pa_cons (pe_op op_add_str (pe_op op_mulS pe_str (pe_callTy call_int1 rfl g_int (by decide +kernel) (pa_cons (pe_cmpR op_lt (pv 3) pe_int (nomark _)) pa_nil))) (pe_callTy call_str_int rfl g_str (by decide +kernel) (pa_cons (pv 3) pa_nil))) pa_nil)))))
      (pss_one (ps_ret (pe_m1 PySem.F.slot_str_join PySem.F.type_str_join mt_join pe_str (pv 5)))))), ?_⟩
    have zz : ("0" : Str).length = 1 := by decide +kernel
    have zs : ("*" : Str).length = 1 := by decide +kernel
    have ly := ten_len hy
    have lnn := ten_len hn
    have ldd := ten_len hd
    have sy := sz_log' (ten_sz hy)
    have sn := sz_log' (ten_sz (Nat.lt_of_lt_of_le hn (by decide)))
    have sd := sz_log' (ten_sz hd)
    have z1 := ite_len (decide (n < 10)) zz
    have z2 := ite_len (decide (d < 10)) zz
    have z3 := ite_len o zs
    have a1 := ap_len z1 lnn
    have a2 := ap_len a1 z3
    have a3 := ap_len z2 ldd
    refine ⟨_, rfl, r, _, rfl, SqT.of er, rfl, _, _, rfl, _, _, rfl, _, _, rfl, _, _, rfl, rfl, ?_⟩
    refine ⟨_, rfl, y, rfl, sy, ?_⟩
    refine ⟨_, rfl, _, _, rfl, rfl, .inr ⟨_, rfl, _, _, rfl, rfl, ?_⟩⟩
    refine ⟨_, rfl, n, rfl, sn, _, _, rfl, rfl, Nat.le_trans (Nat.add_le_add z1 lnn) (by decide), ?_⟩
    refine ⟨_, rfl, .inr ⟨_, rfl, _, _, rfl, rfl, _, _, rfl, rfl, Nat.le_trans (Nat.add_le_add a1 z3) (by decide), ?_⟩⟩
    refine ⟨_, rfl, _, _, rfl, rfl, .inr ⟨_, rfl, _, _, rfl, rfl, ?_⟩⟩
    refine ⟨_, rfl, d, rfl, sd, _, _, rfl, rfl, Nat.le_trans (Nat.add_le_add z2 ldd) (by decide), ?_⟩
    generalize Str.ofString (toString y) = t1 at *
    generalize (if decide (n < 10) = true then ("0" : Str) else Str.empty) ++ Str.ofString (toString n) ++ (if o = true then ("*" : Str) else Str.empty) = t2 at *
    generalize (if decide (d < 10) = true then ("0" : Str) else Str.empty) ++ Str.ofString (toString d) = t3 at *
    refine ⟨ln _, fun p np => ?_⟩
    have sp' := Same.new (o := .lst [.str t1, .str t2, .str t3]) np
    have dl : ("-" : Str).length = 1 := dash_len
    refine ⟨⟨_, rfl⟩, _, rfl, _, p, [t1, t2, t3], rfl, rfl, .inl (SqL.of upd_same), ?_, ?_⟩
    · show t1.length + (t2.length + (t3.length + 0)) + 3 * ("-" : Str).length ≤ 16777216
      omega
    · refine q _ _ ?_ sp'
      have e : Txt.join ("-" : Str) [t1, t2, t3] = t1 ++ ("-" : Str) ++ t2 ++ ("-" : Str) ++ t3 := by
        refine str_ext ?_
        show ((t1.cps ++ ("-" : Str).cps ++ t2.cps) ++ ("-" : Str).cps ++ t3.cps).toList = _
        simp only [app_cps, Array.toList_append]
      rw [e]
      exact Nat.le_trans (ap_len (ap_len (ap_len (ap_len ly (Nat.le_of_eq dl)) a2) (Nat.le_of_eq dl)) a3) (by decide)
end
/-! ### the law's dates drawn -/
theorem pickI {xs : List Int} {z : Int} {P : Int → Prop} (h0 : 0 ≤ z) (h1 : z < xs.length) (h : ∀ x ∈ xs, P x) : ∃ v, atI (xs.map V.int) z = some (.int v) ∧ P v := by
  obtain ⟨v, e, i, rfl, p⟩ := pick (P := fun x => ∃ i : Int, x = V.int i ∧ P i) (xs := xs.map V.int) h0 (by rw [List.length_map]; exact h1) (by
    intro x hx
    obtain ⟨i, hi, rfl⟩ := List.mem_map.mp hx
    exact ⟨i, rfl, h i hi⟩)
  exact ⟨i, e, p⟩
section
variable {P : Program} {w : World} {K : PySem.W.Frag} {mg : Str → Option Value} {base : Heap}
theorem ok_lfields74 (D : Df K mg "_law_fields" s_l_fields []) (f_l_next : Ca P w K mg base CX0 1 "_law_next" s_l_next [] ["_law_draws_here"] spNext) : Ca P w K mg base CX0 2 "_law_fields" s_l_fields [] ["_law_draws_here"] spFld := by
  refine ca0 (k := 1) D c_l_fields (fun vs H Q E h => ?_) fun f cdv A outer s H vs Q E hr h => ?_
  · obtain ⟨l, k, rfl, _⟩ := h
    rfl
  · obtain ⟨l, k, rfl, d0, hk, q⟩ := h
    refine ⟨_, (pss_cons (ps_set (i := 1) c_l_fields.nd rfl (.inl rfl) (pe_ca f_l_next b_l_next hr (by decide) pass0 rfl (pa_cons (pv 0) pa_nil)))
      (pss_cons (ps_set (i := 2) c_l_fields.nd rfl (.inl rfl) (pe_op op_mul (pe_ix ix_list (pe_lst (pa_cons (pe_op op_mod (pe_op op_fdiv (pv 1) pe_int) pe_int) (pa_cons pe_int (pa_cons (pe_op op_sub (pe_op op_sub (pe_op op_pow pe_int pe_int) pe_int) (pv 1)) (pa_cons (pe_op op_fdiv (pv 1) pe_int) pa_nil))))) (pe_op op_mod (pv 1) pe_int) (fun _ _ => rfl)) (pe_ix ix_list (pe_lst (pa_cons pe_int (pa_cons (pe_op op_sub pe_int pe_int) pa_nil))) (pe_op op_mod (pe_op op_fdiv (pv 1) pe_int) pe_int) (fun _ _ => rfl))))
      (pss_cons (ps_set (i := 1) c_l_fields.nd rfl (.inl rfl) (pe_ca f_l_next b_l_next hr (by decide) pass0 rfl (pa_cons (pv 0) pa_nil)))
      (pss_cons (ps_set (i := 3) c_l_fields.nd rfl (.inl rfl) (pe_ix ix_list (pe_lst (pa_cons (pe_op op_add pe_int (pe_op op_mod (pe_op op_fdiv (pv 1) pe_int) pe_int)) (pa_cons (pe_op op_mod (pe_op op_fdiv (pv 1) pe_int) pe_int) (pa_cons (pe_op op_mul (pv 1) (pe_op op_pow pe_int pe_int)) pa_nil)))) (pe_op op_fdiv (pe_op op_mod (pv 1) pe_int) pe_int) (fun _ _ => rfl)))
      (pss_cons (ps_set (i := 4) c_l_fields.nd rfl (.inl rfl) (pe_ix ix_list (pe_lst (pa_cons (pe_op op_add pe_int (pe_op op_mod (pe_op op_fdiv (pv 1) pe_int) pe_int)) (pa_cons (pe_op op_mod (pe_op op_fdiv (pv 1) pe_int) pe_int) (pa_cons (pe_op op_add (pe_op op_mul (pv 1) (pe_op op_pow pe_int pe_int)) pe_int) pa_nil)))) (pe_op op_fdiv (pe_op op_mod (pe_op op_fdiv (pv 1) pe_int) pe_int) pe_int) (fun _ _ => rfl)))
      (pss_one (ps_ret (pe_tup (pa_cons (pv 2) (pa_cons (pv 3) (pa_cons (pv 4) (pa_cons (pe_cmpR op_eq (pe_op op_mod (pe_ca f_l_next b_l_next hr (by decide) pass0 rfl (pa_cons (pv 0) pa_nil)) pe_int) pe_int (nomark _)) pa_nil)))))))))))), ?_⟩
    have e20 : (10 : Int) ^ (20 : Int).toNat = 100000000000000000000 := by decide
    have e9 : (10 : Int) ^ (9 : Int).toNat = 1000000000 := by decide
    have e10 : (10 : Int) ^ (10 : Int).toNat = 10000000000 := by decide
    have t20 : (10 : Nat) ^ 20 = 100000000000000000000 := by decide
    have t19 : (10 : Nat) ^ 19 = 10000000000000000000 := by decide
    refine ⟨_, rfl, l, k, rfl, d0, by omega, fun v H1 v0 v1 b1 d1 => ?_⟩
    repeat (first | refine ⟨_, rfl, ?_⟩ | refine ⟨_, _, rfl, rfl, md, ?_⟩ | refine ⟨_, _, rfl, rfl, ⟨by decide, by decide⟩, ?_⟩ | refine ⟨_, _, rfl, rfl, ⟨by decide, by decide, by decide⟩, ?_⟩ | refine ⟨_, _, rfl, rfl, .inr ⟨by decide, by decide⟩, ?_⟩ | refine ⟨_, _, rfl, rfl, ?_⟩)
    refine ⟨ln _, fun pa na => ?_⟩
    obtain ⟨m1, hm1, zm1⟩ := pickI (xs := [v / 8 % 4000, 0, 10 ^ (20 : Int).toNat - 1 - v, v / 8]) (P := fun j => j.natAbs < 10 ^ 20) (md0 v (j := 4)) (md1 v (j := 4)) (by
      rw [e20, t20]
      intro z hz
      simp only [List.mem_cons, List.not_mem_nil, or_false] at hz
      rcases hz with rfl | rfl | rfl | rfl <;> omega)
    have sA := Same.new (o := .lst ([v / 8 % 4000, 0, 10 ^ (20 : Int).toNat - 1 - v, v / 8].map V.int)) na
    refine ⟨_, rfl, _, _, rfl, rfl, md, pa, _, _, _, rfl, rfl, SqL.of upd_same, hm1, ?_⟩
    refine ⟨_, _, rfl, rfl, ln _, fun pb nb => ?_⟩
    have sB := sA.trans (Same.new (o := .lst ([1, 0 - 1].map V.int)) nb)
    obtain ⟨m2, hm2, zm2⟩ := pickI (xs := [1, 0 - 1]) (P := fun j => j = 1 ∨ j = -1) (md0 (v / 4) (j := 2)) (md1 (v / 4) (j := 2)) (by
      intro z hz
      simp only [List.mem_cons, List.not_mem_nil, or_false] at hz
      rcases hz with rfl | rfl
      · exact .inl rfl
      · exact .inr rfl)
    have zy : (m1 * m2).natAbs < 10 ^ 20 := by
      rcases zm2 with rfl | rfl
      · rw [Int.mul_one]; exact zm1
      · rw [Int.mul_neg, Int.mul_one, Int.natAbs_neg]; exact zm1
    refine ⟨_, rfl, _, _, rfl, rfl, ⟨by decide, by decide⟩, _, _, rfl, rfl, md, pb, _, _, _, rfl, rfl, SqL.of upd_same, hm2, _, _, rfl, rfl, (.inr (by rcases zm2 with rfl | rfl <;> decide)), ?_⟩
    have dB := d1.same sB (Nat.le_refl _)
    refine ⟨_, rfl, l, _, rfl, dB, by omega, fun u H2 u0 u1 b2 d2 => ?_⟩
    have b02 : But l H H2 := (b1.trans (But.same sB)).trans b2
    repeat (first | refine ⟨_, rfl, ?_⟩ | refine ⟨_, _, rfl, rfl, md, ?_⟩ | refine ⟨_, _, rfl, rfl, ⟨by decide, by decide⟩, ?_⟩ | refine ⟨_, _, rfl, rfl, ⟨by decide, by decide, by decide⟩, ?_⟩ | refine ⟨_, _, rfl, rfl, .inr ⟨by decide, by decide⟩, ?_⟩ | refine ⟨_, _, rfl, rfl, ?_⟩)
    refine ⟨ln _, fun pc nc => ?_⟩
    obtain ⟨n, hn, zn0, zn⟩ := pickI (xs := [1 + u / 8 % 12, u / 8 % 120, u * 10 ^ (9 : Int).toNat]) (P := fun j => 0 ≤ j ∧ j.natAbs < 10 ^ 19) (z := u % 8 / 3) (by omega) (by show u % 8 / 3 < 3; omega) (by
      rw [e9, t19]
      intro z hz
      simp only [List.mem_cons, List.not_mem_nil, or_false] at hz
      rcases hz with rfl | rfl | rfl <;> omega)
    have sC := Same.new (o := .lst ([1 + u / 8 % 12, u / 8 % 120, u * 10 ^ (9 : Int).toNat].map V.int)) nc
    refine ⟨_, rfl, _, _, rfl, rfl, md, _, _, rfl, rfl, ⟨by decide, by decide⟩, pc, _, _, _, rfl, rfl, SqL.of upd_same, hn, ?_⟩
    repeat (first | refine ⟨_, rfl, ?_⟩ | refine ⟨_, _, rfl, rfl, md, ?_⟩ | refine ⟨_, _, rfl, rfl, ⟨by decide, by decide⟩, ?_⟩ | refine ⟨_, _, rfl, rfl, ⟨by decide, by decide, by decide⟩, ?_⟩ | refine ⟨_, _, rfl, rfl, .inr ⟨by decide, by decide⟩, ?_⟩ | refine ⟨_, _, rfl, rfl, ?_⟩)
    refine ⟨ln _, fun pd nd => ?_⟩
    obtain ⟨d, hd, zd0, zd⟩ := pickI (xs := [1 + u / 100 % 30, u / 100 % 120, u * 10 ^ (10 : Int).toNat + 7]) (P := fun j => 0 ≤ j ∧ j.natAbs < 10 ^ 20) (z := u / 8 % 8 / 3) (by omega) (by show u / 8 % 8 / 3 < 3; omega) (by
      rw [e10, t20]
      intro z hz
      simp only [List.mem_cons, List.not_mem_nil, or_false] at hz
      rcases hz with rfl | rfl | rfl <;> omega)
    have sD := sC.trans (Same.new (o := .lst ([1 + u / 100 % 30, u / 100 % 120, u * 10 ^ (10 : Int).toNat + 7].map V.int)) nd)
    refine ⟨_, rfl, _, _, rfl, rfl, ⟨by decide, by decide⟩, _, _, rfl, rfl, md, _, _, rfl, rfl, ⟨by decide, by decide⟩, pd, _, _, _, rfl, rfl, SqL.of upd_same, hd, ?_⟩
    have dD := d2.same sD (Nat.le_refl _)
    refine ⟨_, rfl, _, rfl, _, rfl, _, rfl, l, _, rfl, dD, by omega, fun x H3 x0 x1 b3 d3 => ⟨_, _, rfl, rfl, md, rfl, ln _, fun r nr => ?_⟩⟩
    have s4 := Same.new (o := .tup [.int (m1 * m2), .int n, .int d, .bl (decide (V.int (x % 3) = V.int 1))]) nr
    have b04 : But l H H3 := (b02.trans (But.same sD)).trans b3
    refine q r (m1 * m2) n d _ _ zy zn0 zn zd0 zd (b04.trans (But.same s4)) ((d3.same s4 (Nat.le_refl _)).mono (by omega)) upd_same
theorem ok_lwritten74 (D : Df K mg "_law_written" s_l_written []) (f_l_next : Ca P w K mg base CX0 1 "_law_next" s_l_next [] ["_law_draws_here"] spNext) (f_l_text : Ca P w K mg base CX0 1 "_law_text" s_l_text [] ["_law_fields_here"] spText74) (f_l_bent : Ca P w K mg base CX0 2 "_law_bent" s_l_bent [] ["_law_draws_here", "_law_a_text", "_law_signs"] spBentS) : Ca P w K mg base CX0 3 "_law_written" s_l_written [] ["_law_draws_here", "_law_fields_here"] spWr74 := by
  refine ca0 (k := 2) D c_l_written (fun vs H Q E h => ?_) fun f cdv A outer s H vs Q E hr h => ?_
  · obtain ⟨l, r, k, y, n, d, o, rfl, _⟩ := h
    rfl
  · obtain ⟨l, r, k, y, n, d, o, rfl, d0, hk, er, hy, hn, hd, q⟩ := h
    refine ⟨_, (pss_cons (ps_set (i := 2) c_l_written.nd rfl (.inl rfl) (pe_ca f_l_next b_l_next hr (by decide) pass0 rfl (pa_cons (pv 0) pa_nil)))
      (pss_cons (ps_set (i := 3) c_l_written.nd rfl (.inl rfl) (pe_ca f_l_text b_l_text hr (by decide) pass0 rfl (pa_cons (pv 1) pa_nil)))
      (pss_cons (ps_set (i := 4) c_l_written.nd rfl (.inl rfl) (pe_lst (pa_cons pe_str (pa_cons pe_str (pa_cons pe_str (pa_cons pe_str (pa_cons pe_str (pa_cons pe_str (pa_cons pe_str (pa_cons pe_str (pa_cons pe_str (pa_cons pe_str (pa_cons pe_str pa_nil)))))))))))))
      (pss_cons (ps_set (i := 4) c_l_written.nd rfl (.inl rfl) (pe_op op_cat (pv 4) (pe_lst (pa_cons pe_str (pa_cons pe_str (pa_cons pe_str (pa_cons pe_str (pa_cons pe_str (pa_cons pe_str (pa_cons pe_str pa_nil))))))))))
      (pss_cons (ps_set (i := 4) c_l_written.nd rfl (.inl rfl) (pe_op op_cat (pv 4) (pe_lst (pa_cons pe_str (pa_cons pe_str (pa_cons pe_str (pa_cons pe_str (pa_cons pe_str (pa_cons pe_str (pa_cons pe_str pa_nil))))))))))
      (pss_cons (ps_set (i := 4) c_l_written.nd rfl (.inl rfl) (pe_op op_cat (pv 4) (pe_lst (pa_cons pe_str (pa_cons pe_str (pa_cons pe_str pa_nil))))))
      (pss_cons (ps_set (i := 4) c_l_written.nd rfl (.inl rfl) (pe_op op_cat (pv 4) (pe_lst (pa_cons (pe_op op_add_str (pv 3) pe_str) (pa_cons (pe_op op_add_str pe_str (pv 3)) (pa_cons pe_str (pa_cons pe_str (pa_cons pe_str (pa_cons pe_str (pa_cons pe_str pa_nil))))))))))
      (pss_cons (ps_expr (pe_bm PySem.F.plainAttrs_list PySem.F.slot_list_append PySem.F.type_list_append mt_append (pv 4) (pa_cons pe_str pa_nil)))
      (pss_cons (ps_if (pt_cmpR op_eq (pe_op op_mod (pv 2) pe_int) pe_int (nomark _)) (pss_one (ps_ret (pe_ix ix_list (pv 4) (pe_op op_mod (pe_op op_fdiv (pv 2) pe_int) pe_int) (fun _ _ => rfl)))) pss_nil)
      (C8.pss_cut (ps_if (pt_cmpR op_gt (pe_op op_mod (pv 2) pe_int) pe_int (nomark _)) (pss_one (ps_set (i := 3) c_l_written.nd rfl (.inl rfl) (pe_ca f_l_bent b_l_bent hr (by decide) pass0 rfl (pa_cons (pv 0) (pa_cons (pv 3) (pa_cons pe_str pa_nil)))))) pss_nil)
      (C8.pss_cut (ps_if (pt_cmpR op_eq (pe_op op_mod (pv 2) pe_int) pe_int (nomark _)) (pss_one (ps_set (i := 3) c_l_written.nd rfl (.inl rfl) (pe_ca f_l_bent b_l_bent hr (by decide) pass0 rfl (pa_cons (pv 0) (pa_cons (pv 3) (pa_cons pe_str pa_nil)))))) pss_nil)
      (pss_one (ps_ret (pv 3)))))))))))))), ?_⟩
    refine ⟨_, rfl, l, k, rfl, d0, by omega, fun v H1 v0 v1 b1 d1 => ?_⟩
    refine ⟨_, rfl, r, y, n, d, o, rfl, b1.tup d0 er, hy, hn, hd, fun z H2 lz s2 => ?_⟩
    have b02 := b1.trans (But.same s2)
    have d2 := d1.same s2 (Nat.le_refl _)
    have lz' : (z ++ ("-01" : Str)).length ≤ 90 := Nat.le_trans (ap_len lz (lit_len (n := 3))) (by decide)
    have lz'' : (("1-" : Str) ++ z).length ≤ 90 := Nat.le_trans (ap_len (lit_len (n := 2)) lz) (by decide)
    have sz75 : z.length ≤ sizeLine := Nat.le_trans lz (by decide)
    refine ⟨ln _, fun p0 n0 => ?_⟩
    generalize hX0 : L2.upd H2 p0 _ = X0
    have s0 : Same H2 X0 := by rw [← hX0]; exact Same.new n0
    have e0 : X0 p0 = some (.lst (([("" : Str), ("-" : Str), ("--" : Str), ("5-05" : Str), ("5-05-" : Str), ("-05-09" : Str), ("5-5-09" : Str), ("5-05-9" : Str), ("5-005-09" : Str), ("5-05-009" : Str), ("05-05-09" : Str)] : List Str).map V.str)) := by rw [← hX0]; exact upd_same
    refine ⟨_, rfl, ln _, fun q1 m1 => ?_⟩
    refine ⟨p0, q1, _, _, rfl, rfl, (Same.new m1 _ _ e0), upd_same, (by show 18 ≤ sizeLine; decide), fun p1 n1 => ?_⟩
    generalize hX1 : L2.upd (L2.upd X0 q1 _) p1 _ = X1
    have s1 : Same H2 X1 := by rw [← hX1]; exact s0.trans ((Same.new m1).trans (Same.new n1))
    have e1 : X1 p1 = some (.lst (([("" : Str), ("-" : Str), ("--" : Str), ("5-05" : Str), ("5-05-" : Str), ("-05-09" : Str), ("5-5-09" : Str), ("5-05-9" : Str), ("5-005-09" : Str), ("5-05-009" : Str), ("05-05-09" : Str), ("-0-05-09" : Str), ("5-05**-09" : Str), ("5-*05-09" : Str), ("5*-05-09" : Str), ("5-05-09*" : Str), ("5--05-09" : Str), ("5-05--09" : Str)] : List Str).map V.str)) := by rw [← hX1]; exact upd_same
    refine ⟨_, rfl, ln _, fun q2 m2 => ?_⟩
    refine ⟨p1, q2, _, _, rfl, rfl, (Same.new m2 _ _ e1), upd_same, (by show 25 ≤ sizeLine; decide), fun p2 n2 => ?_⟩
    generalize hX2 : L2.upd (L2.upd X1 q2 _) p2 _ = X2
    have s2 : Same H2 X2 := by rw [← hX2]; exact s1.trans ((Same.new m2).trans (Same.new n2))
    have e2 : X2 p2 = some (.lst (([("" : Str), ("-" : Str), ("--" : Str), ("5-05" : Str), ("5-05-" : Str), ("-05-09" : Str), ("5-5-09" : Str), ("5-05-9" : Str), ("5-005-09" : Str), ("5-05-009" : Str), ("05-05-09" : Str), ("-0-05-09" : Str), ("5-05**-09" : Str), ("5-*05-09" : Str), ("5*-05-09" : Str), ("5-05-09*" : Str), ("5--05-09" : Str), ("5-05--09" : Str), ("+5-05-09" : Str), ("5-+5-09" : Str), (" 5-05-09" : Str), ("5-05-09 " : Str), ("5-0x5-09" : Str), ("5-0_5-09" : Str), ("5-05-0_9" : Str)] : List Str).map V.str)) := by rw [← hX2]; exact upd_same
    refine ⟨_, rfl, ln _, fun q3 m3 => ?_⟩
    refine ⟨p2, q3, _, _, rfl, rfl, (Same.new m3 _ _ e2), upd_same, (by show 28 ≤ sizeLine; decide), fun p3 n3 => ?_⟩
    generalize hX3 : L2.upd (L2.upd X2 q3 _) p3 _ = X3
    have s3 : Same H2 X3 := by rw [← hX3]; exact s2.trans ((Same.new m3).trans (Same.new n3))
    have e3 : X3 p3 = some (.lst (([("" : Str), ("-" : Str), ("--" : Str), ("5-05" : Str), ("5-05-" : Str), ("-05-09" : Str), ("5-5-09" : Str), ("5-05-9" : Str), ("5-005-09" : Str), ("5-05-009" : Str), ("05-05-09" : Str), ("-0-05-09" : Str), ("5-05**-09" : Str), ("5-*05-09" : Str), ("5*-05-09" : Str), ("5-05-09*" : Str), ("5--05-09" : Str), ("5-05--09" : Str), ("+5-05-09" : Str), ("5-+5-09" : Str), (" 5-05-09" : Str), ("5-05-09 " : Str), ("5-0x5-09" : Str), ("5-0_5-09" : Str), ("5-05-0_9" : Str), ("5-05-09\n" : Str), ("5 -05-09" : Str), ("5-05 *-09" : Str)] : List Str).map V.str)) := by rw [← hX3]; exact upd_same
    refine ⟨_, rfl, _, rfl, _, _, rfl, rfl, Nat.le_trans (Nat.add_le_add lz (lit_len (n := 3))) (by decide), _, rfl, _, _, rfl, rfl, Nat.le_trans (Nat.add_le_add (lit_len (n := 2)) lz) (by decide), ln _, fun q4 m4 => ?_⟩
    refine ⟨p3, q4, _, _, rfl, rfl, (Same.new m4 _ _ e3), upd_same, (by show 35 ≤ sizeLine; decide), fun p4 n4 => ?_⟩
    generalize hX4 : L2.upd (L2.upd X3 q4 _) p4 _ = X4
    have s4 : Same H2 X4 := by rw [← hX4]; exact s3.trans ((Same.new m4).trans (Same.new n4))
    have e4 : X4 p4 = some (.lst (([("" : Str), ("-" : Str), ("--" : Str), ("5-05" : Str), ("5-05-" : Str), ("-05-09" : Str), ("5-5-09" : Str), ("5-05-9" : Str), ("5-005-09" : Str), ("5-05-009" : Str), ("05-05-09" : Str), ("-0-05-09" : Str), ("5-05**-09" : Str), ("5-*05-09" : Str), ("5*-05-09" : Str), ("5-05-09*" : Str), ("5--05-09" : Str), ("5-05--09" : Str), ("+5-05-09" : Str), ("5-+5-09" : Str), (" 5-05-09" : Str), ("5-05-09 " : Str), ("5-0x5-09" : Str), ("5-0_5-09" : Str), ("5-05-0_9" : Str), ("5-05-09\n" : Str), ("5 -05-09" : Str), ("5-05 *-09" : Str), (z ++ ("-01" : Str)), (("1-" : Str) ++ z), ("--5-05-09" : Str), ("5-1*-09" : Str), ("5-**-09" : Str), ("5-00*-00" : Str), ("-5-00-00" : Str)] : List Str).map V.str)) := by rw [← hX4]; exact upd_same
    have n4' : H2 p4 = none := (s3.trans (Same.new m4)).free n4
    refine ⟨_, rfl, .inl ⟨rfl, _, SqL.of e4⟩, p4, _, _, rfl, rfl, e4, (by show 35 < sizeLine; decide), ?_⟩
    generalize hY : L2.upd X4 p4 _ = Y
    have eY : Y p4 = some (.lst (([("" : Str), ("-" : Str), ("--" : Str), ("5-05" : Str), ("5-05-" : Str), ("-05-09" : Str), ("5-5-09" : Str), ("5-05-9" : Str), ("5-005-09" : Str), ("5-05-009" : Str), ("05-05-09" : Str), ("-0-05-09" : Str), ("5-05**-09" : Str), ("5-*05-09" : Str), ("5*-05-09" : Str), ("5-05-09*" : Str), ("5--05-09" : Str), ("5-05--09" : Str), ("+5-05-09" : Str), ("5-+5-09" : Str), (" 5-05-09" : Str), ("5-05-09 " : Str), ("5-0x5-09" : Str), ("5-0_5-09" : Str), ("5-05-0_9" : Str), ("5-05-09\n" : Str), ("5 -05-09" : Str), ("5-05 *-09" : Str), (z ++ ("-01" : Str)), (("1-" : Str) ++ z), ("--5-05-09" : Str), ("5-1*-09" : Str), ("5-**-09" : Str), ("5-00*-00" : Str), ("-5-00-00" : Str), ("0-100-100" : Str)] : List Str).map V.str)) := by rw [← hY]; exact upd_same
    have sY : Same H2 Y := by rw [← hY]; exact upd_keep n4' s4
    have lall : ∀ y ∈ ([("" : Str), ("-" : Str), ("--" : Str), ("5-05" : Str), ("5-05-" : Str), ("-05-09" : Str), ("5-5-09" : Str), ("5-05-9" : Str), ("5-005-09" : Str), ("5-05-009" : Str), ("05-05-09" : Str), ("-0-05-09" : Str), ("5-05**-09" : Str), ("5-*05-09" : Str), ("5*-05-09" : Str), ("5-05-09*" : Str), ("5--05-09" : Str), ("5-05--09" : Str), ("+5-05-09" : Str), ("5-+5-09" : Str), (" 5-05-09" : Str), ("5-05-09 " : Str), ("5-0x5-09" : Str), ("5-0_5-09" : Str), ("5-05-0_9" : Str), ("5-05-09\n" : Str), ("5 -05-09" : Str), ("5-05 *-09" : Str), (z ++ ("-01" : Str)), (("1-" : Str) ++ z), ("--5-05-09" : Str), ("5-1*-09" : Str), ("5-**-09" : Str), ("5-00*-00" : Str), ("-5-00-00" : Str), ("0-100-100" : Str)] : List Str), y.length ≤ 90 := by
      intro y hy
      simp only [List.mem_cons, List.not_mem_nil, or_false] at hy
      rcases hy with rfl | rfl | rfl | rfl | rfl | rfl | rfl | rfl | rfl | rfl | rfl | rfl | rfl | rfl | rfl | rfl | rfl | rfl | rfl | rfl | rfl | rfl | rfl | rfl | rfl | rfl | rfl | rfl | rfl | rfl | rfl | rfl | rfl | rfl | rfl | rfl
      all_goals first | exact lit_len | exact lz' | exact lz''
    have lst : ([("" : Str), ("-" : Str), ("--" : Str), ("5-05" : Str), ("5-05-" : Str), ("-05-09" : Str), ("5-5-09" : Str), ("5-05-9" : Str), ("5-005-09" : Str), ("5-05-009" : Str), ("05-05-09" : Str), ("-0-05-09" : Str), ("5-05**-09" : Str), ("5-*05-09" : Str), ("5*-05-09" : Str), ("5-05-09*" : Str), ("5--05-09" : Str), ("5-05--09" : Str), ("+5-05-09" : Str), ("5-+5-09" : Str), (" 5-05-09" : Str), ("5-05-09 " : Str), ("5-0x5-09" : Str), ("5-0_5-09" : Str), ("5-05-0_9" : Str), ("5-05-09\n" : Str), ("5 -05-09" : Str), ("5-05 *-09" : Str), (z ++ ("-01" : Str)), (("1-" : Str) ++ z), ("--5-05-09" : Str), ("5-1*-09" : Str), ("5-**-09" : Str), ("5-00*-00" : Str), ("-5-00-00" : Str), ("0-100-100" : Str)] : List Str).length = 36 := rfl
    generalize ([("" : Str), ("-" : Str), ("--" : Str), ("5-05" : Str), ("5-05-" : Str), ("-05-09" : Str), ("5-5-09" : Str), ("5-05-9" : Str), ("5-005-09" : Str), ("5-05-009" : Str), ("05-05-09" : Str), ("-0-05-09" : Str), ("5-05**-09" : Str), ("5-*05-09" : Str), ("5*-05-09" : Str), ("5-05-09*" : Str), ("5--05-09" : Str), ("5-05--09" : Str), ("+5-05-09" : Str), ("5-+5-09" : Str), (" 5-05-09" : Str), ("5-05-09 " : Str), ("5-0x5-09" : Str), ("5-0_5-09" : Str), ("5-05-0_9" : Str), ("5-05-09\n" : Str), ("5 -05-09" : Str), ("5-05 *-09" : Str), (z ++ ("-01" : Str)), (("1-" : Str) ++ z), ("--5-05-09" : Str), ("5-1*-09" : Str), ("5-**-09" : Str), ("5-00*-00" : Str), ("-5-00-00" : Str), ("0-100-100" : Str)] : List Str) = ys at *
    have bY : But l H Y := b02.trans (But.same sY)
    have dY := d2.same sY (Nat.le_refl _)
    refine ⟨_, rfl, _, _, rfl, rfl, md, rfl, _, rfl, ite2 (fun _ => ?_) (fun _ => ?_)⟩
    · obtain ⟨x, hx, y, rfl, ly⟩ := pick (P := fun x => ∃ y : Str, x = V.str y ∧ y.length ≤ 90) (xs := ys.map V.str) (md0 (v / 4) (j := 36)) (by rw [List.length_map, lst]; exact md1 (v / 4) (j := 36)) (by
        intro x hx
        obtain ⟨y, hy, rfl⟩ := List.mem_map.mp hx
        exact ⟨y, rfl, lall y hy⟩)
      refine ⟨_, rfl, _, rfl, _, _, rfl, rfl, ⟨by decide, by decide⟩, _, _, rfl, rfl, md, p4, _, _, _, rfl, rfl, SqL.of eY, hx, ?_⟩
      exact q y Y (Nat.le_trans ly (by decide)) bY (dY.mono (by omega))
    refine ⟨fun σ' H' => ∃ z' : Str, σ' = [some (.ref l), some (.ref r), some (.int v), some (.str z'), some (.ref p4)] ∧ z'.length ≤ 80 ∧ But l H H' ∧ Dr H' l (k + 4), ?_, ?_⟩
    · refine ⟨_, rfl, _, _, rfl, rfl, md, _, _, rfl, rfl, _, rfl, ite2 (fun _ => ?_) (fun _ => ⟨z, rfl, by omega, bY, dY.mono (by omega)⟩)⟩
      refine ⟨_, rfl, _, rfl, l, z, _, _, rfl, dY, by omega, by omega, by decide +kernel, by decide +kernel, fun z' H' lz3 b3 d3 => ⟨z', rfl, by omega, bY.trans b3, d3.mono (by omega)⟩⟩
    rintro σ' H' ⟨z1, rfl, lz1, bb, dd⟩
    refine ⟨fun σ' H' => ∃ z' : Str, σ' = [some (.ref l), some (.ref r), some (.int v), some (.str z'), some (.ref p4)] ∧ z'.length ≤ 90 ∧ But l H H' ∧ Dr H' l (k + 7), ?_, ?_⟩
    · refine ⟨_, rfl, _, _, rfl, rfl, md, rfl, _, rfl, ite2 (fun _ => ?_) (fun _ => ⟨z1, rfl, by omega, bb, dd.mono (by omega)⟩)⟩
      refine ⟨_, rfl, _, rfl, l, z1, _, _, rfl, dd, by omega, by omega, by decide +kernel, by decide +kernel, fun z' H' lz3 b3 d3 => ⟨z', rfl, by omega, bb.trans b3, d3.mono (by omega)⟩⟩
    rintro σ' H' ⟨z2, rfl, lz2, bb2, dd2⟩
    exact ⟨_, rfl, q z2 _ (by omega) bb2 dd2⟩
end
/-! ### what is told of a text, or that it is refused -/
theorem NtT.n_at {K : PySem.W.Frag} {mg : Str → Option Value} {CN : Addr} (T : NtT K mg CN) : PySem.W.findIn K (.ref CN) "at" = some none := T.no
def spAskD (Cd : Addr) : Sp := fun vs H Q _ => ∃ (t : Str) (wy : Int), vs = [.str t, .int wy] ∧ t.length ≤ 98 ∧ (∀ y n d o, 0 ≤ n → 0 ≤ d → t = daS y n d o → ∀ p l H', Same H H' → Da Cd H' p y n d o → H' l = some (.lst [.ref p]) → Q (.ref l) H') ∧ ((∀ y n d o, 0 ≤ n → 0 ≤ d → t ≠ daS y n d o) → ∀ l H', Same H H' → H' l = some (.lst [.str ("none" : Str)]) → Q (.ref l) H')
def gId {α : Type} : List α → List α → List α := fun us ws => us ++ ws
theorem gId_rel {n m : Nat} {vs zs : List V} {us ws : List Value} (_ : vs.length = n) (_ : zs.length = m) (h : Vals vs us) (k : Vals zs ws) : Vals (gId vs zs) (gId us ws) := h.append k
theorem kb_read_date_text : Kb "read_date" s_read_date 0 ["text"] ["text"] gId := ⟨fun _ _ _ _ _ _ us ws hu hw => match us, hu, ws, hw with | [], _, [_], _ => rfl, gId_rel⟩
section
variable {P : Program} {w : World} {K : PySem.W.Frag} {mg : Str → Option Value} {base : Heap} {Cd CN : Addr} {C_NoShare C_NoCalendar C_NoDate C_NoWheel C_NoName C_NoDay C_Taken C_NoNote C_NoDeed : Addr}
theorem ok_lasked74 (D : Df K mg "_law_asked" s_l_asked []) (T : KdF K mg CN false false false false false false false true false false false false true false false false C_NoShare C_NoCalendar C_NoDate C_NoWheel C_NoName C_NoDay C_Taken CN C_NoNote C_NoDeed)
    (XA : ∃ B : Value → Bool, (∀ c ∈ [Value.ref C_NoCalendar, .ref C_NoDate, .ref C_NoDay, .ref C_NoDeed, .ref C_NoName, .ref C_NoNote, .ref C_NoShare, .ref CN, .ref C_NoWheel, .ref C_Taken], PySem.W.exmOne K (.ref CN) c = some (B c)) ∧ ([Value.ref C_NoCalendar, .ref C_NoDate, .ref C_NoDay, .ref C_NoDeed, .ref C_NoName, .ref C_NoNote, .ref C_NoShare, .ref CN, .ref C_NoWheel, .ref C_Taken]).any B = true)
    (N : NtT K mg CN) (g_isinstance : mg "isinstance" = none) (g_ValueError : mg "ValueError" = none) (f_read_date : Ca P w K mg base (L2.CX P w) 6 "read_date" s_read_date [] ["text"] (spRd Cd CN)) (f_l_kinds : Ca P w K mg base CX0 1 "_law_kinds" s_l_kinds [] ["_law_kept"] (spKinds CN [false, false, false, false, false, false, false, true, false, false])) :
    Ca P w K mg base CX0 9 "_law_asked" s_l_asked [] ["_law_a_text", "_law_way"] (spAskD Cd) := by
  refine ca0 (k := 8) D c_l_asked (fun vs H Q E h => ?_) fun f cdv A outer s H vs Q E hr h => ?_
  · obtain ⟨t, wy, rfl, _⟩ := h
    rfl
  · obtain ⟨t, wy, rfl, hl, q, qn⟩ := h
    have XC := T.xc
    have n_at := N.no
    have h_NoShare := T.m0
    have h_NoCalendar := T.m1
    have h_NoDate := T.m2
    have h_NoWheel := T.m3
    have h_NoName := T.m4
    have h_NoDay := T.m5
    have h_Taken := T.m6
    have h_NoText := T.m7
    have h_NoNote := T.m8
    have h_NoDeed := T.m9
    refine ⟨_, (pss_cons (ps_set (i := 2) c_l_asked.nd rfl (.inl rfl) pe_non)
      (pss_cons (ps_set (i := 3) c_l_asked.nd rfl (.inl rfl) pe_non)
      (pss_cons (ps_try_keep (i := 4) (j := 2) rfl rfl rfl c_l_asked.nd rfl rfl rfl rfl (.cons rfl rfl h_NoCalendar (.cons rfl rfl h_NoDate (.cons rfl rfl h_NoDay (.cons rfl rfl h_NoDeed (.cons rfl rfl h_NoName (.cons rfl rfl h_NoNote (.cons rfl rfl h_NoShare (.cons rfl rfl h_NoText (.cons rfl rfl h_NoWheel (.cons rfl rfl h_Taken .nil)))))))))) (by show 10 ≤ 100; decide) (hb := fun W pn xe tk po =>
      (pss_one (ps_if (pt_cmpR op_eq (pv 1) pe_int (nomark _)) (pss_one (ps_set (i := 3) c_l_asked.nd rfl (.inl rfl) (pe_caS f_read_date b_read_date hr (by decide) tk rfl (pa_cons (pv 0) pa_nil)))) (pss_one (ps_set (i := 3) c_l_asked.nd rfl (.inl rfl) (pe_caKS f_read_date kb_read_date_text hr (by decide) tk rfl (pk_cons (pv 0) pk_nil))))))))
      (pss_cons (ps_if (pt_cmp (pc_isN (pv 2))) (pss_one (ps_ret (pe_lst (pa_cons (pv 3) pa_nil)))) pss_nil)
      (pss_cons (ps_set (i := 5) c_l_asked.nd rfl (.inl rfl) (pe_ca f_l_kinds b_l_kinds hr (by decide) pass0 rfl (pa_cons (pv 2) pa_nil)))
      (pss_cons (ps_if (PW.pt (pw_or (pt_cmpR op_ne (pe_bm PySem.F.plainAttrs_list PySem.F.slot_list_count PySem.F.type_list_count (mt_countG eqB_flat (hr.mono (by decide))) (pv 5) (pa_cons pe_bl pa_nil)) pe_int (nomark _)) (pw_or (pt_not (pt_val (pe_ix ix_list (pv 5) pe_int (fun _ _ => rfl)))) (pw_or (pt_not (pt_val (pe_callB (call_isK XC) rfl g_isinstance (by decide +kernel) (pa_cons (pv 2) (pa_cons (pe_bltn (v := .ty "ValueError") rfl g_ValueError (by decide +kernel) rfl) pa_nil))))) (pw_or1 (pt_cmpR op_ne (pe_kf XC n_at (pv 2)) (pv 0) (nomark _))))))) (pss_one (ps_ret (pe_lst (pa_cons pe_str pa_nil)))) pss_nil)
      (pss_one (ps_ret (pe_lst (pa_cons pe_str pa_nil)))))))))), ?_⟩
    refine ⟨_, rfl, rfl, _, rfl, ite2 (fun _ => ?_) (fun hne => ?_)⟩
    · refine ⟨_, rfl, t, rfl, hl, fun y n d o n0 d0 ex r H1 s1 hs => ?_, fun hno e' H2 ne' s2 he' => ?_⟩
      · refine ⟨_, rfl, _, rfl, iteT ⟨_, rfl, ln _, fun p np => ?_⟩⟩
        exact q y n d o n0 d0 ex r p _ (s1.trans (Same.new np)) (hs.same (Same.new np)) upd_same
      · refine ⟨XA, fun a' na' => ?_⟩
        have s3 := Same.new (o := KX a' (.ref CN) (some e')) na'
        have ka := upd_same (H := H2) (a := a') (o := KX a' (.ref CN) (some e'))
        have ke := s3 _ _ he'
        have s13 := s2.trans s3
        generalize L2.upd H2 a' _ = H3 at *
        refine ⟨_, rfl, _, rfl, iteF ?_⟩
        refine ⟨_, rfl, a', e', _, rfl, ka, ke, fun ls H4 s4 el => ?_⟩
        have ka4 := s4 _ _ ka
        have ke4 := s4 _ _ ke
        refine ⟨_, rfl, .inl ⟨rfl, _, SqL.of el⟩, ls, _, .bl true, fun j => decide (j = 7), rfl, rfl, el, ?_, fun H5 s5 => ?_⟩
        · intro j z hj H5 s5
          match j, hj with
          | 0, hj => cases hj; exact ⟨rfl, rfl, rfl⟩
          | 1, hj => cases hj; exact ⟨rfl, rfl, rfl⟩
          | 2, hj => cases hj; exact ⟨rfl, rfl, rfl⟩
          | 3, hj => cases hj; exact ⟨rfl, rfl, rfl⟩
          | 4, hj => cases hj; exact ⟨rfl, rfl, rfl⟩
          | 5, hj => cases hj; exact ⟨rfl, rfl, rfl⟩
          | 6, hj => cases hj; exact ⟨rfl, rfl, rfl⟩
          | 7, hj => cases hj; exact ⟨rfl, rfl, rfl⟩
          | 8, hj => cases hj; exact ⟨rfl, rfl, rfl⟩
          | 9, hj => cases hj; exact ⟨rfl, rfl, rfl⟩
          | j + 10, hj => simp at hj
        · have s45 : Same H4 H5 := s5
          refine ⟨rfl, _, rfl, no' rfl ?_⟩
          refine ⟨_, rfl, ls, _, _, _, rfl, rfl, SqL.of (s45 _ _ el), rfl, _, rfl, no' rfl ?_⟩
          refine ⟨_, rfl, a', e', _, _, _, _, rfl, s45 _ _ ka4, s45 _ _ ke4, .ty _, T.t2, _, rfl, no' rfl ?_⟩
          refine ⟨_, rfl, a', e', _, _, rfl, s45 _ _ ka4, s45 _ _ ke4, rfl, _, rfl, rfl, _, rfl, no' (by simp) ?_⟩
          refine ⟨ln _, fun p np => ?_⟩
          exact qn hno p _ ((s13.trans (s4.trans s45)).trans (Same.new np)) upd_same
    · refine ⟨_, rfl, rfl, t, rfl, hl, fun y n d o n0 d0 ex r H1 s1 hs => ?_, fun hno e' H2 ne' s2 he' => ?_⟩
      · refine ⟨_, rfl, _, rfl, iteT ⟨_, rfl, ln _, fun p np => ?_⟩⟩
        exact q y n d o n0 d0 ex r p _ (s1.trans (Same.new np)) (hs.same (Same.new np)) upd_same
      · refine ⟨XA, fun a' na' => ?_⟩
        have s3 := Same.new (o := KX a' (.ref CN) (some e')) na'
        have ka := upd_same (H := H2) (a := a') (o := KX a' (.ref CN) (some e'))
        have ke := s3 _ _ he'
        have s13 := s2.trans s3
        generalize L2.upd H2 a' _ = H3 at *
        refine ⟨_, rfl, _, rfl, iteF ?_⟩
        refine ⟨_, rfl, a', e', _, rfl, ka, ke, fun ls H4 s4 el => ?_⟩
        have ka4 := s4 _ _ ka
        have ke4 := s4 _ _ ke
        refine ⟨_, rfl, .inl ⟨rfl, _, SqL.of el⟩, ls, _, .bl true, fun j => decide (j = 7), rfl, rfl, el, ?_, fun H5 s5 => ?_⟩
        · intro j z hj H5 s5
          match j, hj with
          | 0, hj => cases hj; exact ⟨rfl, rfl, rfl⟩
          | 1, hj => cases hj; exact ⟨rfl, rfl, rfl⟩
          | 2, hj => cases hj; exact ⟨rfl, rfl, rfl⟩
          | 3, hj => cases hj; exact ⟨rfl, rfl, rfl⟩
          | 4, hj => cases hj; exact ⟨rfl, rfl, rfl⟩
          | 5, hj => cases hj; exact ⟨rfl, rfl, rfl⟩
          | 6, hj => cases hj; exact ⟨rfl, rfl, rfl⟩
          | 7, hj => cases hj; exact ⟨rfl, rfl, rfl⟩
          | 8, hj => cases hj; exact ⟨rfl, rfl, rfl⟩
          | 9, hj => cases hj; exact ⟨rfl, rfl, rfl⟩
          | j + 10, hj => simp at hj
        · have s45 : Same H4 H5 := s5
          refine ⟨rfl, _, rfl, no' rfl ?_⟩
          refine ⟨_, rfl, ls, _, _, _, rfl, rfl, SqL.of (s45 _ _ el), rfl, _, rfl, no' rfl ?_⟩
          refine ⟨_, rfl, a', e', _, _, _, _, rfl, s45 _ _ ka4, s45 _ _ ke4, .ty _, T.t2, _, rfl, no' rfl ?_⟩
          refine ⟨_, rfl, a', e', _, _, rfl, s45 _ _ ka4, s45 _ _ ke4, rfl, _, rfl, rfl, _, rfl, no' (by simp) ?_⟩
          refine ⟨ln _, fun p np => ?_⟩
          exact qn hno p _ ((s13.trans (s4.trans s45)).trans (Same.new np)) upd_same
end
/-! ### what the law asks of a Date that was read -/
def gDw {α : Type} : List α → List α → List α → List α := fun us _ ws => us ++ ws
theorem gDw_rel {vs ds zs : List V} {us its ws : List Value} (h : Vals vs us) (_ : Vals ds its) (k : Vals zs ws) : Vals (gDw vs ds zs) (gDw us its ws) := h.append k
theorem kb_Date_3_odd : Kd "Date.__init__" s_Date_init 1 4 ["odd"] ["self", "year", "number", "day", "odd"] gDw :=
  ⟨fun _ _ _ _ _ _ _ us its ws hu hi hw => match us, hu, its, hi, ws, hw with | [_, _, _, _], _, [_], _, [_], _ => ⟨_, rfl, rfl⟩, gDw_rel⟩
theorem flat1 {a b : Str} (h : a = b) : (!decide (V.str a = V.str b)) = false := by
  rw [h]
  simp
theorem eqv_t (y n d : Int) (o : Bool) : PyData.eqv (.tuple [.int y, .int n, .int d, .bool o]) (.tuple [.int y, .int n, .int d, .bool o]) = true := by
  simp only [PyData.eqv, PyData.eqvAll, Bool.and_true]
  cases o <;> simp
theorem dpt {K : PySem.W.Frag} {H : Hp} {a : Addr} {y n d : Int} {o : Bool} (h : H a = some (.tup [.int y, .int n, .int d, .bl o])) : Dp K H (.ref a) (.tuple [.int y, .int n, .int d, .bool o]) := .tup (SqT.of h) (.cons (.int _) (.cons (.int _) (.cons (.int _) (.cons (.bl _) .nil))))
def spIsD (Cd : Addr) : Sp := fun vs H Q _ => ∃ (p r : Addr) (y n d : Int) (o : Bool) (t : Str), vs = [.ref p, .ref r, .str t] ∧ Da Cd H p y n d o ∧ H r = some (.tup [.int y, .int n, .int d, .bl o]) ∧ t = daS y n d o ∧ Sz 400 y ∧ Sz 400 n ∧ Sz 400 d ∧ ∀ H', Same H H' → Q (.bl true) H'
abbrev TE_l_is_date1 (Cd : Addr) : TE := tCB (rSA Cd (spDaS Cd) E0) (tCons (tVar 5) tNil)
theorem daR_eq (y n d : Int) (o : Bool) : daR y n d o = (("Date(" : Str) ++ Txt.join (", " : Str) [Str.ofString (toString y), Str.ofString (toString n), Str.ofString (toString d), ("odd=" : Str) ++ blS o]) ++ (")" : Str) := by
  unfold daR
  refine str_ext ?_
  have ek : (", odd=" : Str).cps.toList = (", " : Str).cps.toList ++ ("odd=" : Str).cps.toList := by decide +kernel
  have ej : (Txt.join (", " : Str) [Str.ofString (toString y), Str.ofString (toString n), Str.ofString (toString d), ("odd=" : Str) ++ blS o]).cps.toList = (Str.ofString (toString y)).cps.toList ++ ((", " : Str).cps.toList ++ ((Str.ofString (toString n)).cps.toList ++ ((", " : Str).cps.toList ++ ((Str.ofString (toString d)).cps.toList ++ ((", " : Str).cps.toList ++ (("odd=" : Str).cps.toList ++ (blS o).cps.toList)))))) := by
    show (((((Str.ofString (toString y)).cps ++ (", " : Str).cps ++ (Str.ofString (toString n)).cps) ++ (", " : Str).cps ++ (Str.ofString (toString d)).cps) ++ (", " : Str).cps ++ (("odd=" : Str) ++ blS o).cps)).toList = _
    simp only [Array.toList_append, app_cps, List.append_assoc]
  simp only [numT_str] at ej ⊢
  simp only [app_cps, ej, emp_cps, List.nil_append, ek, List.append_assoc]
section
variable {P : Program} {w : World} {K : PySem.W.Frag} {mg : Str → Option Value} {base : Heap} {Cd : Addr}
theorem ok_lisd (D : Df K mg "_law_is_date" s_l_is_date []) (T : DaT K Cd) (NT : NeT K Cd) (g_isinstance : mg "isinstance" = none) (g_bool : mg "bool" = none) (g_int : mg "int" = none) (g_str : mg "str" = none) (g_repr : mg "repr" = none) (h_Date : mg "Date" = some (.ref Cd)) (f_l_whole : Ca P w K mg base CX0 1 "_law_whole" s_l_whole [] ["_law_told"] spWhole)
    (f_Date : Ci P w K mg base CX0 1 "Date" Cd "Date.__init__" s_Date_init [.bl false] ["self", "year", "number", "day", "odd"] (spDaI Cd)) (f_Date_eq : Cm P w K mg base CX0 1 Cd "__eq__" "Date.__eq__" s_Date_eq ["self", "other"] (spDaG K Cd)) (f_Date_str : Cm P w K mg base CX0 3 Cd "__str__" "Date.__str__" s_Date_str ["self"] (spDaS Cd)) (f_Date_repr : Cm P w K mg base CX0 2 Cd "__repr__" "Date.__repr__" s_Date_repr ["self"] (spDaR Cd)) :
    Ca P w K mg base CX0 8 "_law_is_date" s_l_is_date [] ["_law_date", "_law_due_here", "_law_a_text"] (spIsD Cd) := by
  refine ca0 (k := 7) D c_l_is_date (fun vs H Q E h => ?_) fun f cdv A outer s H vs Q E hr h => ?_
  · obtain ⟨p, r, y, n, d, o, t, rfl, _⟩ := h
    rfl
  · obtain ⟨p, r, y, n, d, o, t, rfl, ⟨dx, e⟩, er, et, zy, zn, zd, q⟩ := h
    refine ⟨_, (pss_cons (ps_if (PW.pt (pw_or (pt_not (pt_val (pe_callB call_isi rfl g_isinstance (by decide +kernel) (pa_cons (pv 0) (pa_cons (pe_glob (v := .ref Cd) rfl h_Date rfl) pa_nil))))) (pw_or1 (pt_not (pt_val (pe_callB call_isi rfl g_isinstance (by decide +kernel) (pa_cons (pe_fld (pv 0) rfl) (pa_cons (pe_bltn (v := .ty "bool") rfl g_bool (by decide +kernel) rfl) pa_nil)))))))) (pss_one (ps_ret pe_bl)) pss_nil)
      (pss_cons (ps_if (PW.pt (pw_or (pt_cmpR (op_neD hr.units) (pe_tup (pa_cons (pe_fld (pv 0) rfl) (pa_cons (pe_fld (pv 0) rfl) (pa_cons (pe_fld (pv 0) rfl) (pa_cons (pe_fld (pv 0) rfl) pa_nil))))) (pv 1) (nomark _)) (pw_or1 (pt_cmpR op_ne (pe_callTy (call_str_SA f_Date_str b_Date_str (hr.mono (by decide)) pass0) rfl g_str (by decide +kernel) (pa_cons (pv 0) pa_nil)) (pv 2) (nomark _))))) (pss_one (ps_ret pe_bl)) pss_nil)
      (pss_cons (ps_if (pt_cmpR op_in_seq pe_bl (pe_lst (pa_cons (pe_ca f_l_whole b_l_whole hr (by decide) pass0 rfl (pa_cons (pe_fld (pv 0) rfl) pa_nil)) (pa_cons (pe_ca f_l_whole b_l_whole hr (by decide) pass0 rfl (pa_cons (pe_fld (pv 0) rfl) pa_nil)) (pa_cons (pe_ca f_l_whole b_l_whole hr (by decide) pass0 rfl (pa_cons (pe_fld (pv 0) rfl) pa_nil)) pa_nil)))) rfl) (pss_one (ps_ret pe_bl)) pss_nil)
      (pss_cons (ps_set (i := 3) c_l_is_date.nd rfl (.inl rfl) (pe_m1 PySem.F.slot_str_join PySem.F.type_str_join mt_join pe_str (pe_op op_cat (pe_lc (own := [("_law_one", 5)]) (g := gName 5) (tt := tYes) (te := TE_l_is_date1 Cd) rfl c_l_is_date.nd (pi_tup (pe_slice sl_tup (pv 1) po_none (po_some pe_int))) (blkOk_by (N := ["_law_date", "_law_due_here", "_law_a_text", "_law_words", "_law_others", "_law_one"]) (sc := defScope s_l_is_date) (by decide +kernel)) (fun _ _ _ _ _ => (pg_name (i := 5) c_l_is_date.nd rfl (.inl rfl))) (fun _ _ _ _ _ => by exact pts_nil) (fun _ _ _ _ _ => by exact (pe_callTy (call_str_SA f_Date_str b_Date_str (hr.mono (by decide)) pass0) rfl g_str (by decide +kernel) (pa_cons (pv 5) pa_nil)))) (pe_lst (pa_cons (pe_op op_add_str pe_str (pe_callTy (call_str_SA f_Date_str b_Date_str (hr.mono (by decide)) pass0) rfl g_str (by decide +kernel) (pa_cons (pe_ix ix_tup (pv 1) pe_int (fun _ _ => rfl)) pa_nil))) pa_nil)))))
      (pss_cons (ps_set (i := 4) c_l_is_date.nd rfl (.inl rfl) (pe_lst (pa_cons (pe_ci f_Date bd_Date4 (by decide) rfl hr (by decide) pass0 rfl (pa_cons (pe_ix ix_tup (pv 1) pe_int (fun _ _ => rfl)) (pa_cons (pe_ix ix_tup (pv 1) pe_int (fun _ _ => rfl)) (pa_cons (pe_ix ix_tup (pv 1) pe_int (fun _ _ => rfl)) (pa_cons (pe_not (pe_ix ix_tup (pv 1) pe_int (fun _ _ => rfl))) pa_nil))))) (pa_cons (pe_ciK f_Date kb_Date_3_odd (by decide) hr (by decide) pass0 rfl (pa_cons (pe_ix ix_tup (pv 1) pe_int (fun _ _ => rfl)) (pa_cons (pe_ix ix_tup (pv 1) pe_int (fun _ _ => rfl)) (pa_cons (pe_op op_add (pe_ix ix_tup (pv 1) pe_int (fun _ _ => rfl)) pe_int) pa_nil))) (pk_cons (pe_ix ix_tup (pv 1) pe_int (fun _ _ => rfl)) pk_nil)) pa_nil))))
      (pss_cons (ps_if (PW.pt (pw_or (pt_cmpR (op_neC NT f_Date_eq b_Date_eq pass0 hr (by decide)) (pv 0) (pe_ci f_Date bd_Date4 (by decide) rfl hr (by decide) pass0 rfl (pa_cons (pe_ix ix_tup (pv 1) pe_int (fun _ _ => rfl)) (pa_cons (pe_ix ix_tup (pv 1) pe_int (fun _ _ => rfl)) (pa_cons (pe_ix ix_tup (pv 1) pe_int (fun _ _ => rfl)) (pa_cons (pe_ix ix_tup (pv 1) pe_int (fun _ _ => rfl)) pa_nil))))) (nomark _)) (pw_or1 (pt_cmpR (op_inO f_Date_eq b_Date_eq pass0 hr (by decide)) (pv 0) (pv 4) rfl)))) (pss_one (ps_ret pe_bl)) pss_nil)
      (pss_one (ps_ret (pe_cmpR op_eq (pe_callB (call_reprC f_Date_repr b_Date_repr (hr.mono (by decide)) pass0) rfl g_repr (by decide +kernel) (pa_cons (pv 0) pa_nil)) (pe_op op_add_str (pe_op op_add_str pe_str (pv 3)) pe_str) (nomark _)))))))))), ?_⟩
    refine ⟨_, rfl, _, _, _, _, _, rfl, .own Cd, T.ty _ _ _ _ e, kit_self, _, rfl, no' rfl ?_⟩
    refine ⟨_, rfl, p, Cd, dx, _, _, rfl, e, T.cl, T.n4, df_odd _ _ _ _, _, _, _, _, _, rfl, .ty "bool", .base (.bl o), kit_ty (r := true) (by decide +kernel), _, rfl, no' rfl ?_⟩
    refine ⟨_, rfl, p, Cd, dx, _, _, rfl, e, T.cl, T.n1, df_year _ _ _ _, _, rfl, p, Cd, dx, _, _, rfl, e, T.cl, T.n2, df_number _ _ _ _, _, rfl, p, Cd, dx, _, _, rfl, e, T.cl, T.n3, df_day _ _ _ _, _, rfl, p, Cd, dx, _, _, rfl, e, T.cl, T.n4, df_odd _ _ _ _, ln _, fun p2 n2 => ?_⟩
    have s2 := Same.new (o := .tup [.int y, .int n, .int d, .bl o]) n2
    refine ⟨_, rfl, _, _, dpt upd_same, dpt (s2 _ _ er), rfl, rfl, _, rfl, no' (by rw [eqv_t]; rfl) ?_⟩
    have e2 := s2 _ _ e
    have er2 := s2 _ _ er
    generalize L2.upd H p2 _ = H2 at *
    refine ⟨_, rfl, sa_own e2 ⟨p, y, n, d, o, rfl, ⟨dx, e2⟩, zy, zn, zd, fun H3 s3 => ⟨_, rfl, _, rfl, rfl, _, rfl, no' (flat1 et.symm) ?_⟩⟩⟩
    have e3 := s3 _ _ e2
    have er3 := s3 _ _ er2
    refine ⟨_, rfl, p, Cd, dx, _, _, rfl, e3, T.cl, T.n1, df_year _ _ _ _, y, rfl, ?_⟩
    refine ⟨_, rfl, p, Cd, dx, _, _, rfl, e3, T.cl, T.n2, df_number _ _ _ _, n, rfl, ?_⟩
    refine ⟨_, rfl, p, Cd, dx, _, _, rfl, e3, T.cl, T.n3, df_day _ _ _ _, d, rfl, ln _, fun p4 n4 => ?_⟩
    have s4 := Same.new (o := .lst [.bl true, .bl true, .bl true]) n4
    refine ⟨p4, _, rfl, .inl (SqL.of upd_same), rfl, rfl, _, rfl, no' rfl ?_⟩
    have e4 := s4 _ _ e3
    have er4 := s4 _ _ er3
    have s04 := s2.trans (s3.trans s4)
    generalize L2.upd H3 p4 _ = H4 at *
    refine ⟨⟨_, rfl⟩, _, rfl, _, rfl, r, _, rfl, SqT.of er4, (by show ¬ ((0 : Nat) = 0 ∧ (3 : Nat) = 4); omega), fun p5 n5 => ?_⟩
    have s5 := Same.new (o := .tup [.int y, .int n, .int d]) n5
    refine ⟨p5, rfl, ⟨_, SqT.of upd_same⟩, fun D5 nD5 => ?_⟩
    have s5' : Same H4 (L2.upd H4 p5 (.tup (cutV [.int y, .int n, .int d, .bl o] none (some 3)))) := s5
    have e5 := s5' _ _ e4
    have er5 := s5' _ _ er4
    have ep5 := upd_same (H := H4) (a := p5) (o := .tup (cutV [.int y, .int n, .int d, .bl o] none (some 3)))
    generalize L2.upd H4 p5 _ = H5 at *
    refine lc_all (walk_tup (K := K) (a := p5) (xs := [.int y, .int n, .int d])) yAt_same nD5 (by show 3 < sizeLine; decide) (fun j v _ => ∃ i : Int, [y, n, d][j]? = some i ∧ v = .str (Str.ofString (toString i))) (fun _ _ _ _ _ h => h) (fun _ _ _ _ _ _ h => h) (fun Hx sx => SqT.of (sx _ _ ep5)) ?_ ?_
    · rintro j x Ha Hb R hj sa ⟨rfl, hx⟩ k1
      obtain ⟨i, hi, rfl, zi⟩ : ∃ i : Int, [y, n, d][j]? = some i ∧ x = .int i ∧ Sz 400 i := by
        match j, hx with
        | 0, hx => cases hx; exact ⟨y, rfl, rfl, zy⟩
        | 1, hx => cases hx; exact ⟨n, rfl, rfl, zn⟩
        | 2, hx => cases hx; exact ⟨d, rfl, rfl, zd⟩
        | j + 3, hx => simp at hx
      exact ⟨rfl, _, rfl, sa_int (sz_log' zi) (k1 _ _ (Same.refl _) ⟨i, hi, rfl⟩)⟩
    intro us H6 hl eD6 s6 hp
    match us, hl with
    | [u1, u2, u3], _ =>
      obtain ⟨_, h1, rfl⟩ := hp 0 _ rfl
      obtain ⟨_, h2, rfl⟩ := hp 1 _ rfl
      obtain ⟨_, h3, rfl⟩ := hp 2 _ rfl
      cases h1
      cases h2
      cases h3
      have e6 := s6 _ _ e5
      have er6 := s6 _ _ er5
      have ly : (Str.ofString (toString y)).length ≤ 401 := by rw [numT_str]; exact numT_len (by decide) zy
      have lnn : (Str.ofString (toString n)).length ≤ 401 := by rw [numT_str]; exact numT_len (by decide) zn
      have ldd : (Str.ofString (toString d)).length ≤ 401 := by rw [numT_str]; exact numT_len (by decide) zd
      have lb := bls_len o
      have lo : ("odd=" : Str).length = 4 := by decide +kernel
      have lob : (("odd=" : Str) ++ blS o).length ≤ 9 := by rw [str_app_len]; omega
      refine ⟨_, rfl, r, _, _, _, rfl, rfl, SqT.of er6, rfl, sa_bl ⟨_, _, rfl, rfl, Nat.le_trans (Nat.add_le_add (Nat.le_of_eq lo) lb) (by decide), ln _, fun p7 n7 => ?_⟩⟩
      have s7 := Same.new (o := .lst [.str (("odd=" : Str) ++ blS o)]) n7
      refine ⟨D5, p7, _, _, rfl, rfl, (Same.new n7 _ _ eD6), upd_same, (by show 4 ≤ sizeLine; decide), fun p8 n8 => ?_⟩
      have s8 := s7.trans (Same.new (o := .lst ([.str (Str.ofString (toString y)), .str (Str.ofString (toString n)), .str (Str.ofString (toString d))] ++ [.str (("odd=" : Str) ++ blS o)])) n8)
      have e8 := s8 _ _ e6
      have er8 := s8 _ _ er6
      refine ⟨_, p8, [Str.ofString (toString y), Str.ofString (toString n), Str.ofString (toString d), ("odd=" : Str) ++ blS o], rfl, rfl, .inl (SqL.of upd_same), ?_, ?_⟩
      · have kc : (", " : Str).length = 2 := by decide +kernel
        simp only [List.map_cons, List.map_nil, List.sum_cons, List.sum_nil, kc, List.length_cons, List.length_nil]
        omega
      have s08 := s04.trans (s5'.trans (s6.trans s8))
      generalize hH8 : L2.upd (L2.upd H6 p7 _) p8 _ = H8 at *
      have er' := daR_eq y n d o
      have lj : (Txt.join (", " : Str) [Str.ofString (toString y), Str.ofString (toString n), Str.ofString (toString d), ("odd=" : Str) ++ blS o]).length ≤ 1230 := by
        have e0 : (Txt.join (", " : Str) [Str.ofString (toString y), Str.ofString (toString n), Str.ofString (toString d), ("odd=" : Str) ++ blS o]) = Str.ofString (toString y) ++ (", " : Str) ++ Str.ofString (toString n) ++ (", " : Str) ++ Str.ofString (toString d) ++ (", " : Str) ++ (("odd=" : Str) ++ blS o) := by
          refine str_ext ?_
          show (((((Str.ofString (toString y)).cps ++ (", " : Str).cps ++ (Str.ofString (toString n)).cps) ++ (", " : Str).cps ++ (Str.ofString (toString d)).cps) ++ (", " : Str).cps ++ (("odd=" : Str) ++ blS o).cps)).toList = _
          simp only [Array.toList_append, app_cps]
        rw [e0]
        have kc : (", " : Str).length ≤ 2 := lit_len
        exact Nat.le_trans (ap_len (ap_len (ap_len (ap_len (ap_len (ap_len ly kc) lnn) kc) ldd) kc) lob) (by decide)
      generalize Txt.join (", " : Str) [Str.ofString (toString y), Str.ofString (toString n), Str.ofString (toString d), ("odd=" : Str) ++ blS o] = wj at *
      -- the others
      refine ⟨_, rfl, r, _, _, _, rfl, rfl, SqT.of er8, rfl, _, rfl, r, _, _, _, rfl, rfl, SqT.of er8, rfl, _, rfl, r, _, _, _, rfl, rfl, SqT.of er8, rfl, _, rfl, r, _, _, _, rfl, rfl, SqT.of er8, rfl, _, rfl, made_da (R := fun p H1 => _) fun q1 dx1 H9 nq1 s9 eq1 => ?_⟩
      have er9 := s9 _ _ er8
      refine ⟨_, rfl, r, _, _, _, rfl, rfl, SqT.of er9, rfl, _, rfl, r, _, _, _, rfl, rfl, SqT.of er9, rfl, _, rfl, r, _, _, _, rfl, rfl, SqT.of er9, rfl, _, _, rfl, rfl, _, rfl, r, _, _, _, rfl, rfl, SqT.of er9, rfl, ?_⟩
      refine ⟨rfl, rfl, made_da (R := fun p H1 => _) fun q2 dx2 HA nq2 sA eq2 => ?_⟩
      refine ⟨ln _, fun po no => ?_⟩
      have sO := Same.new (o := .lst [.ref q1, .ref q2]) no
      have eo := upd_same (H := HA) (a := po) (o := .lst [.ref q1, .ref q2])
      have eA := (s9.trans (sA.trans sO)) _ _ e8
      have erA := (sA.trans sO) _ _ er9
      have eq1A := (sA.trans sO) _ _ eq1
      have eq2A := sO _ _ eq2
      have s0A := s08.trans (s9.trans (sA.trans sO))
      have np1 : p ≠ q1 := ne_of_none e8 nq1
      have np2 : p ≠ q2 := ne_of_none (s9 _ _ e8) nq2
      generalize hHB : L2.upd HA po _ = HB at *
      refine ⟨_, rfl, _, rfl, r, _, _, _, rfl, rfl, SqT.of erA, rfl, _, rfl, r, _, _, _, rfl, rfl, SqT.of erA, rfl, _, rfl, r, _, _, _, rfl, rfl, SqT.of erA, rfl, _, rfl, r, _, _, _, rfl, rfl, SqT.of erA, rfl, made_da (R := fun p H1 => _) fun q3 dx3 HC nq3 sC eq3 => ?_⟩
      have eC := sC _ _ eA
      have tt : (decide (y = y) && (decide (n = n) && (decide (d = d) && decide (o = o)))) = true := by simp
      refine ⟨p, dx, _, .ref Cd, rfl, eC, T.ty _ _ _ _ eq3, nf_self, p, .ref q3, y, n, d, o, rfl, ⟨dx, eC⟩, .inl ⟨q3, y, n, d, o, rfl, ⟨dx3, eq3⟩, _, rfl, _, rfl, no' (by rw [tt]; rfl) ?_⟩⟩
      refine ⟨_, rfl, _, rfl, po, _, fun _ => false, rfl, sC _ _ eo, ?_, fun HE xE => ?_⟩
      · intro i z hi HE xE
        have eE := xE _ _ eC
        have e1E := xE _ _ (sC _ _ eq1A)
        have e2E := xE _ _ (sC _ _ eq2A)
        match i, hi with
        | 0, hi =>
          cases hi
          refine .inl ⟨q1, dx1, _, rfl, e1E, .inr ⟨fun z => np1 (V.ref.inj z), .ref Cd, T.ty _ _ _ _ eE, nf_self, q1, .ref p, y, n, d, !o, rfl, ⟨dx1, e1E⟩, .inl ⟨p, y, n, d, o, rfl, ⟨dx, eE⟩, ?_⟩⟩⟩
          have : (decide (y = y) && (decide (n = n) && (decide (d = d) && decide ((!o) = o)))) = false := by cases o <;> simp
          rw [this]
          exact ⟨rfl, Ext.rfl'⟩
        | 1, hi =>
          cases hi
          refine .inl ⟨q2, dx2, _, rfl, e2E, .inr ⟨fun z => np2 (V.ref.inj z), .ref Cd, T.ty _ _ _ _ eE, nf_self, q2, .ref p, y, n, d + 1, o, rfl, ⟨dx2, e2E⟩, .inl ⟨p, y, n, d, o, rfl, ⟨dx, eE⟩, ?_⟩⟩⟩
          have : (decide (y = y) && (decide (n = n) && (decide (d + 1 = d) && decide (o = o)))) = false := by
            have : ¬ d + 1 = d := by omega
            simp [this]
          rw [this]
          exact ⟨rfl, Ext.rfl'⟩
        | j + 2, hi => simp at hi
      refine ⟨_, rfl, no' rfl ?_⟩
      have sE : Same HC HE := fun c u z => xE _ _ z
      have eE := sE _ _ eC
      have kD : ("Date(" : Str).length ≤ 5 := lit_len
      have kp : (")" : Str).length ≤ 1 := lit_len
      refine ⟨_, rfl, p, dx, _, rfl, eE, p, y, n, d, o, rfl, ⟨dx, eE⟩, zy, zn, zd, fun HF sF => ⟨_, rfl, ?_⟩⟩
      refine ⟨_, rfl, _, _, rfl, rfl, Nat.le_trans (Nat.add_le_add kD lj) (by decide), _, _, rfl, rfl, Nat.le_trans (Nat.add_le_add (ap_len kD lj) kp) (by decide), ?_⟩
      rw [← er']
      refine ⟨rfl, ?_⟩
      rw [decide_eq_true rfl]
      exact q HF (s0A.trans (sC.trans (sE.trans sF)))
end
/-! ### the law -/
def spLaw (K : PySem.W.Frag) : Sp := fun vs H Q _ => ∃ (a : Addr) (ns : List Int), vs = [.ref a] ∧ SqL K H a (ns.map V.int) ∧ ns.length ≤ 63 ∧ ∀ H', Q (.bl true) H'
theorem cut_ints {ns : List Int} {lo hi : Option Int} {j : Nat} {x : V} (h : (cutV (ns.map V.int) lo hi ++ [V.int 0])[j]? = some x) : ∃ c : Int, x = .int c := by
  have hx : x ∈ cutV (ns.map V.int) lo hi ++ [V.int 0] := List.mem_of_getElem? h
  rcases List.mem_append.mp hx with hx | hx
  · have h1 := List.mem_of_mem_take hx
    have h2 := List.mem_of_mem_drop h1
    obtain ⟨c, _, e⟩ := List.mem_map.mp h2
    exact ⟨c, e.symm⟩
  · exact ⟨0, List.mem_singleton.mp hx⟩
theorem cut_len {ns : List Int} {lo hi : Option Int} (h : ns.length ≤ 63) : (cutV (ns.map V.int) lo hi).length + ([V.int 0] : List V).length ≤ sizeLine := by
  have h1 := cutV_length (ns.map V.int) lo hi
  rw [List.length_map] at h1
  have h2 : ([V.int 0] : List V).length = 1 := rfl
  exact Nat.le_trans (show _ ≤ 64 by omega) (by decide)
/-! ### the law of dates read -/
def spR72 : Sp := fun vs H Q _ => ∃ l : Addr, vs = [.ref l] ∧ Dr H l 0 ∧ ∀ H', But l H H' → Q (.bl true) H'
theorem daS_sz {t : Str} {y n d : Int} {o : Bool} (hl : t.length ≤ 98) (hn : 0 ≤ n) (hd : 0 ≤ d) (e : t = daS y n d o) : Sz 400 y ∧ Sz 400 n ∧ Sz 400 d := by
  have l0 : t.length = ((((numT 10 y ++ ("-" : Str)) ++ (twoF n ++ oddS o)) ++ ("-" : Str)) ++ twoF d).length := by rw [e, daS_eq]
  have h1 := str_app_len (numT 10 y ++ ("-" : Str) ++ (twoF n ++ oddS o) ++ ("-" : Str)) (twoF d)
  have h2 := str_app_len (numT 10 y ++ ("-" : Str) ++ (twoF n ++ oddS o)) ("-" : Str)
  have h3 := str_app_len (numT 10 y ++ ("-" : Str)) (twoF n ++ oddS o)
  have h4 := str_app_len (numT 10 y) ("-" : Str)
  have h5 := str_app_len (twoF n) (oddS o)
  have a := nin_z (t := numT 10 y) (by omega)
  have b := nin_z (t := twoF n) (by omega)
  have c := nin_z (t := twoF d) (by omega)
  rw [nin_num (b := 10) (by decide) (by decide)] at a
  rw [nin_two hn] at b
  rw [nin_two hd] at c
  exact ⟨a, b, c⟩
theorem daS_inj {y n d y' n' d' : Int} {o o' : Bool} (hn : 0 ≤ n) (hd : 0 ≤ d) (hn' : 0 ≤ n') (hd' : 0 ≤ d') (e : daS y n d o = daS y' n' d' o') : y = y' ∧ n = n' ∧ d = d' ∧ o = o' := by
  obtain ⟨a1, a2, a3, a4⟩ := rdd_of hn hd (rfl : daS y n d o = daS y n d o)
  obtain ⟨b1, b2, b3, b4⟩ := rdd_of hn' hd' e
  exact ⟨a1.symm.trans b1, a2.symm.trans b2, a3.symm.trans b3, a4.symm.trans b4⟩
theorem op_eqLD {X : Cx} {C : Addr} {j : Nat} {qual : Str} {st : Stmt} {ps : List Str} (c : Cm X.prog X.w X.K X.mg X.base CX0 1 C "__eq__" qual st ps (spDaG X.K C)) (hr : Room j X.A) (hk : 2 ≤ j) (b : Bd "__eq__" qual st ps := by exact b_Date_eq) : OpR X (compareOp .Eq) (rEqLF (DOwn X.K C (spDaG X.K C) E0)) := by
  obtain ⟨f, fd, F, M, hc, G⟩ := c.ex
  exact op_eqLF (eqB_own G M.1 M.2 (F.bindsN b) pass0) (hr.mono hk)
section
variable {P : Program} {w : World} {K : PySem.W.Frag} {mg : Str → Option Value} {base : Heap} {Cd : Addr}
theorem eq_pl {H : Hp} {p : Addr} {z : V} {T : String} {y n d : Int} {o : Bool} {Q : VK} {E : XK} (O : OwnC K Cd) (pl : Pl K H z T) (h : Da Cd H p y n d o) (q : Q (.bl false) H) : spDaG K Cd [.ref p, z] H Q E := ⟨p, z, y, n, d, o, rfl, h, .inr ⟨.type T, pl.tyx, O.kit pl, q⟩⟩
theorem ok_lright74 (D : Df K mg "_law_right" s_l_right []) (O : OwnC K Cd) (g_range : mg "range" = none) (f_l_fields : Ca P w K mg base CX0 2 "_law_fields" s_l_fields [] ["_law_draws_here"] spFld) (f_l_written : Ca P w K mg base CX0 3 "_law_written" s_l_written [] ["_law_draws_here", "_law_fields_here"] spWr74) (f_l_due : Ca P w K mg base CX0 3 "_law_due" s_l_due [] ["_law_a_text"] spDue74) (f_l_asked : Ca P w K mg base CX0 9 "_law_asked" s_l_asked [] ["_law_a_text", "_law_way"] (spAskD Cd))
    (f_l_is_date : Ca P w K mg base CX0 8 "_law_is_date" s_l_is_date [] ["_law_date", "_law_due_here", "_law_a_text"] (spIsD Cd)) (f_Date_eq : Cm P w K mg base CX0 1 Cd "__eq__" "Date.__eq__" s_Date_eq ["self", "other"] (spDaG K Cd)) : Ca P w K mg base CX0 11 "_law_right" s_l_right [] ["_law_draws_here"] spR72 := by
  refine ca0 (k := 10) D c_l_right (fun vs H Q E h => ?_) fun f cdv A outer s H vs Q E hr h => ?_
  · obtain ⟨l, rfl, _⟩ := h
    rfl
  · obtain ⟨l, rfl, d, q⟩ := h
    refine ⟨_, (pss_cons (ps_for PassesOwn.never rfl (pi_range1 rfl g_range (pa_cons pe_int pa_nil)) (pg_name (i := 1) c_l_right.nd rfl (.inl rfl)) (pss_cons (ps_set (i := 2) c_l_right.nd rfl (.inl rfl) (pe_ca f_l_written b_l_written hr (by decide) pass0 rfl (pa_cons (pv 0) (pa_cons (pe_ca f_l_fields b_l_fields hr (by decide) pass0 rfl (pa_cons (pv 0) pa_nil)) pa_nil))))
      (pss_cons (ps_set (i := 3) c_l_right.nd rfl (.inl rfl) (pe_ca f_l_due b_l_due hr (by decide) pass0 rfl (pa_cons (pv 2) pa_nil)))
      (pss_cons (ps_set (i := 4) c_l_right.nd rfl (.inl rfl) (pe_ca f_l_asked b_l_asked hr (by decide) pass0 rfl (pa_cons (pv 2) (pa_cons (pe_op op_mod (pv 1) pe_int) pa_nil))))
      (pss_cons (ps_if (PW.pt (pw_and (pt_cmp (pc_isN (pv 3))) (pw_and1 (pt_cmpR (op_neD hr.units) (pv 4) (pe_lst (pa_cons pe_str pa_nil)) (nomark _))))) (pss_one (ps_ret pe_bl)) pss_nil)
      (pss_one (ps_if (PW.pt (pw_and (pt_cmp (pc_notN (pv 3))) (pw_and1 (PW.pt (pw_or (pt_cmpR (op_eqLD f_Date_eq hr (by decide)) (pv 4) (pe_lst (pa_cons pe_str pa_nil)) (nomark _)) (pw_or1 (pt_not (pt_val (pe_ca f_l_is_date b_l_is_date hr (by decide) pass0 rfl (pa_cons (pe_ix ix_list (pv 4) pe_int (fun _ _ => rfl)) (pa_cons (pv 3) (pa_cons (pv 2) pa_nil)))))))))))) (pss_one (ps_ret pe_bl)) pss_nil)))))))
      (pss_one (ps_ret pe_bl))), ?_⟩
    refine ⟨8, rfl, by decide, by decide, ?_⟩
    refine for_range (n := 8) (fun i σ H3 => ∃ v1 v2 v3 v4 : Option V, σ = [some (.ref l), v1, v2, v3, v4] ∧ But l H H3 ∧ Dr H3 l (10 * i)) ⟨_, _, _, _, rfl, But.refl, d⟩ ?_ ?_
    · rintro i σ H3 hi ⟨v1, v2, v3, v4, rfl, b3, d3⟩
      refine ⟨_, rfl, _, rfl, l, _, rfl, d3, by omega, fun r y n dd o H4 zy n0 zn d0 zd b4 d4 er => ?_⟩
      refine ⟨l, r, _, y, n, dd, o, rfl, d4, by omega, er, zy, zn, zd, fun t H5 lt b5 d5 => ?_⟩
      have b35 := (b3.trans b4).trans b5
      have lt' : t.length ≤ 98 := by omega
      have fin : ∀ (H9 : Hp) (w1 w2 w3 w4 : Option V), Same H5 H9 → ∃ v1 v2 v3 v4 : Option V, [some (V.ref l), w1, w2, w3, w4] = [some (V.ref l), v1, v2, v3, v4] ∧ But l H H9 ∧ Dr H9 l (10 * (i + 1)) := fun H9 w1 w2 w3 w4 s9 => ⟨_, _, _, _, rfl, b35.trans (But.same s9), (d5.same s9 (Nat.le_refl _)).mono (by omega)⟩
      refine ⟨_, rfl, t, rfl, lt, fun y n dd o n0 d0 ex pd H6 s6 hd => ?_, fun hno H6 s6 => ?_⟩
      · refine ⟨_, rfl, _, rfl, _, _, rfl, rfl, md, t, _, rfl, lt', fun y2 n2 d2 o2 n02 d02 ex2 rr lp H7 s7 hs el => ?_, fun hno => absurd ex (hno y n dd o n0 d0)⟩
        obtain ⟨rfl, rfl, rfl, rfl⟩ := daS_inj n02 d02 n0 d0 (ex2.symm.trans ex)
        obtain ⟨zy2, zn2, zd2⟩ := daS_sz lt' n0 d0 ex
        obtain ⟨dx, err⟩ := id hs
        refine ⟨_, rfl, _, rfl, iteF (iteF ?_)⟩
        refine ⟨_, rfl, _, rfl, iteT ?_⟩
        refine ⟨_, rfl, ln _, fun pc nc => ?_⟩
        have sc := Same.new (o := .lst [.str ("none" : Str)]) nc
        refine ⟨lp, pc, .ref rr, .str ("none" : Str), [], [], rfl, rfl, sc _ _ el, upd_same, rfl, fun H8 x8 => ?_, fun H8 x8 => ?_⟩
        · have e8 := x8 _ _ (sc _ _ err)
          exact .inl ⟨rr, dx, _, rfl, e8, .inr ⟨fun z => (by cases z), .type "str", (Pl.str _).tyx, (Pl.str (K := K) (H := H8) ("none" : Str)).first, eq_pl O (.str _) ⟨dx, e8⟩ ⟨rfl, Ext.rfl'⟩⟩⟩
        have s8 : Same H7 H8 := fun c u z => x8 _ _ (sc _ _ z)
        refine ⟨_, rfl, no' rfl ?_⟩
        refine ⟨_, rfl, lp, _, _, _, rfl, rfl, SqL.of (s8 _ _ el), rfl, _, rfl, _, rfl, rr, pd, _, _, _, _, t, rfl, hs.same s8, s8 _ _ (s7 _ _ hd), ex, zy2, zn2, zd2, fun H9 s9 => ?_⟩
        refine ⟨_, rfl, no' rfl ?_⟩
        exact fin _ _ _ _ _ (s6.trans (s7.trans (s8.trans s9)))
      · refine ⟨_, rfl, _, rfl, _, _, rfl, rfl, md, t, _, rfl, lt', fun y2 n2 d2 o2 n02 d02 ex2 => absurd ex2 (hno y2 n2 d2 o2 n02 d02), fun _ lp H7 s7 el => ?_⟩
        refine ⟨_, rfl, _, rfl, iteT ?_⟩
        refine ⟨_, rfl, ln _, fun pc nc => ?_⟩
        have sc := Same.new (o := .lst [.str ("none" : Str)]) nc
        refine ⟨.list [.str ("none" : Str)], .list [.str ("none" : Str)], .lst (SqL.of (sc _ _ el)) (.cons (.str _) .nil), .lst (SqL.of upd_same) (.cons (.str _) .nil), (by decide +kernel), (by decide +kernel), _, rfl, no' (by simp [PyData.eqv, PyData.eqvAll]) ?_⟩
        refine ⟨_, rfl, _, rfl, iteF (iteF ?_)⟩
        exact fin _ _ _ _ _ (s6.trans (s7.trans sc))
    · rintro σ H3 ⟨v1, v2, v3, v4, rfl, b3, d3⟩
      exact q H3 b3
theorem ok_law (D : Df K mg "law" s_law []) (f_l_draws : Ca P w K mg base CX0 1 "_law_draws" s_l_draws [] ["_law_cell"] spDraws) (f_l_right : Ca P w K mg base CX0 11 "_law_right" s_l_right [] ["_law_draws_here"] spR72) : Ca P w K mg base CX0 13 "law" s_law [] ["_law_script"] (spLaw K) := by
  refine ca0 (k := 12) D c_law (fun vs H Q E h => ?_) fun f cdv A outer s H vs Q E hr h => ?_
  · obtain ⟨a, ns, rfl, _⟩ := h
    rfl
  · obtain ⟨a, ns, rfl, hS, hlen, q⟩ := h
    refine ⟨_, (pss_cons (ps_for PassesOwn.never rfl (pi_list (pe_op op_cat (pe_slice sl_list (pv 0) po_none (po_some pe_int)) (pe_lst (pa_cons pe_int pa_nil)))) (pg_name (i := 1) c_law.nd rfl (.inl rfl)) (pss_one (ps_if (pt_not (pt_val (pe_ca f_l_right b_l_right hr (by decide) pass0 rfl (pa_cons (pe_ca f_l_draws b_l_draws hr (by decide) pass0 rfl (pa_cons (pv 1) pa_nil)) pa_nil)))) (pss_one (ps_ret pe_bl)) pss_nil)))
      (pss_one (ps_ret pe_bl))), ?_⟩
    refine ⟨_, rfl, _, rfl, a, _, rfl, hS, fun p1 n1 => ?_⟩
    refine ⟨(by show 1 ≤ sizeLine; decide), fun p2 n2 => ?_⟩
    have ne12 : p1 ≠ p2 := ne_of_none upd_same n2
    refine ⟨p1, p2, _, _, rfl, rfl, (by rw [upd_ne ne12]; exact upd_same), upd_same, cut_len hlen, fun l3 n3 => ?_⟩
    generalize hH0 : L2.upd _ l3 (.lst (cutV (ns.map V.int) none (some 8) ++ [V.int 0])) = H0
    have hl3 : H0 l3 = some (.lst (cutV (ns.map V.int) none (some 8) ++ [V.int 0])) := by rw [← hH0]; exact upd_same
    refine ⟨l3, rfl, ⟨_, SqL.of hl3⟩, for_list (K := K) (a := l3) (xs := cutV (ns.map V.int) none (some 8) ++ [V.int 0]) (fun i σ H' => ∃ v1 : Option V, σ = [some (.ref a), v1] ∧ H' l3 = some (.lst (cutV (ns.map V.int) none (some 8) ++ [V.int 0])))
      ⟨_, rfl, hl3⟩ (fun i σ H' _ ⟨_, _, e⟩ => SqL.of e) ?_ (fun σ H' ⟨_, e, _⟩ => by subst e; exact q H')⟩
    rintro i x σ H1 hi ⟨v1, rfl, e3⟩
    obtain ⟨c, rfl⟩ := cut_ints hi
    refine ⟨_, rfl, c, rfl, fun l H2 nl s2 d2 => ?_⟩
    have nel : l3 ≠ l := ne_of_none e3 nl
    exact ⟨l, rfl, d2, fun H3 b3 => ⟨_, rfl, no' rfl ⟨_, rfl, b3 _ _ nel (s2 _ _ e3)⟩⟩⟩
end
/-! ### makers of facts -/
theorem dx_mk {K : PySem.W.Frag} {qual : Str} {st : Stmt} {f C : Addr} {oc kV doc pm cdv ct : Value} {od an : Option Addr} {osl : Array (Option Value)} (a : PySem.W.findIn K (.ref C) "__init__" = some (some (.ref f)))
    (l : K.lookup f = some ⟨oc, od, .func (PySem.W.fnOf "__init__" qual (defArgs st) (defBody st) (defScope st) .none kV doc pm an cdv ct), osl⟩) (c : PySem.W.codeIn K cdv qual = true) (k : PySem.W.keepIn K (.ref f) = true) (t : PySem.W.typeIn K (.ref f) = some (.type "function")) : Dx K C qual st :=
  ⟨f, _, ⟨⟨oc, od, .none, kV, doc, pm, an, cdv, ct, osl, rfl, l, c, .inl ⟨rfl, rfl⟩, .inl rfl⟩, k⟩, a, t⟩
theorem any_exm {K : PySem.W.Frag} {D : Addr} {cs : List Value} (h : ∀ c ∈ cs, ∃ b, PySem.W.exmOne K (.ref D) c = some b) {c : Value} (hc : c ∈ cs) (h1 : PySem.W.exmOne K (.ref D) c = some true) : ∃ B : Value → Bool, (∀ c ∈ cs, PySem.W.exmOne K (.ref D) c = some (B c)) ∧ cs.any B = true := by
  refine ⟨fun c => (PySem.W.exmOne K (.ref D) c).getD false, fun c hc => ?_, List.any_eq_true.mpr ⟨c, hc, by rw [h1]; rfl⟩⟩
  obtain ⟨b, hb⟩ := h c hc
  show _ = some ((PySem.W.exmOne K (.ref D) c).getD false)
  rw [hb]
  rfl
theorem oxv_mk {K : PySem.W.Frag} {C : Addr} {nm q N bs sn sub ab col dd k0 k1 k2 k3 k5} (l : K.lookup C = some (excClassObj nm q C N bs bmV true sn sub ab col dd k0 k1 k2 k3 k5 "ValueError.__new__")) (sa : PySem.W.findIn K (.ref C) "__setattr__" = some (some (.builtin "object.__setattr__")))
    (exC : PySem.W.subIn K (.ref C) (.type "BaseException") = some true) (tyC : PySem.W.typeIn K (.ref C) = some (.type "type")) (kC : PySem.W.keepIn K (.ref C) = true) : OxV K C := ⟨PySem.F.excBase_ValueError, PySem.F.store_ValueError, by decide +kernel, ⟨_, _, _, _, _, _, _, _, _, _, _, _, _, _, l⟩, sa, exC, tyC, kC⟩
theorem df_mkD {K : PySem.W.Frag} {h : Heap} {mg : Str → Option Value} {x : Str} {st : Stmt} {f T : Addr} {oc kV doc pm cdv ct : Value} {od an : Option Addr} {osl : Array (Option Value)} {nT : Nat} {its : List Value} {dvs : List V} (X : K.In h) (G : h.Ns mainGlobals mg) (a : PySem.W.nsIn K mainGlobals x = some (some (.ref f)))
    (l : K.lookup f = some ⟨oc, od, .func (PySem.W.fnOf x x (defArgs st) (defBody st) (defScope st) (.ref T) kV doc pm an cdv ct), osl⟩) (c : PySem.W.codeIn K cdv x = true) (k : PySem.W.keepIn K (.ref f) = true) {oT : Obj} (lT : K.lookup T = some oT) (eT : oT.data = .seq its.toArray nT) (r : Vals dvs its) (ne : dvs ≠ []) : Df K mg x st dvs :=
  ⟨f, _, ⟨⟨oc, od, .ref T, kV, doc, pm, an, cdv, ct, osl, rfl, l, c, .inr ⟨ne, T, _, its, nT, rfl, lT, eT, r⟩, .inl rfl⟩, k⟩, PySem.W.mg_of X G a⟩
theorem net_mk {K : PySem.W.Frag} {C : Addr} {nm q N bs hd sn sub ab col dd k0 k1 k2 k3 k5 nw} (ne : PySem.W.findIn K (.ref C) "__ne__" = some (some (.builtin "object.__ne__"))) (l : K.lookup C = some (excClassObj nm q C N bs [.type "object"] hd sn sub ab col dd k0 k1 k2 k3 k5 nw)) : NeT K C := ⟨ne, ⟨_, _, _, _, _, _, _, _, _, _, _, _, _, _, _, _, l⟩⟩
/-! ### what the top has written -/
theorem fin {P : Program} {w : World} {K : PySem.W.Frag} {mg : Str → Option Value} {fa Cd CN C_NoShare C_NoCalendar C_NoDate C_NoWheel C_NoName C_NoDay C_Taken C_NoNote C_NoDeed : Addr} (hfa : mg "law" = some (.ref fa))
    (hn : PySem.W.specialIn K (.builtin "object.__class__") "__get__" = some (some (.builtin "getset_descriptor.__get__"))) (htk : PySem.W.takesIn K (.builtin "object.__class__") = some true)
    (cld : Cls K Cd) (e1 : PySem.W.findIn K (.ref Cd) "year" = some none) (e2 : PySem.W.findIn K (.ref Cd) "number" = some none) (e3 : PySem.W.findIn K (.ref Cd) "day" = some none) (e4 : PySem.W.findIn K (.ref Cd) "odd" = some none)
    (had : PySem.W.findIn K (.ref Cd) "__class__" = some (some (.builtin "object.__class__"))) (hmd : PySem.W.mroIn K Cd (.type "object") = some true) (hDate : mg "Date" = some (.ref Cd))
    (dDate : Di K mg "Date" Cd "Date.__init__" s_Date_init [.bl false]) (dDateEq : Dm K Cd "__eq__" "Date.__eq__" s_Date_eq)
    (dDateStr : Dm K Cd "__str__" "Date.__str__" s_Date_str)
    (dDateRepr : Dm K Cd "__repr__" "Date.__repr__" s_Date_repr)
    (NT : NeT K Cd)
    (O : OwnC K Cd)
    (o_NoShare : Oc K mg CN "NoShare" C_NoShare false) (o_NoCalendar : Oc K mg CN "NoCalendar" C_NoCalendar false) (o_NoDate : Oc K mg CN "NoDate" C_NoDate false) (o_NoWheel : Oc K mg CN "NoWheel" C_NoWheel false) (o_NoName : Oc K mg CN "NoName" C_NoName false) (o_NoDay : Oc K mg CN "NoDay" C_NoDay false) (o_Taken : Oc K mg CN "Taken" C_Taken false) (o_NoText : Oc K mg CN "NoText" CN true) (o_NoNote : Oc K mg CN "NoNote" C_NoNote false) (o_NoDeed : Oc K mg CN "NoDeed" C_NoDeed false)
    (r_NoShare : CN ≠ C_NoShare) (r_NoCalendar : CN ≠ C_NoCalendar) (r_NoDate : CN ≠ C_NoDate) (r_NoWheel : CN ≠ C_NoWheel) (r_NoName : CN ≠ C_NoName) (r_NoDay : CN ≠ C_NoDay) (r_Taken : CN ≠ C_Taken) (r_NoNote : CN ≠ C_NoNote) (r_NoDeed : CN ≠ C_NoDeed)
    (t_ZeroDivisionError : PySem.W.subIn K (.ref CN) (.type "ZeroDivisionError") = some false) (t_LookupError : PySem.W.subIn K (.ref CN) (.type "LookupError") = some false) (t_ValueError : PySem.W.subIn K (.ref CN) (.type "ValueError") = some true) (t_KeyError : PySem.W.subIn K (.ref CN) (.type "KeyError") = some false) (t_IndexError : PySem.W.subIn K (.ref CN) (.type "IndexError") = some false) (t_RuntimeError : PySem.W.subIn K (.ref CN) (.type "RuntimeError") = some false)
    (xc : XcF K CN) (ox : OxV K CN) (no_at : PySem.W.findIn K (.ref CN) "at" = some none) (vV : PySem.W.findCls K (.type "ValueError") (.type "type") "__init__" = some (.val (.builtin "ValueError.__init__")))
    (dEx : Dx K CN "NoText.__init__" s_NoText_init)
    {uF : Value} (aF : mg "FIGURES" = some uF) (rF : RelV (.str FIG) uF)
    (g_abs : mg "abs" = none) (g_range : mg "range" = none) (g_isinstance : mg "isinstance" = none) (g_bool : mg "bool" = none) (g_int : mg "int" = none) (g_str : mg "str" = none) (g_len : mg "len" = none) (g_reversed : mg "reversed" = none) (g_repr : mg "repr" = none) (g_ValueError : mg "ValueError" = none)
    (d_numeral : Df K mg "numeral" s_numeral [.int 10])
    (d_number_in : Df K mg "number_in" s_number_in [.int 10])
    (d_two_figures : Df K mg "two_figures" s_two_figures []) (d_odd_sign : Df K mg "odd_sign" s_odd_sign []) (d_read_date : Df K mg "read_date" s_read_date []) (d_l_draws : Df K mg "_law_draws" s_l_draws []) (d_l_next : Df K mg "_law_next" s_l_next []) (d_l_whole : Df K mg "_law_whole" s_l_whole []) (d_l_kinds : Df K mg "_law_kinds" s_l_kinds []) (d_l_value : Df K mg "_law_value" s_l_value []) (d_l_bent : Df K mg "_law_bent" s_l_bent []) (d_l_text : Df K mg "_law_text" s_l_text []) (d_l_fields : Df K mg "_law_fields" s_l_fields []) (d_l_written : Df K mg "_law_written" s_l_written []) (d_l_two : Df K mg "_law_two" s_l_two []) (d_l_due : Df K mg "_law_due" s_l_due []) (d_l_asked : Df K mg "_law_asked" s_l_asked []) (d_l_is_date : Df K mg "_law_is_date" s_l_is_date []) (d_l_right : Df K mg "_law_right" s_l_right []) (d_law : Df K mg "law" s_law []) :
    ∃ fd : FuncData, (∀ (s : Shared) (u : Value), BindsTo s fd ⟨[u], []⟩ [("_law_script", u)]) ∧ ∀ base : Heap, K.In base → base.Ns mainGlobals mg → FnOk P w K mg base CX0 13 fa fd ["_law_script"] (spLaw K) := by
  refine fin_of hfa d_law b_law fun base => ?_
  obtain ⟨tF, eF⟩ := rF
  have hF : mg "FIGURES" = some (.str FIG tF) := by rw [aF, eF]
  have nu := ok_num (P := P) (w := w) (base := base) d_numeral hF g_abs g_reversed
  have nx := ok_next (P := P) (w := w) (base := base) d_l_next
  have dr := ok_draws (P := P) (w := w) (base := base) d_l_draws g_range
  have ni := ok_ninG (P := P) (w := w) (base := base) d_number_in hF
  have Td : DaT K Cd := ⟨cld, e1, e2, e3, e4, fun H a dx fs e => .base (.ins e cld had hn htk hmd)⟩
  have dI := ok_daI (P := P) (w := w) (base := base) dDate Td
  have dE := ok_daG (P := P) (w := w) (base := base) dDateEq Td g_isinstance hDate
  have tw := ok_twoF d_two_figures nu
  have os := ok_oddS (P := P) (w := w) (base := base) d_odd_sign
  have dS := ok_daS dDateStr Td nu tw os
  have dR := ok_daR dDateRepr Td nu
  have NS : NtT K mg CN := ⟨ox, no_at, vV, g_ValueError, o_NoText.m⟩
  have ns := ok_nt (P := P) (w := w) (base := base) dEx NS
  have rd := ok_rd d_read_date NS ns Td g_str ni dI dS
  have KD : KdF K mg CN false false false false false false false true false false false false true false false false C_NoShare C_NoCalendar C_NoDate C_NoWheel C_NoName C_NoDay C_Taken CN C_NoNote C_NoDeed :=
    { xc := xc, m0 := o_NoShare.m, m1 := o_NoCalendar.m, m2 := o_NoDate.m, m3 := o_NoWheel.m, m4 := o_NoName.m, m5 := o_NoDay.m, m6 := o_Taken.m, m7 := o_NoText.m, m8 := o_NoNote.m, m9 := o_NoDeed.m, k0 := o_NoShare.kit fun z => absurd z r_NoShare, k1 := o_NoCalendar.kit fun z => absurd z r_NoCalendar, k2 := o_NoDate.kit fun z => absurd z r_NoDate, k3 := o_NoWheel.kit fun z => absurd z r_NoWheel, k4 := o_NoName.kit fun z => absurd z r_NoName, k5 := o_NoDay.kit fun z => absurd z r_NoDay, k6 := o_Taken.kit fun z => absurd z r_Taken, k7 := o_NoText.kit fun _ => rfl, k8 := o_NoNote.kit fun z => absurd z r_NoNote, k9 := o_NoDeed.kit fun z => absurd z r_NoDeed, t0 := kit_typ (by decide +kernel) t_ZeroDivisionError, t1 := kit_typ (by decide +kernel) t_LookupError, t2 := kit_typ (by decide +kernel) t_ValueError, t3 := kit_typ (by decide +kernel) t_KeyError, t4 := kit_typ (by decide +kernel) t_IndexError, t5 := kit_typ (by decide +kernel) t_RuntimeError }
  have XA := any_exm (K := K) (D := CN) (cs := [Value.ref C_NoCalendar, .ref C_NoDate, .ref C_NoDay, .ref C_NoDeed, .ref C_NoName, .ref C_NoNote, .ref C_NoShare, .ref CN, .ref C_NoWheel, .ref C_Taken]) (by
    intro c hc
    simp only [List.mem_cons, List.not_mem_nil, or_false] at hc
    rcases hc with rfl | rfl | rfl | rfl | rfl | rfl | rfl | rfl | rfl | rfl
    · exact ⟨_, o_NoCalendar.exm⟩
    · exact ⟨_, o_NoDate.exm⟩
    · exact ⟨_, o_NoDay.exm⟩
    · exact ⟨_, o_NoDeed.exm⟩
    · exact ⟨_, o_NoName.exm⟩
    · exact ⟨_, o_NoNote.exm⟩
    · exact ⟨_, o_NoShare.exm⟩
    · exact ⟨_, o_NoText.exm⟩
    · exact ⟨_, o_NoWheel.exm⟩
    · exact ⟨_, o_Taken.exm⟩) (c := .ref CN) (by simp) o_NoText.exm
  have kd := ok_kinds (P := P) (w := w) (base := base) d_l_kinds KD g_isinstance
  have wh := ok_lwhole (P := P) (w := w) (base := base) d_l_whole g_isinstance g_int g_bool
  have vl := ok_lval (P := P) (w := w) (base := base) d_l_value g_int
  have be := ok_lbentS d_l_bent nx g_len
  have tx := ok_ltext74 (P := P) (w := w) (base := base) d_l_text g_int g_str
  have fl := ok_lfields74 d_l_fields nx
  have wr := ok_lwritten74 d_l_written nx tx be
  have lt := ok_ltwo d_l_two g_int g_str g_len vl
  have du := ok_ldue74 d_l_due vl lt
  have as' := ok_lasked74 d_l_asked KD XA NS g_isinstance g_ValueError rd kd
  have isd := ok_lisd d_l_is_date Td NT g_isinstance g_bool g_int g_str g_repr hDate wh dI dE dS dR
  have rg := ok_lright74 d_l_right O g_range fl wr du as' isd dE
  exact ok_law d_law dr rg
theorem walk {l : PySem.W.OpenLaw} {q : Program} {loose : List Str} {XP : (Str → Option Value) → Heap → Prop} {YP : World → Heap → Prop} {d : DefRec} {K : Params → PySem.W.Frag} (hn : l.most = some 63) (hdf : d.params.defaults = [])
    (hY : ∀ (w : World) (h : Heap), YP w h → (K w.params).In h)
    (F : ∀ (w : World) (mg : Str → Option Value) (fa : Addr) (h : Heap), (K w.params).In h → h.Ns mainGlobals mg → mg d.name = some (.ref fa) →
      ∃ fd : FuncData, (∀ (s : Shared) (u : Value), BindsTo s fd ⟨[u], []⟩ [("_law_script", u)]) ∧ ∀ base : Heap, (K w.params).In base → base.Ns mainGlobals mg → FnOk l.prog w (K w.params) mg base CX0 13 fa fd ["_law_script"] (spLaw (K w.params))) :
    PySem.W.WalkO q loose XP YP l.row.toRowW d [] (fun f vs => PySem.call f vs) :=
  L2.walk_of (n := 63) (k := 13) (x := "_law_script") (CX := fun _ => CX0) (sp := fun w => spLaw (K w.params)) hn (by decide) hdf ⟨rfl, by decide, by decide⟩ hY F (fun _ _ a ns hl _ hS => ⟨a, ns, rfl, hS, hl, fun _ => rfl⟩) fun _ _ _ _ _ z => z
end MM
open PySem PySem.W PyProof.Rows in
set_option maxRecDepth 100000 in
set_option maxHeartbeats 0 in
theorem PySem.Challenge.cw_meanmoon_k74_dates_read_holds : PySem.Challenge.rw_meanmoon_k74_dates_read.Holds := by
  w_on; o_law; k_head; (case hw => w_witness2)
  k_fill
  refine MM.walk (l := PySem.Challenge.rw_meanmoon_k74_dates_read) rfl rfl (fun w h Y => PySem.W.kIn_of Y) ?F
  case F =>
    intro w mg fa h KX G hmg
    refine' MM.fin hmg
      ?hn ?htk
      ⟨?pgd, ?hdd, ?pod, ?sad⟩ ?dy1 ?dy2 ?dy3 ?dy4 ?had ?hmd (PySem.W.mg_of KX G ?aE)
      (MM.di_mk (its := [_]) (PySem.W.mg_of KX G ?aE) ?t1 ?t2 ?t3 ?t4 ?t5 ?t6 ?t7 ?t8 ?t9 (.cons rfl .nil) (by decide))
      (MM.dm_mk ⟨?pgd, ?hdd, ?pod, ?sad⟩ ?aq ?iq ?lq ?cq ?kq)
      (MM.dm_mk ⟨?pgd, ?hdd, ?pod, ?sad⟩ ?mdDateStra ?mdDateStri ?mdDateStrl ?mdDateStrc ?mdDateStrk)
      (MM.dm_mk ⟨?pgd, ?hdd, ?pod, ?sad⟩ ?mdDateRepra ?mdDateRepri ?mdDateReprl ?mdDateReprc ?mdDateReprk)
      (MM.net_mk ?NT1 ?NT2)
      ⟨?O_0, ?O_1, ?O_2, ?O_3, ?O_4, ?O_5, ?O_6, ?O_7⟩
      ⟨PySem.W.mg_of KX G ?x_NoShare, ?xi_NoShare, ?xt_NoShare, ?xe_NoShare, ?xs_NoShare⟩
      ⟨PySem.W.mg_of KX G ?x_NoCalendar, ?xi_NoCalendar, ?xt_NoCalendar, ?xe_NoCalendar, ?xs_NoCalendar⟩
      ⟨PySem.W.mg_of KX G ?x_NoDate, ?xi_NoDate, ?xt_NoDate, ?xe_NoDate, ?xs_NoDate⟩
      ⟨PySem.W.mg_of KX G ?x_NoWheel, ?xi_NoWheel, ?xt_NoWheel, ?xe_NoWheel, ?xs_NoWheel⟩
      ⟨PySem.W.mg_of KX G ?x_NoName, ?xi_NoName, ?xt_NoName, ?xe_NoName, ?xs_NoName⟩
      ⟨PySem.W.mg_of KX G ?x_NoDay, ?xi_NoDay, ?xt_NoDay, ?xe_NoDay, ?xs_NoDay⟩
      ⟨PySem.W.mg_of KX G ?x_Taken, ?xi_Taken, ?xt_Taken, ?xe_Taken, ?xs_Taken⟩
      ⟨PySem.W.mg_of KX G ?x_NoText, ?xi_NoText, ?xt_NoText, ?xe_NoText, ?xs_NoText⟩
      ⟨PySem.W.mg_of KX G ?x_NoNote, ?xi_NoNote, ?xt_NoNote, ?xe_NoNote, ?xs_NoNote⟩
      ⟨PySem.W.mg_of KX G ?x_NoDeed, ?xi_NoDeed, ?xt_NoDeed, ?xe_NoDeed, ?xs_NoDeed⟩
      ?xr_NoShare ?xr_NoCalendar ?xr_NoDate ?xr_NoWheel ?xr_NoName ?xr_NoDay ?xr_Taken ?xr_NoNote ?xr_NoDeed
      ?ty_ZeroDivisionError ?ty_LookupError ?ty_ValueError ?ty_KeyError ?ty_IndexError ?ty_RuntimeError
      ⟨?xc_0, ?xc_1, ?xc_2, ?xc_3, ?xc_4, ?xc_5, ?xc_6, ?xc_7⟩
      (MM.oxv_mk ?ol ?osa ?oex ?oty ?okp) ?noat ?vV
      (MM.dx_mk ?da ?dl ?dc ?dk ?dt)
      (PySem.W.mg_of KX G ?gl_FIGURES) ?gr_FIGURES
      (PySem.W.mg_none_of KX G ?z0)
      (PySem.W.mg_none_of KX G ?z1)
      (PySem.W.mg_none_of KX G ?z2)
      (PySem.W.mg_none_of KX G ?z3)
      (PySem.W.mg_none_of KX G ?z4)
      (PySem.W.mg_none_of KX G ?z5)
      (PySem.W.mg_none_of KX G ?z6)
      (PySem.W.mg_none_of KX G ?z7)
      (PySem.W.mg_none_of KX G ?z8)
      (PySem.W.mg_none_of KX G ?z9)
      (MM.df_mkD (its := [_]) KX G ?q1_numeral ?q2_numeral ?q3_numeral ?q4_numeral ?q5_numeral ?q6_numeral ?q7_numeral (by decide))
      (MM.df_mkD (its := [_]) KX G ?q1_number_in ?q2_number_in ?q3_number_in ?q4_number_in ?q5_number_in ?q6_number_in ?q7_number_in (by decide))
      (MM.df_mk KX G ?a_two_figures ?l_two_figures ?c_two_figures ?k_two_figures)
      (MM.df_mk KX G ?a_odd_sign ?l_odd_sign ?c_odd_sign ?k_odd_sign)
      (MM.df_mk KX G ?a_read_date ?l_read_date ?c_read_date ?k_read_date)
      (MM.df_mk KX G ?a_l_draws ?l_l_draws ?c_l_draws ?k_l_draws)
      (MM.df_mk KX G ?a_l_next ?l_l_next ?c_l_next ?k_l_next)
      (MM.df_mk KX G ?a_l_whole ?l_l_whole ?c_l_whole ?k_l_whole)
      (MM.df_mk KX G ?a_l_kinds ?l_l_kinds ?c_l_kinds ?k_l_kinds)
      (MM.df_mk KX G ?a_l_value ?l_l_value ?c_l_value ?k_l_value)
      (MM.df_mk KX G ?a_l_bent ?l_l_bent ?c_l_bent ?k_l_bent)
      (MM.df_mk KX G ?a_l_text ?l_l_text ?c_l_text ?k_l_text)
      (MM.df_mk KX G ?a_l_fields ?l_l_fields ?c_l_fields ?k_l_fields)
      (MM.df_mk KX G ?a_l_written ?l_l_written ?c_l_written ?k_l_written)
      (MM.df_mk KX G ?a_l_two ?l_l_two ?c_l_two ?k_l_two)
      (MM.df_mk KX G ?a_l_due ?l_l_due ?c_l_due ?k_l_due)
      (MM.df_mk KX G ?a_l_asked ?l_l_asked ?c_l_asked ?k_l_asked)
      (MM.df_mk KX G ?a_l_is_date ?l_l_is_date ?c_l_is_date ?k_l_is_date)
      (MM.df_mk KX G ?a_l_right ?l_l_right ?c_l_right ?k_l_right)
      (MM.df_mk KX G ?a_law ?l_law ?c_law ?k_law)
    (case hn => k_is)
    (case htk => k_is)
    (case aE => k_is)
    (case pgd => k_is)
    (case hdd => k_is)
    (case pod => k_is)
    (case sad => k_is)
    (case dy1 => k_is)
    (case dy2 => k_is)
    (case dy3 => k_is)
    (case dy4 => k_is)
    (case had => k_is)
    (case hmd => k_is)
    (case t1 => k_is)
    (case t2 => k_is)
    (case t3 => k_is)
    (case t4 => k_is)
    (case t5 => k_is)
    (case t6 => k_is)
    (case t7 => k_is)
    (case t8 => k_is)
    (case aq => k_is)
    (case iq => k_is)
    (case lq => k_is)
    (case cq => k_is)
    (case kq => k_is)
    (case mdDateStra => k_is)
    (case mdDateStri => k_is)
    (case mdDateStrl => k_is)
    (case mdDateStrc => k_is)
    (case mdDateStrk => k_is)
    (case mdDateRepra => k_is)
    (case mdDateRepri => k_is)
    (case mdDateReprl => k_is)
    (case mdDateReprc => k_is)
    (case mdDateReprk => k_is)
    (case NT1 => k_is)
    (case NT2 => k_is)
    (case O_0 => k_is)
    (case O_1 => k_is)
    (case O_2 => k_is)
    (case O_3 => k_is)
    (case O_4 => k_is)
    (case O_5 => k_is)
    (case O_6 => k_is)
    (case O_7 => k_is)
    (case x_NoText => k_is)
    (case x_NoShare => k_is)
    (case xi_NoShare => k_is)
    (case xt_NoShare => k_is)
    (case xe_NoShare => k_is)
    (case xs_NoShare => k_is)
    (case x_NoCalendar => k_is)
    (case xi_NoCalendar => k_is)
    (case xt_NoCalendar => k_is)
    (case xe_NoCalendar => k_is)
    (case xs_NoCalendar => k_is)
    (case x_NoDate => k_is)
    (case xi_NoDate => k_is)
    (case xt_NoDate => k_is)
    (case xe_NoDate => k_is)
    (case xs_NoDate => k_is)
    (case x_NoWheel => k_is)
    (case xi_NoWheel => k_is)
    (case xt_NoWheel => k_is)
    (case xe_NoWheel => k_is)
    (case xs_NoWheel => k_is)
    (case x_NoName => k_is)
    (case xi_NoName => k_is)
    (case xt_NoName => k_is)
    (case xe_NoName => k_is)
    (case xs_NoName => k_is)
    (case x_NoDay => k_is)
    (case xi_NoDay => k_is)
    (case xt_NoDay => k_is)
    (case xe_NoDay => k_is)
    (case xs_NoDay => k_is)
    (case x_Taken => k_is)
    (case xi_Taken => k_is)
    (case xt_Taken => k_is)
    (case xe_Taken => k_is)
    (case xs_Taken => k_is)
    (case xi_NoText => k_is)
    (case xt_NoText => k_is)
    (case xe_NoText => k_is)
    (case xs_NoText => k_is)
    (case x_NoNote => k_is)
    (case xi_NoNote => k_is)
    (case xt_NoNote => k_is)
    (case xe_NoNote => k_is)
    (case xs_NoNote => k_is)
    (case x_NoDeed => k_is)
    (case xi_NoDeed => k_is)
    (case xt_NoDeed => k_is)
    (case xe_NoDeed => k_is)
    (case xs_NoDeed => k_is)
    (case ty_ZeroDivisionError => k_is)
    (case ty_LookupError => k_is)
    (case ty_ValueError => k_is)
    (case ty_KeyError => k_is)
    (case ty_IndexError => k_is)
    (case ty_RuntimeError => k_is)
    (case xc_0 => k_is)
    (case xc_1 => k_is)
    (case xc_2 => k_is)
    (case xc_3 => k_is)
    (case xc_4 => k_is)
    (case xc_5 => k_is)
    (case xc_6 => k_is)
    (case xc_7 => k_is)
    (case ol => k_is)
    (case osa => k_is)
    (case oex => k_is)
    (case oty => k_is)
    (case okp => k_is)
    (case noat => k_is)
    (case vV => k_is)
    (case da => k_is)
    (case dl => k_is)
    (case dc => k_is)
    (case dk => k_is)
    (case dt => k_is)
    (case gl_FIGURES => k_is)
    (case z0 => k_is)
    (case z1 => k_is)
    (case z2 => k_is)
    (case z3 => k_is)
    (case z4 => k_is)
    (case z5 => k_is)
    (case z6 => k_is)
    (case z7 => k_is)
    (case z8 => k_is)
    (case z9 => k_is)
    (case q1_numeral => k_is)
    (case q2_numeral => k_is)
    (case q3_numeral => k_is)
    (case q4_numeral => k_is)
    (case q5_numeral => k_is)
    (case q1_number_in => k_is)
    (case q2_number_in => k_is)
    (case q3_number_in => k_is)
    (case q4_number_in => k_is)
    (case q5_number_in => k_is)
    (case a_two_figures => k_is)
    (case l_two_figures => k_is)
    (case c_two_figures => k_is)
    (case k_two_figures => k_is)
    (case a_odd_sign => k_is)
    (case l_odd_sign => k_is)
    (case c_odd_sign => k_is)
    (case k_odd_sign => k_is)
    (case a_read_date => k_is)
    (case l_read_date => k_is)
    (case c_read_date => k_is)
    (case k_read_date => k_is)
    (case a_l_draws => k_is)
    (case l_l_draws => k_is)
    (case c_l_draws => k_is)
    (case k_l_draws => k_is)
    (case a_l_next => k_is)
    (case l_l_next => k_is)
    (case c_l_next => k_is)
    (case k_l_next => k_is)
    (case a_l_whole => k_is)
    (case l_l_whole => k_is)
    (case c_l_whole => k_is)
    (case k_l_whole => k_is)
    (case a_l_kinds => k_is)
    (case l_l_kinds => k_is)
    (case c_l_kinds => k_is)
    (case k_l_kinds => k_is)
    (case a_l_value => k_is)
    (case l_l_value => k_is)
    (case c_l_value => k_is)
    (case k_l_value => k_is)
    (case a_l_bent => k_is)
    (case l_l_bent => k_is)
    (case c_l_bent => k_is)
    (case k_l_bent => k_is)
    (case a_l_text => k_is)
    (case l_l_text => k_is)
    (case c_l_text => k_is)
    (case k_l_text => k_is)
    (case a_l_fields => k_is)
    (case l_l_fields => k_is)
    (case c_l_fields => k_is)
    (case k_l_fields => k_is)
    (case a_l_written => k_is)
    (case l_l_written => k_is)
    (case c_l_written => k_is)
    (case k_l_written => k_is)
    (case a_l_two => k_is)
    (case l_l_two => k_is)
    (case c_l_two => k_is)
    (case k_l_two => k_is)
    (case a_l_due => k_is)
    (case l_l_due => k_is)
    (case c_l_due => k_is)
    (case k_l_due => k_is)
    (case a_l_asked => k_is)
    (case l_l_asked => k_is)
    (case c_l_asked => k_is)
    (case k_l_asked => k_is)
    (case a_l_is_date => k_is)
    (case l_l_is_date => k_is)
    (case c_l_is_date => k_is)
    (case k_l_is_date => k_is)
    (case a_l_right => k_is)
    (case l_l_right => k_is)
    (case c_l_right => k_is)
    (case k_l_right => k_is)
    (case a_law => k_is)
    (case l_law => k_is)
    (case c_law => k_is)
    (case k_law => k_is)
    (case t9 => rfl)
    (case xr_NoShare => decide)
    (case xr_NoCalendar => decide)
    (case xr_NoDate => decide)
    (case xr_NoWheel => decide)
    (case xr_NoName => decide)
    (case xr_NoDay => decide)
    (case xr_Taken => decide)
    (case xr_NoNote => decide)
    (case xr_NoDeed => decide)
    (case gr_FIGURES => exact ⟨_, rfl⟩)
    (case q6_numeral => rfl)
    (case q7_numeral => exact (.cons ⟨_, rfl⟩ .nil))
    (case q6_number_in => rfl)
    (case q7_number_in => exact (.cons ⟨_, rfl⟩ .nil))
#print axioms PySem.Challenge.cw_meanmoon_k74_dates_read_holds
