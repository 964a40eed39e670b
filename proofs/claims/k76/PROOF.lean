import PyProof.Rows.All
import Wide.All
import OpenK.AllK
import Wide.FinOn
import PyProof.NoPylong
import HandS.ForMost
import HandS.Wide
import HandS.Defaults
import HandS.MakeKw
import HandS.MakeKwOnly
import HandS.Exc
import HandS.WordsExc
import HandS.IsInst
import HandS.FStr
import HandS.Style
import HandS.Codes
import HandS.NoneIn
import PyProof.LongRange
import KE.KTryMore
import KE.KIsAll
import HandS.ExcIs
import HandS.ExcField
import HandS.ExcInit
import KE.KExcInit
import HandS.ExcBuiltin
import KE.KCallOwn
import HandS.OwnEq
import HandS.MapJoin
import HandS.Rev
import HandS.RevTup
import HandS.Walk
import HandS.Zip
import PyProof.P3Eq
import PyProof.EqLayable
import PyProof.InstNe
import KE.KTupSum
import HandS.SortInts
import HandS.Deep
import HandS.StrMore
import HandS.Text
import HandS.Call
import OpenK.KOps
import PyProof.EqAt
import PyProof.EqKinds
import PyProof.FString2
import KE.KFmtOwn
import PyProof.Rows.StrPins2
import KE.IntTextLaws
import HandS.Dict
import HandS.Iter
import HandS.More
import PyProof.ExcBaseAll.ValueError
import PySem.Challenge.RW_meanmoon_k76_texts_of_no_calendar
set_option Elab.async false
set_option linter.all false
set_option maxRecDepth 100000
set_option maxHeartbeats 4000000
namespace MM
/-! fractions as Rat: the program's and the law's lowest terms are num and den -/
theorem gcd_fmod (a b : Int) : Int.gcd b (a.fmod b) = Int.gcd a b := by
  have h : a.fmod b = a - b * a.fdiv b := by have := Int.mul_fdiv_add_fmod a b; omega
  rw [h, Int.gcd_comm a b]
  rw [Int.sub_eq_add_neg, ← Int.mul_neg, Int.gcd_add_mul_left_right]
theorem gcd_emod' (a b : Int) : Int.gcd b (a % b) = Int.gcd a b := by
  have h : a % b = a - b * (a / b) := by have := Int.mul_ediv_add_emod a b; omega
  rw [h, Int.gcd_comm a b]
  rw [Int.sub_eq_add_neg, ← Int.mul_neg, Int.gcd_add_mul_left_right]
theorem fmod_lt (a : Int) {b : Int} (h : b ≠ 0) : (a.fmod b).natAbs < b.natAbs := by
  rcases Int.lt_or_gt_of_ne h with hb | hb
  · have e : a.fmod b = -((-a).fmod (-b)) := by rw [Int.neg_fmod_neg, Int.neg_neg]
    have h1 := Int.fmod_nonneg_of_pos (-a) (show (0 : Int) < -b by omega)
    have h2 := Int.fmod_lt_of_pos (-a) (show (0 : Int) < -b by omega)
    rw [e]
    omega
  · have h1 := Int.fmod_nonneg_of_pos a hb
    have h2 := Int.fmod_lt_of_pos a hb
    omega
theorem gcd_pos {t b : Int} (h : b ≠ 0) : 0 < Int.gcd t b := Int.gcd_pos_of_ne_zero_right t h
/-- the divisor that makes lowest terms -/
def gs (t b : Int) : Int := if b < 0 then -(Int.gcd t b : Int) else (Int.gcd t b : Int)
theorem gs_ne {t b : Int} (h : b ≠ 0) : gs t b ≠ 0 := by
  have := gcd_pos (t := t) h
  unfold gs
  split <;> omega
theorem low_num {t b : Int} (h : b ≠ 0) : t.fdiv (gs t b) = (Rat.divInt t b).num := by
  have hg := gcd_pos (t := t) h
  rw [Rat.num_divInt, Int.gcd_comm b t]
  unfold gs
  split
  · rename_i hb
    rw [Int.sign_eq_neg_one_of_neg hb, Int.neg_one_mul]
    rw [← Int.neg_fdiv_neg, Int.neg_neg, Int.fdiv_eq_ediv_of_nonneg _ (by omega)]
  · rw [Int.sign_eq_one_of_pos (by omega), Int.one_mul, Int.fdiv_eq_ediv_of_nonneg _ (by omega)]
theorem low_den {t b : Int} (h : b ≠ 0) : b.fdiv (gs t b) = ((Rat.divInt t b).den : Int) := by
  have hg := gcd_pos (t := t) h
  rw [Rat.den_divInt, if_neg h, Int.gcd_comm b t, Int.natCast_ediv]
  unfold gs
  split
  · rename_i hb
    rw [← Int.neg_fdiv_neg, Int.neg_neg, Int.fdiv_eq_ediv_of_nonneg _ (by omega)]
    congr 1
    omega
  · rw [Int.fdiv_eq_ediv_of_nonneg _ (by omega)]
    congr 1
    omega
theorem den_pos (q : Rat) : (0 : Int) < (q.den : Int) := by
  have := q.den_pos
  omega
/-- sizes -/
def Sz (n : Nat) (i : Int) : Prop := i.natAbs < 2 ^ n
def Rz (n : Nat) (q : Rat) : Prop := Sz n q.num ∧ Sz n q.den
theorem Sz.mono {n m : Nat} {i : Int} (h : Sz n i) (l : n ≤ m) : Sz m i := Nat.lt_of_lt_of_le h (Nat.pow_le_pow_right (by decide) l)
theorem Rz.mono {n m : Nat} {q : Rat} (h : Rz n q) (l : n ≤ m) : Rz m q := ⟨h.1.mono l, h.2.mono l⟩
theorem Sz.mul {n m : Nat} {i j : Int} (h : Sz n i) (k : Sz m j) : Sz (n + m) (i * j) := by
  unfold Sz
  rw [Int.natAbs_mul, Nat.pow_add]
  exact Nat.mul_lt_mul'' h k
theorem Sz.add {n m : Nat} {i j : Int} (h : Sz n i) (k : Sz n j) (l : n < m) : Sz m (i + j) := by
  have h' : i.natAbs < 2 ^ n := h
  have k' : j.natAbs < 2 ^ n := k
  have e : 2 ^ (n + 1) ≤ 2 ^ m := Nat.pow_le_pow_right (by decide) l
  rw [Nat.pow_succ] at e
  have z := Int.natAbs_add_le i j
  unfold Sz
  omega
theorem Sz.neg {n : Nat} {i : Int} (h : Sz n i) : Sz n (-i) := by
  unfold Sz
  rw [Int.natAbs_neg]
  exact h
theorem Sz.sub {n m : Nat} {i j : Int} (h : Sz n i) (k : Sz n j) (l : n < m) : Sz m (i - j) := by
  rw [Int.sub_eq_add_neg]
  exact h.add k.neg l
theorem natAbs_ediv_le (a : Int) {b : Nat} : (a / (b : Int)).natAbs ≤ a.natAbs := Int.natAbs_ediv_le_natAbs _ _
theorem Rz.divInt {n : Nat} {t b : Int} (h : Sz n t) (k : Sz n b) (h0 : 0 < n) : Rz n (Rat.divInt t b) := by
  refine ⟨?_, ?_⟩
  · unfold Sz
    rw [Rat.num_divInt]
    refine Nat.lt_of_le_of_lt (Int.natAbs_ediv_le_natAbs _ _) ?_
    rw [Int.natAbs_mul]
    refine Nat.lt_of_le_of_lt ?_ h
    have : b.sign.natAbs ≤ 1 := by
      rcases Int.lt_trichotomy b 0 with z | z | z
      · rw [Int.sign_eq_neg_one_of_neg z]; decide
      · rw [z]; decide
      · rw [Int.sign_eq_one_of_pos z]; decide
    calc b.sign.natAbs * t.natAbs ≤ 1 * t.natAbs := Nat.mul_le_mul_right _ this
      _ = t.natAbs := Nat.one_mul _
  · unfold Sz
    rw [Rat.den_divInt]
    split
    · show 1 < 2 ^ n
      exact Nat.one_lt_two_pow (by omega)
    · rw [Int.natAbs_natCast]
      exact Nat.lt_of_le_of_lt (Nat.div_le_self _ _) k
theorem add_eq (p q : Rat) : p + q = Rat.divInt (p.num * q.den + q.num * p.den) ((p.den : Int) * q.den) := by
  have := Rat.divInt_add_divInt p.num q.num (d₁ := p.den) (d₂ := q.den) (by have := den_pos p; omega) (by have := den_pos q; omega)
  rw [Rat.num_divInt_den, Rat.num_divInt_den] at this
  exact this
theorem sub_eq (p q : Rat) : p - q = Rat.divInt (p.num * q.den - q.num * p.den) ((p.den : Int) * q.den) := by
  rw [Rat.sub_eq_add_neg, add_eq]
  rw [Rat.neg_num, Rat.neg_den, Int.neg_mul, ← Int.sub_eq_add_neg]
theorem mul_eq (p q : Rat) : p * q = Rat.divInt (p.num * q.num) ((p.den : Int) * q.den) := by
  have := Rat.divInt_mul_divInt p.num q.num (d₁ := p.den) (d₂ := q.den)
  rw [Rat.num_divInt_den, Rat.num_divInt_den] at this
  exact this
theorem div_eq (p q : Rat) (h : q ≠ 0) : p / q = Rat.divInt (p.num * q.den) ((p.den : Int) * q.num) := by
  rw [Rat.div_def, mul_eq]
  have hq : q.num ≠ 0 := fun z => h (Rat.num_eq_zero.mp z)
  have e : q⁻¹ = Rat.divInt q.den q.num := by
    have := Rat.inv_divInt q.num q.den
    rw [Rat.num_divInt_den] at this
    exact this
  rw [← mul_eq, e]
  have := Rat.divInt_mul_divInt p.num q.den (d₁ := p.den) (d₂ := q.num)
  rw [Rat.num_divInt_den] at this
  exact this
theorem lt_iff' (p q : Rat) : p < q ↔ p.num * q.den < q.num * p.den := Rat.lt_iff p q
theorem Rz.add {n l m : Nat} {p q : Rat} (h : Rz n p) (k : Rz l q) (hl : n + l < m) : Rz m (p + q) := by
  rw [add_eq]
  exact Rz.divInt (Sz.add (n := n + l) ((h.1.mul k.2).mono (by omega)) ((k.1.mul h.2).mono (by omega)) hl) ((h.2.mul k.2).mono (by omega)) (by omega)
theorem Rz.sub {n l m : Nat} {p q : Rat} (h : Rz n p) (k : Rz l q) (hl : n + l < m) : Rz m (p - q) := by
  rw [sub_eq]
  exact Rz.divInt (Sz.sub (n := n + l) ((h.1.mul k.2).mono (by omega)) ((k.1.mul h.2).mono (by omega)) hl) ((h.2.mul k.2).mono (by omega)) (by omega)
theorem Rz.mul {n l m : Nat} {p q : Rat} (h : Rz n p) (k : Rz l q) (hl : n + l < m) : Rz m (p * q) := by
  rw [mul_eq]
  exact Rz.divInt ((h.1.mul k.1).mono (by omega)) ((h.2.mul k.2).mono (by omega)) (by omega)
theorem Rz.div {n l m : Nat} {p q : Rat} (h : Rz n p) (k : Rz l q) (z : q ≠ 0) (hl : n + l < m) : Rz m (p / q) := by
  rw [div_eq p q z]
  exact Rz.divInt ((h.1.mul k.2).mono (by omega)) ((h.2.mul k.1).mono (by omega)) (by omega)
theorem Rz.int {n : Nat} {i : Int} (h : Sz n i) (h0 : 0 < n) : Rz n (i : Rat) := ⟨h, (by show 1 < 2 ^ n; exact Nat.one_lt_two_pow (by omega))⟩
theorem Sz.floor {n : Nat} {q : Rat} (h : Rz n q) : Sz n q.floor := by
  unfold Sz
  rw [Rat.floor_def]
  exact Nat.lt_of_le_of_lt (Int.natAbs_ediv_le_natAbs _ _) h.1
theorem neg_div_ceil (q : Rat) : -(-q.num / (q.den : Int)) = q.ceil := by
  have := Rat.ceil_eq_neg_floor_neg q
  rw [this, Rat.floor_def, Rat.neg_num, Rat.neg_den]
theorem Rz.neg {n : Nat} {q : Rat} (h : Rz n q) : Rz n (-q) := ⟨by rw [Rat.neg_num]; exact h.1.neg, by rw [Rat.neg_den]; exact h.2⟩
theorem Sz.ceil {n : Nat} {q : Rat} (h : Rz n q) : Sz n q.ceil := by
  rw [Rat.ceil_eq_neg_floor_neg]
  exact (Sz.floor h.neg).neg
theorem Sz.of {n : Nat} {i : Int} (h1 : -(2 ^ n) < i) (h2 : i < 2 ^ n) : Sz n i := by
  unfold Sz
  have e : ((2 ^ n : Nat) : Int) = (2 : Int) ^ n := by simp
  omega
end MM
namespace MM
/-! the calendar's mathematics: floor, ceil, and the steps of months and marks -/
structure Fit (m y : Rat) : Prop where
  one : 1 ≤ m
  between : (m.ceil : Rat) ≤ y / 12
  thirteen : y + 1 ≤ 13 * m
theorem Fit.pos {m y : Rat} (f : Fit m y) : 0 < m := by
  have := f.one
  grind
theorem Fit.ypos {m y : Rat} (f : Fit m y) : 0 < y / 12 := by
  have h1 := f.one
  have h2 := f.between
  have h3 : m ≤ (m.ceil : Rat) := Rat.le_ceil
  grind
def stF (m o : Rat) (k : Int) : Int := (o + k * m).floor
def mdF (y k : Rat) (j : Int) : Int := (k + j * (y / 12)).floor
def maF (m o : Rat) (d : Int) : Int := ((((d + 1 : Int) : Rat) - o) / m).ceil - 1
def jF (y k : Rat) (d : Int) : Int := (((d : Rat) - k) / (y / 12)).ceil
theorem lt_ceil_iff {q : Rat} {i : Int} : i < q.ceil ↔ (i : Rat) < q := by
  have h : q.ceil ≤ i ↔ q ≤ (i : Rat) := Rat.ceil_le_iff
  constructor
  · intro hi
    have : ¬ q.ceil ≤ i := by omega
    rw [h] at this
    exact Rat.not_le.mp this
  · intro hi
    have : ¬ q ≤ (i : Rat) := Rat.not_le.mpr hi
    rw [← h] at this
    omega
theorem floor_le_iff {q : Rat} {i : Int} : q.floor ≤ i ↔ q < ((i + 1 : Int) : Rat) := by
  have h := Rat.floor_lt_iff (a := q) (x := i + 1)
  rw [← h]
  omega
/-- the months up to K begin by the day d -/
theorem st_le {m o : Rat} (hm : 0 < m) {k d : Int} : stF m o k ≤ d ↔ k ≤ maF m o d := by
  unfold stF maF
  rw [floor_le_iff]
  have e : k ≤ ((((d + 1 : Int) : Rat) - o) / m).ceil - 1 ↔ k < ((((d + 1 : Int) : Rat) - o) / m).ceil := by omega
  rw [e, lt_ceil_iff, Rat.lt_div_iff hm]
  constructor <;> intro h <;> grind
theorem ma_of {m o : Rat} (hm : 0 < m) {k d : Int} (h1 : stF m o k ≤ d) (h2 : d < stF m o (k + 1)) : maF m o d = k := by
  have a := (st_le hm).mp h1
  have b : ¬ k + 1 ≤ maF m o d := fun z => by
    have := (st_le hm).mpr z
    omega
  omega
theorem st_ma {m o : Rat} (hm : 0 < m) (d : Int) : stF m o (maF m o d) ≤ d := (st_le hm).mpr (Int.le_refl _)
theorem ma_st {m o : Rat} (hm : 0 < m) (d : Int) : d < stF m o (maF m o d + 1) := by
  have : ¬ stF m o (maF m o d + 1) ≤ d := fun z => by
    have := (st_le hm).mp z
    omega
  omega
theorem cast_add1 (k : Int) : ((k + 1 : Int) : Rat) = (k : Rat) + 1 := by
  rw [Rat.intCast_add]
  rfl
theorem st_step {m o : Rat} (hm : 1 ≤ m) (k : Int) : stF m o k + 1 ≤ stF m o (k + 1) := by
  unfold stF
  rw [Rat.le_floor_iff, cast_add1, cast_add1]
  have h := Rat.floor_le (o + (k : Rat) * m)
  grind
theorem md_lt {y k : Rat} (hy : 0 < y / 12) {j d : Int} : mdF y k j < d ↔ j < jF y k d := by
  unfold mdF jF
  rw [Rat.floor_lt_iff, lt_ceil_iff, Rat.lt_div_iff hy]
  constructor <;> intro h <;> grind
theorem md_ge {y k : Rat} (hy : 0 < y / 12) (d : Int) : d ≤ mdF y k (jF y k d) := by
  have : ¬ mdF y k (jF y k d) < d := fun z => by
    have := (md_lt hy).mp z
    omega
  omega
/-- of two months in a row one has a mark -/
theorem two_months {m y o k : Rat} (f : Fit m y) (i : Int) : mdF y k (jF y k (stF m o (i - 1))) < stF m o (i + 1) := by
  have hy := f.ypos
  have h1 : mdF y k (jF y k (stF m o (i - 1)) - 1) < stF m o (i - 1) := (md_lt hy).mpr (by omega)
  unfold mdF at h1 ⊢
  rw [Rat.floor_lt_iff] at h1 ⊢
  have e1 : ((jF y k (stF m o (i - 1)) - 1 : Int) : Rat) = (jF y k (stF m o (i - 1)) : Rat) - 1 := by rw [Rat.intCast_sub]; rfl
  rw [e1] at h1
  have h2 : ((stF m o (i - 1) : Int) : Rat) ≤ o + ((i - 1 : Int) : Rat) * m := Rat.floor_le _
  have h3 : o + ((i + 1 : Int) : Rat) * m - 1 < ((stF m o (i + 1) : Int) : Rat) := Rat.lt_floor
  have e2 : ((i - 1 : Int) : Rat) = (i : Rat) - 1 := by rw [Rat.intCast_sub]; rfl
  rw [e2] at h2
  rw [cast_add1] at h3
  have a := f.one
  have b := f.thirteen
  have c : y / 12 ≤ 2 * m - 1 := by grind
  grind
theorem k0_le {m o : Rat} (hm : 0 < m) (d : Int) : (((d : Rat) - o) / m).floor - 1 ≤ maF m o d := by
  have h : ((((d : Rat) - o) / m).floor - 1) < ((((d + 1 : Int) : Rat) - o) / m).ceil := by
    rw [lt_ceil_iff, Rat.intCast_sub]
    have h1 := Rat.floor_le (((d : Rat) - o) / m)
    have h2 : ((d : Rat) - o) / m < (((d + 1 : Int) : Rat) - o) / m := by
      rw [cast_add1, Rat.lt_div_iff hm, Rat.div_mul_cancel (by grind)]
      grind
    have h3 : ((1 : Int) : Rat) = 1 := rfl
    grind
  unfold maF
  omega
theorem j0_le {y k : Rat} (d : Int) : (((d : Rat) - k) / (y / 12)).floor - 1 ≤ jF y k d := by
  have h : (((d : Rat) - k) / (y / 12)).floor ≤ (((d : Rat) - k) / (y / 12)).ceil := Rat.intCast_le_intCast.mp (Rat.le_trans (Rat.floor_le _) Rat.le_ceil)
  unfold jF
  omega
end MM
namespace MM
theorem floor_divInt {t b : Int} (hb : 0 < b) : (Rat.divInt t b).floor = t / b := by
  rw [Rat.floor_def]
  have h := Rat.num_divInt_den (Rat.divInt t b)
  have hd := den_pos (Rat.divInt t b)
  rw [Rat.divInt_eq_divInt_iff (by omega) (by omega)] at h
  have e1 : t / b = (t * ((Rat.divInt t b).den : Int)) / (b * ((Rat.divInt t b).den : Int)) := (Int.mul_ediv_mul_of_pos_left _ _ hd).symm
  rw [e1, ← h, Int.mul_comm b, Int.mul_ediv_mul_of_pos_left _ _ hb]
theorem inv_eq (q : Rat) : q⁻¹ = Rat.divInt q.den q.num := by
  have := Rat.inv_divInt q.num q.den
  rw [Rat.num_divInt_den] at this
  exact this
theorem div12 (x y : Rat) (hy : y ≠ 0) : Rat.divInt (x.num * 12 * y.den) ((x.den : Int) * y.num) = x / (y / 12) := by
  have e : x / (y / 12) = x * 12 * y⁻¹ := by grind
  rw [e, inv_eq]
  have h1 : x * 12 = Rat.divInt (x.num * 12) ((x.den : Int) * 1) := by
    have h := Rat.divInt_mul_divInt x.num 12 (d₁ := x.den) (d₂ := 1)
    rw [Rat.num_divInt_den] at h
    exact h
  rw [h1, Rat.divInt_mul_divInt, Int.mul_one]
theorem Sz.between {n : Nat} {a x b : Int} (ha : Sz n a) (hb : Sz n b) (h1 : a ≤ x) (h2 : x ≤ b) : Sz n x := by
  unfold Sz at *
  omega
theorem Fit.ypos' {m y : Rat} (f : Fit m y) : 0 < y := by
  have := f.ypos
  grind
theorem num_pos {q : Rat} (h : 0 < q) : 0 < q.num := by
  have := (lt_iff' 0 q).mp h
  rw [show (0 : Rat).num = 0 from rfl, show (0 : Rat).den = 1 from rfl] at this
  omega
end MM
namespace MM
theorem unit_divInt {t b : Int} (h0 : 0 ≤ t) (h1 : t ≤ b) (hb : 0 < b) : 0 ≤ Rat.divInt t b ∧ Rat.divInt t b ≤ 1 := by
  have hb' : (0 : Rat) < (b : Rat) := Rat.intCast_lt_intCast.mpr hb
  have h0' : (0 : Rat) ≤ (t : Rat) := Rat.intCast_le_intCast.mpr h0
  have h1' : (t : Rat) ≤ (b : Rat) := Rat.intCast_le_intCast.mpr h1
  rw [Rat.divInt_eq_div]
  have e : (t : Rat) / (b : Rat) * (b : Rat) = t := Rat.div_mul_cancel (by grind)
  refine ⟨?_, ?_⟩
  · apply Rat.not_lt.mp
    intro z
    have := Rat.mul_lt_mul_of_pos_right z hb'
    grind
  · apply Rat.not_lt.mp
    intro z
    have := Rat.mul_lt_mul_of_pos_right z hb'
    grind
theorem cast_sub1 (w : Int) : ((w - 1 : Int) : Rat) = (w : Rat) - 1 := by
  rw [Rat.intCast_sub]
  rfl
theorem cast_12 (w : Int) : ((12 * w : Int) : Rat) = 12 * (w : Rat) := by
  rw [Rat.intCast_mul]
  rfl
/-- the law's drawn month and year make a calendar -/
theorem fit_drawn {w : Int} (hw : 1 ≤ w) {s r : Rat} (s0 : 0 ≤ s) (s1 : s ≤ 1) (r0 : 0 ≤ r) (r1 : r ≤ 1) :
    Fit ((((12 * w + 1 : Int) : Rat) + s * ((w - 1 : Int) : Rat)) * Rat.divInt 1 13) (((12 * w : Int) : Rat) + r * s * ((w - 1 : Int) : Rat)) := by
  have hW : (1 : Rat) ≤ (w : Rat) := Rat.intCast_le_intCast.mpr hw
  rw [cast_add1, cast_12, cast_sub1, Rat.divInt_eq_div]
  have a0 : 0 ≤ s * ((w : Rat) - 1) := Rat.mul_nonneg s0 (by grind)
  have a1 : s * ((w : Rat) - 1) ≤ 1 * ((w : Rat) - 1) := Rat.mul_le_mul_of_nonneg_right s1 (by grind)
  have b0 : 0 ≤ r * (s * ((w : Rat) - 1)) := Rat.mul_nonneg r0 a0
  have b1 : r * (s * ((w : Rat) - 1)) ≤ 1 * (s * ((w : Rat) - 1)) := Rat.mul_le_mul_of_nonneg_right r1 a0
  have e : r * s * ((w : Rat) - 1) = r * (s * ((w : Rat) - 1)) := Rat.mul_assoc _ _ _
  rw [e]
  have c1 : ((1 : Int) : Rat) = 1 := rfl
  have c13 : ((13 : Int) : Rat) = 13 := rfl
  rw [c1, c13]
  generalize s * ((w : Rat) - 1) = z at *
  generalize r * z = u at *
  refine ⟨by grind, ?_, by grind⟩
  have h : ((12 * (w : Rat) + 1 + z) * (1 / 13)).ceil ≤ w := Rat.ceil_le_iff.mpr (by grind)
  have h' : (((12 * (w : Rat) + 1 + z) * (1 / 13)).ceil : Rat) ≤ (w : Rat) := Rat.intCast_le_intCast.mpr h
  grind
end MM
namespace MM
open PySem PySem.Spec PyProof.Rows L2
/-! ### defs and their calls -/
/-- a def of the module under its name, with its defaults -/
structure Df (K : PySem.W.Frag) (mg : Str → Option Value) (x : Str) (st : Stmt) (dvs : List V) : Prop where
  ex : ∃ (f : Addr) (fd : FuncData), FunD K x x (defArgs st) (defBody st) (defScope st) dvs [] f fd ∧ mg x = some (.ref f)
/-- what is known of a def that is called: its promise, how it is bound -/
structure Ca (P : Program) (w : World) (K : PySem.W.Frag) (mg : Str → Option Value) (base : Heap) (CX : CXT) (k : Nat) (x : Str) (st : Stmt) (dvs : List V) (ps : List Str) (sp : Sp) : Prop where
  ex : ∃ (f : Addr) (fd : FuncData), FunD K x x (defArgs st) (defBody st) (defScope st) dvs [] f fd ∧ mg x = some (.ref f) ∧ FnOk P w K mg base CX k f fd ps sp
/-- the parameters of a def, all given by place -/
def Bd (x qual : Str) (st : Stmt) (ps : List Str) : Prop := ∀ (kV doc pm : Value) (an : Option Addr) (cdv ct : Value) (us : List Value), us.length = ps.length →
  bindArgs (PySem.W.fnOf x qual (defArgs st) (defBody st) (defScope st) .none kV doc pm an cdv ct) ⟨us, []⟩ = pure (ps.zip us)
section
variable {P : Program} {w : World} {K : PySem.W.Frag} {mg : Str → Option Value} {base : Heap} {x : Str} {st : Stmt} {dvs : List V} {N ps : List Str} {k : Nat} {sp : Sp}
theorem ca0 (D : Df K mg x st dvs) (S : FnScope N ps (defScope st)) (len : ∀ vs H Q E, sp vs H Q E → vs.length = ps.length)
    (body : ∀ (f : Addr) (cdv : Value) (A : Around) (outer : List Env) (s : Shared) (H : Hp) (vs : List V) (Q : VK) (E : XK), Room k (A.deeper (envOfC x (defScope st) s.heap.objs.size f cdv)) → sp vs H Q E →
      ∃ t, PSs (cxOf CX0 P w K mg base N x (defScope st) f cdv A outer s H E).nox (defBody st) t ∧ t { nx := fun _ H' => Q .non H', rt := Q } (start N vs) H) : Ca P w K mg base CX0 (k + 1) x st dvs ps sp := by
  obtain ⟨f, fd, F, hm⟩ := D.ex
  refine ⟨f, fd, F, hm, F.ok S len fun cdv A outer s H vs Q E hr h => ?_⟩
  obtain ⟨t, h1, h2⟩ := body f cdv A outer s H vs Q E hr h
  exact ⟨t, h1.nox, h2⟩
theorem caX (D : Df K mg x st dvs) (S : FnScope N ps (defScope st)) (len : ∀ vs H Q E, sp vs H Q E → vs.length = ps.length)
    (body : ∀ (f : Addr) (cdv : Value) (A : Around) (outer : List Env) (s : Shared) (H : Hp) (vs : List V) (Q : VK) (E : XK), Room k (A.deeper (envOfC x (defScope st) s.heap.objs.size f cdv)) → sp vs H Q E →
      ∃ t, PSs (cxOf (L2.CX P w) P w K mg base N x (defScope st) f cdv A outer s H E) (defBody st) t ∧ t { nx := fun _ H' => Q .non H', rt := Q } (start N vs) H) : Ca P w K mg base (L2.CX P w) (k + 1) x st dvs ps sp := by
  obtain ⟨f, fd, F, hm⟩ := D.ex
  exact ⟨f, fd, F, hm, F.ok S len fun cdv A outer s H vs Q E hr h => body f cdv A outer s H vs Q E hr h⟩
theorem FunD.none {qual : Str} {params : Arguments} {bodyS : List Stmt} {scope : Scope} {f : Addr} {fd : FuncData} (F : FunD K x qual params bodyS scope [] [] f fd) :
    ∃ (kV doc pm : Value) (an : Option Addr) (cdv ct : Value), fd = PySem.W.fnOf x qual params bodyS scope .none kV doc pm an cdv ct := by
  obtain ⟨oc, od, dV, kV, doc, pm, an, cdv, ct, osl, rfl, lk, hcd, hD, hK⟩ := F.ex
  rcases hD with ⟨_, rfl⟩ | ⟨e, _⟩
  · exact ⟨kV, doc, pm, an, cdv, ct, rfl⟩
  · exact absurd rfl e
end
section
variable {X : Cx} {CX : CXT} {k j n : Nat} {C : Addr} {x m : Str} {st : Stmt} {sp : Sp} {ps ks : List Str} {dvs : List V} {E : XK} {p pos apos : Pos} {e o : Expr} {es : List Expr} {kws : List Keyword} {ta : TE} {t tk : TA}
/-- f(e, ..), all parameters by place -/
theorem pe_ca (c : Ca X.prog X.w X.K X.mg X.base CX k x st [] ps sp) (b : Bd x x st ps) (hr : Room j X.A) (hk : k ≤ j) (hx : Passes CX X E) (hg : Gl X x) (ha : PA X (e :: es) t)
    (hdb : (x == ("__debug__" : Str)) = false := by decide) (he : starEach (e :: es) X.env = (false, eval e X.env) :: starEach es X.env := by rfl) (hpl : (backTo pos (starEach es X.env)).any (·.1) = false := by rfl) :
    PE X (.Call (.Name x p) (e :: es) [] pos) (tCall sp [] E t) := by
  obtain ⟨f, fd, F, hm, G⟩ := c.ex
  exact pe_call G (hr.mono hk) hg hm F.kp (F.bindsN b) .nil hx ha hdb he hpl
/-- how keywords bind where there is no default: g puts the places' values and the keywords' in order -/
structure Kb (x : Str) (st : Stmt) (n : Nat) (ks ps : List Str) (g : {α : Type} → List α → List α → List α) : Prop where
  bind : ∀ (kV doc pm : Value) (an : Option Addr) (cdv ct : Value) (us ws : List Value), us.length = n → ws.length = ks.length →
    bindArgs (PySem.W.fnOf x x (defArgs st) (defBody st) (defScope st) .none kV doc pm an cdv ct) ⟨us, ks.zip ws⟩ = pure (ps.zip (g us ws))
  rel : ∀ {vs zs : List V} {us ws : List Value}, vs.length = n → zs.length = ks.length → Vals vs us → Vals zs ws → Vals (g vs zs) (g us ws)
/-- f(k = v, ..) of a def without defaults -/
theorem pe_caK {g : {α : Type} → List α → List α → List α} (c : Ca X.prog X.w X.K X.mg X.base CX k x st [] ps sp) (b : Kb x st 0 ks ps g) (hr : Room j X.A) (hk : k ≤ j) (hx : Passes CX X E) (hg : Gl X x) (hkw : PK X kws tk)
    (hall : (backToKw pos (keywordEach kws X.env)).all (·.1.isSome) = true := by rfl) (hks : (backToKw pos (keywordEach kws X.env)).filterMap (·.1) = ks := by rfl) (hdb : (x == ("__debug__" : Str)) = false := by decide)
    (hpl : ((backTo pos (starEach [] X.env)).any (·.1) || (backToKw pos (keywordEach kws X.env)).any (·.1.isNone)) = false := by rfl) :
    PE X (.Call (.Name x p) [] kws pos) (fun σ H Q => tk σ H fun zs H2 => zs.length = ks.length ∧ sp (g [] zs) H2 Q E) := by
  obtain ⟨f, fd, F, hm, G⟩ := c.ex
  obtain ⟨kV, doc, pm, an, cdv, ct, rfl⟩ := FunD.none F
  refine ⟨fun pins s σ H Q I h => ?_⟩
  refine wpAny_Call_Name_kw (ld_glob I hg hm ?_ hdb)
  refine PySem.W.callWith_KW0 (h₀ := X.base) I.ok.mod.kin F.kp hall ?_ hpl
  refine thn (hkw.run pos pins s σ H _ I h) fun ws s2 ⟨zs, H2, I2, rz, l2, q2⟩ => ⟨I2.kIn, ?_⟩
  rw [hks]
  have r2 : Vals (g [] zs) (g [] ws) := b.rel rfl l2 .nil rz
  refine wpAny_call (codeAny_mono (G.run X.A X.stack s2 H2 ⟨[], ks.zip ws⟩ (g [] ws) (g [] zs) Q E (hr.mono hk) I2.env0 (.of_eq (b.bind kV doc pm an cdv ct [] ws rfl (rz.length.symm.trans l2))) r2 q2) fun r s' hq => ?_)
  match r, hq with
  | .error e, hq => exact hx pins σ H2 s2 e s' I2 hq
  | .ok (.ret u), hq => exact I2.after hq
  | .ok .next, hq => exact False.elim hq
  | .ok .brk, hq => exact False.elim hq
  | .ok .cont, hq => exact False.elim hq
end
/-! ### whole numbers -/
section
variable {X : Cx}
/-- // by any divisor but 0 -/
def CDivA (_ j : Int) : Prop := j ≠ 0 ∧ Sz 8900 j
theorem op_fdivA : OpR X (binaryOp .FloorDiv) (rI CDivA fun i j => .int (i.fdiv j)) := opI fun i j _ _ _ _ _ hc q =>
  PyProof.Rows.floordiv_int hc.1 q (.inl (PyProof.noPylong_of_log2 (Nat.lt_of_lt_of_le (PySem.Flt.log2_lt_of (by decide) hc.2) (by decide))))
/-- * of two numbers of some thousand bits -/
def CMulA (i j : Int) : Prop := Sz 100000 i ∧ Sz 100000 j
theorem op_mulA : OpR X (binaryOp .Mult) (rI CMulA fun i j => .int (i * j)) := opI fun i j _ _ _ _ _ hc q =>
  PyProof.Rows.mul_int q (CMulW.ok (wide_mul hc.1 hc.2 (by decide) (by decide) (by decide)))
end
/-! ### a pick out of a written list -/
theorem pick {α : Type} {xs : List α} {z : Int} {P : α → Prop} (h0 : 0 ≤ z) (h1 : z < xs.length) (h : ∀ x ∈ xs, P x) : ∃ v, atI xs z = some v ∧ P v := by
  have hl : z.toNat < xs.length := by omega
  refine ⟨xs[z.toNat], ?_, h _ (List.getElem_mem hl)⟩
  unfold atI ixN
  rw [if_pos h0, if_pos h1]
  exact List.getElem?_eq_getElem hl
end MM
namespace MM
open PySem PySem.Spec PyProof.Rows L2
/-- what binds where some parameters have defaults: n given by place, the defaults from the j-th on fill up -/
def Bd1 (x qual : Str) (st : Stmt) (ps : List Str) (n j m : Nat) : Prop := ∀ (T : Addr) (kV doc pm : Value) (an : Option Addr) (cdv ct : Value) (us its : List Value), us.length = n → its.length = m →
  ∃ k, bindArgs (PySem.W.fnOf x qual (defArgs st) (defBody st) (defScope st) (.ref T) kV doc pm an cdv ct) ⟨us, []⟩ = seqItems? (.ref T) >>= k ∧ k (some its.toArray) = pure (ps.zip (us ++ its.drop j))
/-- the __init__ of a class -/
structure Di (K : PySem.W.Frag) (mg : Str → Option Value) (x : Str) (C : Addr) (qual : Str) (st : Stmt) (dvs : List V) : Prop where
  ex : ∃ (f : Addr) (fd : FuncData), FunD K "__init__" qual (defArgs st) (defBody st) (defScope st) dvs [] f fd ∧ Mk K C f ∧ mg x = some (.ref C)
structure Ci (P : Program) (w : World) (K : PySem.W.Frag) (mg : Str → Option Value) (base : Heap) (CX : CXT) (k : Nat) (x : Str) (C : Addr) (qual : Str) (st : Stmt) (dvs : List V) (ps : List Str) (sp : Sp) : Prop where
  ex : ∃ (f : Addr) (fd : FuncData), FunD K "__init__" qual (defArgs st) (defBody st) (defScope st) dvs [] f fd ∧ Mk K C f ∧ mg x = some (.ref C) ∧ FnOk P w K mg base CX k f fd ps sp
/-- a method of a class -/
structure Dm (K : PySem.W.Frag) (C : Addr) (m qual : Str) (st : Stmt) : Prop where
  ex : ∃ (f : Addr) (fd : FuncData), FunD K m qual (defArgs st) (defBody st) (defScope st) [] [] f fd ∧ Meth K C m f ∧ Cls K C
structure Cm (P : Program) (w : World) (K : PySem.W.Frag) (mg : Str → Option Value) (base : Heap) (CX : CXT) (k : Nat) (C : Addr) (m qual : Str) (st : Stmt) (ps : List Str) (sp : Sp) : Prop where
  ex : ∃ (f : Addr) (fd : FuncData), FunD K m qual (defArgs st) (defBody st) (defScope st) [] [] f fd ∧ Meth K C m f ∧ Cls K C ∧ FnOk P w K mg base CX k f fd ps sp
section
variable {P : Program} {w : World} {K : PySem.W.Frag} {mg : Str → Option Value} {base : Heap} {x m qual : Str} {C : Addr} {st : Stmt} {dvs : List V} {N ps : List Str} {k : Nat} {sp : Sp}
theorem ci0 (D : Di K mg x C qual st dvs) (S : FnScope N ps (defScope st)) (len : ∀ vs H Q E, sp vs H Q E → vs.length = ps.length)
    (body : ∀ (f : Addr) (cdv : Value) (A : Around) (outer : List Env) (s : Shared) (H : Hp) (vs : List V) (Q : VK) (E : XK), Room k (A.deeper (envOfC qual (defScope st) s.heap.objs.size f cdv)) → sp vs H Q E →
      ∃ t, PSs (cxOf CX0 P w K mg base N qual (defScope st) f cdv A outer s H E).nox (defBody st) t ∧ t { nx := fun _ H' => Q .non H', rt := Q } (start N vs) H) : Ci P w K mg base CX0 (k + 1) x C qual st dvs ps sp := by
  obtain ⟨f, fd, F, M, hm⟩ := D.ex
  refine ⟨f, fd, F, M, hm, F.ok S len fun cdv A outer s H vs Q E hr h => ?_⟩
  obtain ⟨t, h1, h2⟩ := body f cdv A outer s H vs Q E hr h
  exact ⟨t, h1.nox, h2⟩
theorem ciX (D : Di K mg x C qual st dvs) (S : FnScope N ps (defScope st)) (len : ∀ vs H Q E, sp vs H Q E → vs.length = ps.length)
    (body : ∀ (f : Addr) (cdv : Value) (A : Around) (outer : List Env) (s : Shared) (H : Hp) (vs : List V) (Q : VK) (E : XK), Room k (A.deeper (envOfC qual (defScope st) s.heap.objs.size f cdv)) → sp vs H Q E →
      ∃ t, PSs (cxOf (L2.CX P w) P w K mg base N qual (defScope st) f cdv A outer s H E) (defBody st) t ∧ t { nx := fun _ H' => Q .non H', rt := Q } (start N vs) H) : Ci P w K mg base (L2.CX P w) (k + 1) x C qual st dvs ps sp := by
  obtain ⟨f, fd, F, M, hm⟩ := D.ex
  exact ⟨f, fd, F, M, hm, F.ok S len fun cdv A outer s H vs Q E hr h => body f cdv A outer s H vs Q E hr h⟩
theorem cm0 (D : Dm K C m qual st) (S : FnScope N ps (defScope st)) (len : ∀ vs H Q E, sp vs H Q E → vs.length = ps.length)
    (body : ∀ (f : Addr) (cdv : Value) (A : Around) (outer : List Env) (s : Shared) (H : Hp) (vs : List V) (Q : VK) (E : XK), Room k (A.deeper (envOfC qual (defScope st) s.heap.objs.size f cdv)) → sp vs H Q E →
      ∃ t, PSs (cxOf CX0 P w K mg base N qual (defScope st) f cdv A outer s H E).nox (defBody st) t ∧ t { nx := fun _ H' => Q .non H', rt := Q } (start N vs) H) : Cm P w K mg base CX0 (k + 1) C m qual st ps sp := by
  obtain ⟨f, fd, F, M, hc⟩ := D.ex
  refine ⟨f, fd, F, M, hc, F.ok S len fun cdv A outer s H vs Q E hr h => ?_⟩
  obtain ⟨t, h1, h2⟩ := body f cdv A outer s H vs Q E hr h
  exact ⟨t, h1.nox, h2⟩
end
section
variable {X : Cx} {CX : CXT} {k j n d : Nat} {C : Addr} {x m qual : Str} {st : Stmt} {sp : Sp} {ps ks : List Str} {dvs : List V} {E : XK} {p pos apos : Pos} {e o : Expr} {es : List Expr} {kws : List Keyword} {ta : TE} {t tk : TA}
/-- C(e, ..): n values, then the defaults from the d-th on; n counts self too -/
theorem pe_ci (c : Ci X.prog X.w X.K X.mg X.base CX k x C qual st dvs ps sp) (b : Bd1 "__init__" qual st ps n d dvs.length) (hd : dvs ≠ []) (hn : n + (dvs.length - d) = ps.length) (hr : Room j X.A) (hk : k + 1 ≤ j) (hx : Passes CX X E) (hg : Gl X x) (ha : PA X (e :: es) t)
    (hdb : (x == ("__debug__" : Str)) = false := by decide) (he : starEach (e :: es) X.env = (false, eval e X.env) :: starEach es X.env := by rfl) (hpl : (backTo pos (starEach es X.env)).any (·.1) = false := by rfl) :
    PE X (.Call (.Name x p) (e :: es) [] pos) (tMake C sp (dvs.drop d) E t) := by
  obtain ⟨f, fd, F, M, hm, G⟩ := c.ex
  obtain ⟨ds, r, bb⟩ := F.binds1 n d hd hn b
  exact pe_make M G (hr.mono hk) hg hm bb r hx ha hdb he hpl
/-- o.m(e, ..) -/
theorem pe_cm {pl : Sem Bool} (c : Cm X.prog X.w X.K X.mg X.base CX k C m qual st ps sp) (b : Bd m qual st ps) (hr : Room j X.A) (hk : k ≤ j) (hx : Passes CX X E) (he : PE X o ta) (ha : PA X (e :: es) t)
    (hst : starEach (e :: es) X.env = (false, eval e X.env) :: starEach es X.env := by rfl) (hpl : (backTo pos (starEach es X.env)).any (·.1) = false := by rfl)
    (ht : eval (.Call (.Attribute o m apos) (e :: es) [] pos) X.env = (eval o X.env >>= fun ov => standAt apos.atName >>= fun _ => holding [ov] (getMethod ov m pl) >>= fun q => callWith pos q.1 q.2 (backTo pos (starEach (e :: es) X.env)) (backToKw pos (keywordEach [] X.env))) := by rfl) :
    PE X (.Call (.Attribute o m apos) (e :: es) [] pos) (tMeth C m sp [] E ta t) := by
  obtain ⟨f, fd, F, M, hc, G⟩ := c.ex
  exact pe_meth (pl := pl) he hc M G (hr.mono hk) (F.bindsN b) .nil hx ha hst hpl ht
/-- how keywords bind in a method, or a def, without defaults -/
structure Kbm (x qual : Str) (st : Stmt) (n : Nat) (ks ps : List Str) (g : {α : Type} → List α → List α → List α) : Prop where
  bind : ∀ (kV doc pm : Value) (an : Option Addr) (cdv ct : Value) (us ws : List Value), us.length = n → ws.length = ks.length →
    bindArgs (PySem.W.fnOf x qual (defArgs st) (defBody st) (defScope st) .none kV doc pm an cdv ct) ⟨us, ks.zip ws⟩ = pure (ps.zip (g us ws))
  rel : ∀ {vs zs : List V} {us ws : List Value}, vs.length = n → zs.length = ks.length → Vals vs us → Vals zs ws → Vals (g vs zs) (g us ws)
/-- o.m(k = v, ..) -/
theorem pe_cmK {pl : Sem Bool} {g : {α : Type} → List α → List α → List α} (c : Cm X.prog X.w X.K X.mg X.base CX k C m qual st ps sp) (b : Kbm m qual st 1 ks ps g) (hr : Room j X.A) (hk : k ≤ j) (hx : Passes CX X E) (he : PE X o ta) (hkw : PK X kws tk)
    (hall : (backToKw pos (keywordEach kws X.env)).all (·.1.isSome) = true := by rfl) (hks : (backToKw pos (keywordEach kws X.env)).filterMap (·.1) = ks := by rfl)
    (hpl : ((backTo pos (starEach [] X.env)).any (·.1) || (backToKw pos (keywordEach kws X.env)).any (·.1.isNone)) = false := by rfl)
    (ht : eval (.Call (.Attribute o m apos) [] kws pos) X.env = (eval o X.env >>= fun ov => standAt apos.atName >>= fun _ => holding [ov] (getMethod ov m pl) >>= fun q => callWith pos q.1 q.2 (backTo pos (starEach [] X.env)) (backToKw pos (keywordEach kws X.env))) := by rfl) :
    PE X (.Call (.Attribute o m apos) [] kws pos) (fun σ H Q => ta σ H fun x H1 => ∃ a dx fs, x = .ref a ∧ H1 a = some (.ins C dx fs) ∧ fs.lookup m = none ∧ tk σ H1 fun zs H2 => zs.length = ks.length ∧ sp (g [.ref a] zs) H2 Q E) := by
  obtain ⟨f, fd, F, M, hc, G⟩ := c.ex
  obtain ⟨kV, doc, pm, an, cdv, ct, rfl⟩ := FunD.none F
  refine ⟨fun pins s σ H Q I h => ?_⟩
  refine PySem.W.methodCall_KW (pl := pl) (thn (he.run pins s σ H _ I h) fun u s1 ⟨y, H1, I1, ry, a, dx, fs, ey, ea, l, q⟩ => ?_) ht
  subst ey
  obtain rfl : u = Value.ref a := ry
  refine getmeth_ok I1 ea hc M l ?_
  refine PySem.W.callWith_KW0 (first := [.ref a]) (h₀ := X.base) I.ok.mod.kin M.kp hall ?_ hpl
  refine thn (hkw.run pos pins s1 σ H1 _ I1 q) fun ws s2 ⟨zs, H2, I2, rz, l2, q2⟩ => ⟨I2.kIn, ?_⟩
  rw [hks]
  have r2 : Vals (g [V.ref a] zs) (g [Value.ref a] ws) := b.rel rfl l2 (.cons rfl .nil) rz
  refine wpAny_call (codeAny_mono (G.run X.A X.stack s2 H2 ⟨[.ref a], ks.zip ws⟩ (g [.ref a] ws) (g [.ref a] zs) Q E (hr.mono hk) I2.env0 (.of_eq (b.bind kV doc pm an cdv ct [.ref a] ws rfl (rz.length.symm.trans l2))) r2 q2) fun r s' hq => ?_)
  match r, hq with
  | .error e, hq => exact hx pins σ H2 s2 e s' I2 hq
  | .ok (.ret u), hq => exact I2.after hq
  | .ok .next, hq => exact False.elim hq
  | .ok .brk, hq => exact False.elim hq
  | .ok .cont, hq => exact False.elim hq
end
/-- the keywords take their places: one self, the keywords in the parameters' order -/
def g1 {α : Type} : List α → List α → List α := fun us ws => us ++ ws
theorem g1_rel {n m : Nat} {vs zs : List V} {us ws : List Value} (_ : vs.length = n) (_ : zs.length = m) (h : Vals vs us) (k : Vals zs ws) : Vals (g1 vs zs) (g1 us ws) := h.append k
/-- how C(.., k = v, ..) binds where __init__ has defaults -/
structure Kd (qual : Str) (st : Stmt) (dn n : Nat) (ks ps : List Str) (g : {α : Type} → List α → List α → List α → List α) : Prop where
  bind : ∀ (T : Addr) (kV doc pm : Value) (an : Option Addr) (cdv ct : Value) (us its ws : List Value), us.length = n → its.length = dn → ws.length = ks.length →
    ∃ k, bindArgs (PySem.W.fnOf "__init__" qual (defArgs st) (defBody st) (defScope st) (.ref T) kV doc pm an cdv ct) ⟨us, ks.zip ws⟩ = seqItems? (.ref T) >>= k ∧ k (some its.toArray) = pure (ps.zip (g us its ws))
  rel : ∀ {vs ds zs : List V} {us its ws : List Value}, Vals vs us → Vals ds its → Vals zs ws → Vals (g vs ds zs) (g us its ws)
section
variable {X : Cx} {CX : CXT} {k j n d : Nat} {C : Addr} {x m qual : Str} {st : Stmt} {sp : Sp} {ps ks : List Str} {dvs : List V} {E : XK} {p pos apos : Pos} {e o : Expr} {es : List Expr} {kws : List Keyword} {ta : TE} {t tk : TA}
theorem pe_ciK0 {g : {α : Type} → List α → List α → List α → List α} (c : Ci X.prog X.w X.K X.mg X.base CX k x C qual st dvs ps sp) (b : Kd qual st dvs.length 1 ks ps g) (hd : dvs ≠ []) (hr : Room j X.A) (hk : k + 1 ≤ j) (hx : Passes CX X E) (hg : Gl X x) (hkw : PK X kws tk)
    (hall : (backToKw pos (keywordEach kws X.env)).all (·.1.isSome) = true := by rfl) (hks : (backToKw pos (keywordEach kws X.env)).filterMap (·.1) = ks := by rfl) (hdb : (x == ("__debug__" : Str)) = false := by decide)
    (hpl : ((backTo pos (starEach [] X.env)).any (·.1) || (backToKw pos (keywordEach kws X.env)).any (·.1.isNone)) = false := by rfl) :
    PE X (.Call (.Name x p) [] kws pos) (tMakeK C 0 ks.length sp (fun vs zs => g vs dvs zs) E tNil tk) := by
  obtain ⟨f, fd, F, M, hm, G⟩ := c.ex
  obtain ⟨its, hb⟩ := F.kbindsD 1 ks g hd b.rel b.bind
  exact pe_makeK0 M G (hr.mono hk) hg hm hb hx hkw hall hks hdb hpl
theorem pe_ciK {g : {α : Type} → List α → List α → List α → List α} (c : Ci X.prog X.w X.K X.mg X.base CX k x C qual st dvs ps sp) (b : Kd qual st dvs.length (n + 1) ks ps g) (hd : dvs ≠ []) (hr : Room j X.A) (hk : k + 1 ≤ j) (hx : Passes CX X E) (hg : Gl X x) (ha : PA X (e :: es) t) (hkw : PK X kws tk)
    (hall : (backToKw pos (keywordEach kws X.env)).all (·.1.isSome) = true := by rfl) (hks : (backToKw pos (keywordEach kws X.env)).filterMap (·.1) = ks := by rfl) (hdb : (x == ("__debug__" : Str)) = false := by decide)
    (he : starEach (e :: es) X.env = (false, eval e X.env) :: starEach es X.env := by rfl) (hpl : ((backTo pos (starEach (e :: es) X.env)).any (·.1) || (backToKw pos (keywordEach kws X.env)).any (·.1.isNone)) = false := by rfl) :
    PE X (.Call (.Name x p) (e :: es) kws pos) (tMakeK C n ks.length sp (fun vs zs => g vs dvs zs) E t tk) := by
  obtain ⟨f, fd, F, M, hm, G⟩ := c.ex
  obtain ⟨its, hb⟩ := F.kbindsD (n + 1) ks g hd b.rel b.bind
  exact pe_makeK M G (hr.mono hk) hg hm hb hx ha hkw hall hks hdb he hpl
end
end MM
namespace MM
open PySem PySem.Spec PyProof.Rows L2
/-! ### range(a, b) of numbers of any size -/
theorem turn_long {P : Program} {w : World} {K : PySem.W.Frag} {tg : Expr} (it : Addr) (lo : Int) (n : Nat) : Turn P w K tg (Itr lo n) [it] it (fun i h => IsLongIter h it (lo + (i : Nat) * 1) ((n : Int) - (i : Nat)) 1) := by
  refine { mem := List.mem_singleton.mpr rfl, obj := fun i h st b hb => ?_, keep := fun i h h' st k => k it (List.mem_singleton.mpr rfl) _ st, item := ?_, done := ?_, self := fun _ _ _ _ _ st h => wpAny_pyIter_longiter st h }
  · cases List.mem_singleton.mp hb
    exact ⟨_, st, fun v z => nomatch (show Data.fields _ = Data.cell v from z)⟩
  · intro X hP hw hK hc i pins s σ H E I hf st hg
    subst hP; subst hw; subst hK
    obtain ⟨f0, f1, f2, f3, f4, f5⟩ := hf it (List.mem_singleton.mpr rfl)
    refine (Walks.longrange (prog := X.prog) (w := X.w) (I.ok.hd hc) it lo 1 n).item i s _ _ hg st fun v h' tk hv st' kk => ?_
    obtain ⟨t, rfl⟩ := hv
    have J : Inv X pins σ H { s with heap := h', toks := tk } := I.turned (fun b o hb e => kk b o (fun z => hb (List.mem_singleton.mp z)) e) f0 f1 f3 f4 f5
    refine ⟨_, rfl, go_of (s := { s with heap := h', toks := tk }) (n := "longrange_iterator") st' rfl rfl (by decide) ⟨.int (lo + i), H, J, ⟨t, ?_⟩, ⟨rfl, rfl⟩, st', fun b hb => (hf b hb).1⟩⟩
    rw [Int.mul_one]
  · intro X hP hw hK hc i pins s σ H E I hf st hg
    subst hP; subst hw; subst hK
    obtain ⟨f0, f1, f2, f3, f4, f5⟩ := hf it (List.mem_singleton.mpr rfl)
    have hl : n ≤ i := hg
    exact wpAny_pyNext_long_end (I.ok.hd hc) st (by omega) fun h' eb => ⟨rfl, I.turned (t' := s.toks) (fun b o hb e => eb b o hb e) f0 f1 f3 f4 f5⟩
section
variable {X : Cx} {tg : Expr}
theorem long_it {pins : List (Addr × Obj)} {σ : L2.St} {H : Hp} {s : Shared} {R : It → Hp → Prop} {E : Value → Shared → Prop} {lo hi : Int} {t u v : Tok} {tk : Nat} (I : Inv X pins σ H s) (q : R (Itr lo (hi - lo).toNat) H) :
    wpAny (model X.prog X.w) X.A (pyIter (.ref s.heap.objs.size)) (PIE X pins σ tg R) E { s with heap := s.heap.push { cls := .type "range", data := .fields #[.int lo t, .int hi u, .int 1 v] }, toks := tk } := by
  have J : Inv X pins σ H { s with heap := s.heap.push { cls := .type "range", data := .fields #[.int lo t, .int hi u, .int 1 v] }, toks := tk } := I.kept fun b o e => Heap.get?_push_of_some _ e
  have e0 : lo + ((0 : Nat) : Int) * 1 = lo := by simp
  have e1 : (((hi - lo).toNat : Nat) : Int) - ((0 : Nat) : Int) = Builtin.Range.rangeSize lo hi 1 := by
    rw [rangeSize_one]
    split <;> omega
  cases hsm : Builtin.Range.small lo hi 1 with
  | true =>
    refine wpAny_pyIter_range (IsRange.new ..) hsm ⟨_, [_], _, _, H, rfl, J.kept (t' := tk) fun b o e => Heap.get?_push_of_some _ e, turn_range _ lo (hi - lo).toNat, ?_, fun b hb => ?_, q⟩
    · show IsRangeIter _ _ (lo + ((0 : Nat) : Int) * 1) ((((hi - lo).toNat : Nat) : Int) - ((0 : Nat) : Int)) 1
      rw [e0, e1]
      exact Heap.get?_push_size _ rfl
    · cases List.mem_singleton.mp hb
      exact J.fpOk (Nat.le_refl _) (J.hok.fresh (Nat.le_refl _))
  | false =>
    refine wpAny_pyIter_longrange (IsRange.new ..) hsm ⟨_, [_], _, _, H, rfl, J.kept (t' := tk) fun b o e => Heap.get?_push_of_some _ e, turn_long _ lo (hi - lo).toNat, ?_, fun b hb => ?_, q⟩
    · show IsLongIter _ _ (lo + ((0 : Nat) : Int) * 1) ((((hi - lo).toNat : Nat) : Int) - ((0 : Nat) : Int)) 1
      rw [e0, e1]
      exact Heap.get?_push_size _ rfl
    · cases List.mem_singleton.mp hb
      exact J.fpOk (Nat.le_refl _) (J.hok.fresh (Nat.le_refl _))
def iRngA (ta : TA) : TI := fun σ H R => ta σ H fun vs H1 => ∃ i j : Int, vs = [.int i, .int j] ∧ R (Itr i (j - i).toNat) H1
theorem pi_rangeA {a b : Expr} {ta : TA} {p pos : Pos} (hg : Gl X "range") (hm : X.mg "range" = none) (ha : PA X [a, b] ta) (hs : starEach [a, b] X.env = [(false, eval a X.env), (false, eval b X.env)] := by rfl) (hs2 : starEach [b] X.env = [(false, eval b X.env)] := by rfl) :
    PI X tg (.Call (.Name "range" p) [a, b] [] pos) (iRngA ta) := by
  refine ⟨fun pins s σ H R I h => Call_ (ld_blt I hg hm boot_range (PyProof.Rows.callWith_type1 (thn (ha.run pos pins s σ H _ I h) fun us s1 ⟨vs, H1, I1, r1, q1⟩ => ?_) (by rw [hs, hs2]) (by rw [hs2]; rfl)))⟩
  obtain ⟨i, j, e, q⟩ := q1
  subst e
  obtain ⟨u1, u2, rfl, ⟨t, rfl⟩, ⟨t', rfl⟩⟩ := vals2 r1
  exact call_range_2 (long_it I1 q)
end
end MM
namespace MM
open PySem PySem.Spec PyProof.Rows L2
section
variable {K : PySem.W.Frag} {h : Heap} {mg : Str → Option Value} {x m qual : Str} {st : Stmt} {f C T : Addr} {oc kV doc pm cdv ct cT : Value} {od an dT : Option Addr} {osl sT : Array (Option Value)} {nT : Nat}
theorem df_mk (X : K.In h) (G : h.Ns mainGlobals mg) (a : PySem.W.nsIn K mainGlobals x = some (some (.ref f))) (l : K.lookup f = some ⟨oc, od, .func (PySem.W.fnOf x x (defArgs st) (defBody st) (defScope st) .none kV doc pm an cdv ct), osl⟩)
    (c : PySem.W.codeIn K cdv x = true) (k : PySem.W.keepIn K (.ref f) = true) : Df K mg x st [] :=
  ⟨f, _, ⟨⟨oc, od, .none, kV, doc, pm, an, cdv, ct, osl, rfl, l, c, .inl ⟨rfl, rfl⟩, .inl rfl⟩, k⟩, PySem.W.mg_of X G a⟩
theorem dm_mk (cl : Cls K C) (a : PySem.W.findIn K (.ref C) m = some (some (.ref f))) (i : PySem.W.isFn K (.ref f) = true) (l : K.lookup f = some ⟨oc, od, .func (PySem.W.fnOf m qual (defArgs st) (defBody st) (defScope st) .none kV doc pm an cdv ct), osl⟩)
    (c : PySem.W.codeIn K cdv qual = true) (k : PySem.W.keepIn K (.ref f) = true) : Dm K C m qual st :=
  ⟨f, _, ⟨⟨oc, od, .none, kV, doc, pm, an, cdv, ct, osl, rfl, l, c, .inl ⟨rfl, rfl⟩, .inl rfl⟩, k⟩, ⟨a, i, k⟩, cl⟩
theorem di_mk {its : List Value} {dvs : List V} (hC : mg x = some (.ref C)) (a : PySem.W.findIn K (.ref C) "__init__" = some (some (.ref f))) (i : PySem.W.isFn K (.ref f) = true)
    (l : K.lookup f = some ⟨oc, od, .func (PySem.W.fnOf "__init__" qual (defArgs st) (defBody st) (defScope st) (.ref T) kV doc pm an cdv ct), osl⟩) (c : PySem.W.codeIn K cdv qual = true) (k : PySem.W.keepIn K (.ref f) = true)
    (mk : PySem.W.makesIn K C = true) (kc : PySem.W.keepIn K (.ref C) = true) {oT : Obj} (lT : K.lookup T = some oT) (eT : oT.data = .seq its.toArray nT) (r : Vals dvs its) (ne : dvs ≠ []) : Di K mg x C qual st dvs :=
  ⟨f, _, ⟨⟨oc, od, .ref T, kV, doc, pm, an, cdv, ct, osl, rfl, l, c, .inr ⟨ne, T, _, its, nT, rfl, lT, eT, r⟩, .inl rfl⟩, k⟩, ⟨mk, a, i, kc⟩, hC⟩
theorem kit_no {t : Value} (iC : PySem.W.isClsIn K C = true) (tC : PySem.W.typeIn K (.ref C) = some (.type "type")) (ht : (t == Value.ref C) = false) (sI : PySem.W.subIn K t (.ref C) = some false) : PySem.W.kitOne K t (.ref C) = some false := by
  unfold PySem.W.kitOne PySem.W.kitCls
  have iC' : (PySem.W.clsIn K C).isSome = true := iC
  rw [ht, if_neg Bool.false_ne_true]
  show (if ((PySem.W.clsIn K C).isSome && PySem.W.typeIn K (.ref C) == some (.type "type")) = true then PySem.W.subIn K t (.ref C) else none) = some false
  rw [iC', tC, if_pos (by simp)]
  exact sI
theorem fund_inj {params : Arguments} {body : List Stmt} {scope : Scope} {dvs : List V} {kws : List (Str × V)} {fd fd' : FuncData} (F : FunD K x qual params body scope dvs kws f fd) (F' : FunD K x qual params body scope dvs kws f fd') : fd = fd' := by
  obtain ⟨oc, od, dV, kV, doc, pm, an, cdv, ct, osl, e, lk, _⟩ := F.ex
  obtain ⟨oc', od', dV', kV', doc', pm', an', cdv', ct', osl', e', lk', _⟩ := F'.ex
  rw [lk] at lk'
  injection lk' with z
  injection z with z1 z2 z3 z4
  injection z3
end
/-- from the law's promise to what the end of the walk asks -/
theorem fin_of {P : Program} {w : World} {K : PySem.W.Frag} {mg : Str → Option Value} {st : Stmt} {k : Nat} {x : Str} {sp : Sp} {fa : Addr} (hfa : mg "law" = some (.ref fa)) (D : Df K mg "law" st []) (b : Bd "law" "law" st [x])
    (h : ∀ base : Heap, Ca P w K mg base CX0 k "law" st [] [x] sp) :
    ∃ fd : FuncData, (∀ (s : Shared) (u : Value), BindsTo s fd ⟨[u], []⟩ [(x, u)]) ∧ ∀ base : Heap, K.In base → base.Ns mainGlobals mg → FnOk P w K mg base CX0 k fa fd [x] sp := by
  obtain ⟨f, fd, F, hm⟩ := D.ex
  have e := hfa.symm.trans hm
  cases e
  refine ⟨fd, fun s u => ?_, fun base _ _ => ?_⟩
  · obtain ⟨kV, doc, pm, an, cdv, ct, rfl⟩ := FunD.none F
    exact .of_eq (b kV doc pm an cdv ct [u] rfl)
  · obtain ⟨f', fd', F', hm', G⟩ := (h base).ex
    have e' := hm.symm.trans hm'
    cases e'
    have e2 := fund_inj F F'
    subst e2
    exact G
end MM
namespace MM
open PySem PySem.Spec PyProof.Rows L2
/-! ### an except clause with a tuple of classes -/
theorem for_true {M : Model} {A : Around} {E : Value → Shared → Prop} {s : Shared} {Q : PUnit → Shared → Prop} {f : Value → PUnit → Sem (ForInStep PUnit)} : ∀ (cs : List Value),
    (∀ c ∈ cs, ∀ Q' : ForInStep PUnit → Shared → Prop, Q' (.yield .unit) s → wpAny M A (f c .unit) Q' E s) → Q .unit s → wpAny M A (forIn cs PUnit.unit f) Q E s
  | [], _, q => by
    rw [List.forIn_nil]
    exact wpAny_pure q
  | c :: cs, h, q => by
    rw [List.forIn_cons]
    exact wpAny_bind (h c List.mem_cons_self _ (for_true cs (fun d hd => h d (List.mem_cons_of_mem _ hd)) q))
theorem for_first {M : Model} {A : Around} {E : Value → Shared → Prop} {s : Shared} {Q : Option Bool × Unit → Shared → Prop} {f : Value → Option Bool × Unit → Sem (ForInStep (Option Bool × Unit))} {B : Value → Bool} : ∀ (cs : List Value),
    (∀ c ∈ cs, ∀ Q' : ForInStep (Option Bool × Unit) → Shared → Prop, Q' (if B c then .done (some true, ()) else .yield (none, ())) s → wpAny M A (f c (none, ())) Q' E s) →
    Q (if cs.any B then (some true, ()) else (none, ())) s → wpAny M A (forIn cs ((none, ()) : Option Bool × Unit) f) Q E s
  | [], _, q => by
    rw [List.forIn_nil]
    exact wpAny_pure q
  | c :: cs, h, q => by
    rw [List.forIn_cons]
    refine wpAny_bind (h c List.mem_cons_self _ ?_)
    cases hb : B c with
    | true =>
      rw [List.any_cons, hb, Bool.true_or] at q
      exact wpAny_pure q
    | false =>
      rw [List.any_cons, hb, Bool.false_or] at q
      exact for_first cs (fun d hd => h d (List.mem_cons_of_mem _ hd)) q
theorem exm_tups {M : Model} {K : PySem.W.Frag} {cls : Value} {cs : List Value} {tp e : Addr} {h : Heap} {o : Obj} {n : Nat} {B : Value → Bool} (X : K.In h) (LT : PySem.W.Looks M h (typeOf (.ref e)) cls) (hp : h.get? tp = some o) (hc : o.cls = .type "tuple") (hd : o.data = .seq cs.toArray n)
    (hx : ∀ c ∈ cs, PySem.W.exmOne K cls c = some (B c)) : PySem.W.Looks M h (excMatches (.ref e) (.ref tp)) (cs.any B) := by
  intro A Q E s k q
  have LT0 : PySem.W.Looks M h (isInstance (.ref tp) (.type "tuple")) true := by
    refine PySem.W.Looks.andThen (a := .type "tuple") (fun A Q E s k q => wpAny_typeOf_ref (k _ _ hp) (by rw [hc]; exact q)) (PySem.W.Looks.of_pure isSubtype_tuple_tuple)
  unfold excMatches
  refine wpAny_bind ((LT0.keeps k).here ?_)
  dsimp only
  rw [if_pos rfl]
  refine wpAny_bind (wpAny_seqItems (k _ _ hp) hd (wpAny_bind (wpAny_pure ?_)))
  show wpAny M A (forIn cs PUnit.unit _ >>= _) _ _ _
  refine wpAny_bind (for_true cs (fun c hcm Q' q' => ?_) ?_)
  · refine wpAny_bind (((PySem.W.exm_cls (M := M) X (hx c hcm)).1.keeps k).here ?_)
    rw [if_neg (by decide)]
    exact wpAny_pure q'
  · refine wpAny_bind ((LT.keeps k).here (wpAny_bind (for_first (B := B) cs (fun c hcm Q' q' => ?_) ?_)))
    · refine wpAny_bind (((PySem.W.exm_cls (M := M) X (hx c hcm)).2.keeps k).here ?_)
      cases hb : B c with
      | true =>
        rw [hb] at q'
        rw [if_pos rfl]
        exact wpAny_pure q'
      | false =>
        rw [hb] at q'
        rw [if_neg (by decide)]
        exact wpAny_pure q'
    · cases hb : cs.any B with
      | true =>
        rw [hb] at q
        exact wpAny_pure q
      | false =>
        rw [hb] at q
        exact wpAny_pure q
/-! ### a caught exception that is kept -/
/-- at a: an exception of the class cls, its own dict at d -/
def KX (a : Addr) (cls : Value) (d : Option Addr) : HO := .ext fun h => ∃ (oe : Obj) (vs : Array Value), h.get? a = some oe ∧ Zc cls d oe ∧ oe.data = .fields vs
theorem kx_ok {P : Program} {w : World} {H : Hp} {h : Heap} {a : Addr} {cls : Value} {d : Option Addr} {oe : Obj} {vs : Array Value} (e : h.get? a = some oe) (z : Zc cls d oe) (hd : oe.data = .fields vs) : ObjOk P w H h a (KX a cls d) :=
  ⟨⟨oe, vs, e, z, hd⟩, ⟨oe, e⟩, fun h1 h2 ⟨o, v, e1, z1, d1⟩ k => ⟨o, v, k _ e1, z1, d1⟩⟩
section
variable {X : Cx} {pins : List (Addr × Obj)} {σ : L2.St} {H : Hp} {s : Shared} {a : Addr} {oe : Obj} {vs : Array Value} {cls : Value} {d : Option Addr}
theorem Inv.track (I : Inv X pins σ H s) (ha : s.heap.get? a = some oe) (hz : Zc cls d oe) (hd : oe.data = .fields vs) (na : H a = none) (n0 : X.s_0.heap.get? a = none) (nL : a ≠ X.env.locals) (nC : ∀ x c, X.env.cells.lookup x = some c → c ≠ a)
    (nP : ∀ p ∈ X.pn ++ pins, p.1 ≠ a) : Inv X pins σ (L2.upd H a (KX a cls d)) s := by
  have neA : ∀ {b : Addr} {o : HO}, H b = some o → b ≠ a := fun e => ne_of_none e na
  have ne0 : ∀ {b : Addr} {o : Obj}, X.s_0.heap.get? b = some o → b ≠ a := fun e z => by
    rw [z, n0] at e
    cases e
  refine ⟨I.ok, I.os, I.bare, ⟨I.base.keep, I.base.slot, fun b o e n hx => ?_, I.base.there, fun b xs e => ?_, fun b o u e => ?_, fun b ps e => ?_⟩, I.loc, I.cell, ?_, fun x c e => ?_, fun p hp => ?_, fun b u e => ?_, I.len⟩
  · rw [upd_ne (ne0 e)]
    exact I.base.free b o e n hx
  · have q := I.base.tups b xs e
    rw [upd_ne (neA q)]
    exact q
  · have q := I.base.frzs b o u e
    rw [upd_ne (neA q)]
    exact q
  · obtain ⟨m, q⟩ := I.base.tbls b ps e
    exact ⟨m, by rw [upd_ne (neA q)]; exact q⟩
  · rw [upd_ne nL.symm]
    exact I.free
  · rw [upd_ne (nC x c e)]
    exact I.freeC x c e
  · obtain ⟨q1, q2, q3⟩ := I.pin p hp
    exact ⟨q1, by rw [upd_ne (nP p hp)]; exact q2, q3⟩
  · by_cases hb : b = a
    · subst hb
      rw [upd_same] at e
      cases e
      exact kx_ok ha hz hd
    · rw [upd_ne hb] at e
      exact (I.hok b u e).stay (fun c v _ q => q) (fun c q => by rw [upd_ne (neA q)]; exact q) fun c xs q => by rw [upd_ne (neA q)]; exact q
end
theorem flying_more {B h h' : Heap} {l : List Env} {e : Addr} {Z : Obj → Prop} (x : HandSPX.FlyingZ B l e Z h) (k : ∀ b o, h.get? b = some o → h'.get? b = some o) : HandSPX.FlyingZ B l e Z h' := by
  obtain ⟨f1, f2, f3, oe, vs, T, oT, ts, he, hz, hd, h1, hnT, hTe, hT, hdT, h3⟩ := x
  exact ⟨fun b o q => k b o (f1 b o q), f2, f3.of_keeps fun b o hb _ => ⟨o, k b o hb, rfl⟩, oe, vs, T, oT, ts, k _ _ he, hz, hd, h1, hnT, hTe, k _ _ hT, hdT, h3⟩
/-- the names of a tuple of classes -/
inductive Nms (X : Cx) : List Expr → List Value → Prop
  | nil : Nms X [] []
  | cons {x : Str} {p : Pos} {c : Value} {es : List Expr} {cs : List Value} (g : Gl X x) (d : (x == ("__debug__" : Str)) = false) (m : X.mg x = some c) (r : Nms X es cs) : Nms X (.Name x p :: es) (c :: cs)
/-- what try .. except (..) as n: m = n wishes of an exception of the body: i is n's slot, j m's -/
def wKeep (K : PySem.W.Frag) (cs : List Value) (i j : Nat) (D : Ends) : WX := fun cls d σ H =>
  (∃ B : Value → Bool, (∀ c ∈ cs, PySem.W.exmOne K cls c = some (B c)) ∧ cs.any B = true) ∧ ∀ a, H a = none → D.nx (((σ.set i (some (.ref a))).set j (some (.ref a))).set i none) (L2.upd H a (KX a cls d))
section
variable {X : Cx} {cs : List Value} {es : List Expr} {n m : Str} {i j : Nat} {body : List Stmt} {kt : Nat} {tpos np mp apos pos pos' : Pos} {tb : WX → TS}
theorem nms_run {Y : Cx} {pins : List (Addr × Obj)} {σ : L2.St} {H : Hp} {s : Shared} (I : Inv Y pins σ H s) {es : List Expr} {cs : List Value} (h : Nms Y es cs) : ∀ {Q : List Value → Shared → Prop} {E : Value → Shared → Prop} {pos : Pos}, Q cs s →
    wpAny (model Y.prog Y.w) Y.A (spliced (backTo pos (starEach es Y.env))) Q E s := by
  induction h with
  | nil => exact fun q => wpAny_items_nil q
  | cons g d m r ih => exact fun q => wpAny_items_cons (ld_glob I g m (ih q) d)
theorem Nms.to {X Y : Cx} (he : Y.env = X.env) (hm : Y.mg = X.mg) {es : List Expr} {cs : List Value} (h : Nms X es cs) : Nms Y es cs := by
  induction h with
  | nil => exact .nil
  | cons g d m r ih => exact .cons (by unfold Gl; rw [he]; exact g) d (by rw [hm]; exact m) ih
/-- try: body / except (..) as n: m = n; nothing else leaves the body -/
theorem ps_try_keep (hs : X.stack = X.env :: X.outer) (hf : X.env.frame = some X.env.locals) (hex : X.ex = []) (hN : X.N.Nodup) (hi : X.N[i]? = some n) (hln : X.env.kindOf n = some .local) (hj : X.N[j]? = some m) (hlm : X.env.kindOf m = some .local) (hc : Nms X es cs) (hz : cs.length ≤ 100)
    (hdb : (n == ("__debug__" : Str)) = false := by decide) (hcd : (n == ("__classdict__" : Str)) = false := by decide)
    (hb : ∀ (W : WX) (pn : List (Addr × Obj)) (xe : Value → Shared → Prop), Takes (X.tr pn xe) W → PassesOwn (model X.prog X.w) X.A X.env xe → PSs (X.tr pn xe) body (tb W))
    (hsw : swapsWith (.Name n np) (some (.Name m mp)) apos.line X.env = pure false := by rfl) :
    PS X (.Try body [.ExceptHandler (some (.Tuple es kt tpos)) (some n) [.Assign [.Name m mp] (.Name n np) apos] pos'] [] [] pos) (fun D σ H => tb (wKeep X.K cs i j D) D σ H) := by
  refine ⟨fun pins s σ H D I h => ?_⟩
  have ok := I.ok
  have hfr : X.A.frames = some (X.env :: X.outer) := by rw [ok.frames, hs]
  refine wpAny_Try_except ?_
  refine wpAny_mono ((hb (wKeep X.K cs i j D) (X.pn ++ pins) (fun e s₁ => wpAny (model X.prog X.w) X.A (noteFrame e X.env) (fun _ s₂ => wpAny (model X.prog X.w) X.A (setFlight e none) (fun _ s₃ =>
    wpAny (model X.prog X.w) X.A (handleBy e X.env [.ExceptHandler (some (.Tuple es kt tpos)) (some n) [.Assign [.Name m mp] (.Name n np) apos] pos']) (SP X pins D) X.xe s₃) X.xe s₂) X.xe s₁) (fun u s' xx => ?_) PassesOwn.looking).run [] s σ H D (I.toTry _) h) (fun f s1 hsp => ?_) (fun e s1 he => he)
  · obtain ⟨a, B, sI, pins', σ', H', cls, d, rfl, J', nb, up, sky, na, os, ag, ⟨Bc, hB, hany⟩, wish⟩ := xx
    have J : Inv X pins σ' H' sI := J'.ofTry ok
    have sky' : Sky B (X.env :: X.outer) a (Zc cls d) X.env.locals s'.heap := by rw [← hs]; exact sky
    show wpAny (model X.prog X.w) X.A (noteFrame (.ref a) X.env) _ _ _
    refine Sky.land Zc.steady hfr hf sky' fun h3 fl3 up3 => ?_
    have J3 : Inv X pins σ' H' { s' with heap := h3 } := J.landed nb fl3.1 (up.trans up3) os ag
    obtain ⟨oe3, vs3, he3, hz3, hd3⟩ := fl3.there
    have nfr : a ∉ frs (X.env :: X.outer) := fun hm => by
      obtain ⟨_, o', e', hnf⟩ := fl3.2.2.1.mem hm
      rw [he3] at e'
      cases e'
      exact hnf _ hd3
    have nL : a ≠ X.env.locals := fun z => nfr (List.mem_filterMap.mpr ⟨X.env, List.mem_cons_self, by rw [hf, z]⟩)
    have nF : a ∉ X.fs := fun hm => by
      obtain ⟨e, he, q⟩ := List.mem_filterMap.mp hm
      exact nfr (List.mem_filterMap.mpr ⟨e, List.mem_cons_of_mem _ he, q⟩)
    have nI : sI.heap.get? a = none := by
      cases q : sI.heap.get? a with
      | none => rfl
      | some o =>
        have z := nb a o q (by rw [hs]; exact nfr)
        rw [fl3.2.1] at z
        cases z
    have n0 : X.s_0.heap.get? a = none := by
      cases q : X.s_0.heap.get? a with
      | none => rfl
      | some o =>
        obtain ⟨o', z⟩ := J.base.there a o q (by rw [hex]; exact fun y => nomatch y)
        rw [nI] at z
        cases z
    have nC : ∀ x c, X.env.cells.lookup x = some c → c ≠ a := fun x c e z => by
      obtain ⟨v, o, ho, _⟩ := J.cell x c e
      rw [z, nI] at ho
      cases ho
    have nP : ∀ p ∈ X.pn ++ pins, p.1 ≠ a := fun p hp z => by
      have q := (J.pin p hp).1
      rw [z, nI] at q
      cases q
    have S3 := J3.suite he3 hd3 na nL nF
    refine wpAny_handleBy_cons (codeAny_handlers_test ?_) (by intro q; cases q)
    refine wpAny_Tuple (nms_run (Y := X.suite a ((a, oe3) :: (X.pn ++ pins))) S3 (Nms.to (X := X) (Y := X.suite a ((a, oe3) :: (X.pn ++ pins))) rfl rfl hc) ⟨Nat.le_trans hz (by decide), ?_⟩)
    have kp : ∀ b o, h3.get? b = some o → (h3.push { cls := .type "tuple", data := .seq cs.toArray }).get? b = some o := fun b o e => Heap.get?_push_of_some _ e
    have LT : PySem.W.Looks (model X.prog X.w) (h3.push { cls := .type "tuple", data := .seq cs.toArray }) (typeOf (.ref a)) cls := fun A Q E s k q => wpAny_typeOf_ref (k _ _ (kp _ _ he3)) (by rw [hz3.1]; exact q)
    have LM := exm_tups (M := model X.prog X.w) (J3.kIn.keeps kp) LT (Heap.get?_push_size h3 rfl) rfl rfl hB
    rw [hany] at LM
    refine LM.here ?_
    refine codeAny_handlers_suite_as ?_
    have fl3' := flying_more fl3 kp
    refine HandSPX.lands_againZ fl3' fun h4 fl4 up4 => ?_
    have upp : h3.UpToSlots (h3.push { cls := .type "tuple", data := .seq cs.toArray }) := fun b o hb _ => ⟨o.slots, kp b o hb⟩
    have J4 : Inv X pins σ' H' { s' with heap := h4 } := J.landed nb fl4.1 (((up.trans up3).trans upp).trans up4) os ag
    obtain ⟨oe4, vs4, he4, hz4, hd4⟩ := fl4.there
    have S4 := J4.suite he4 hd4 na nL nF
    refine store_ok (X := X.suite a ((a, oe4) :: (X.pn ++ pins))) (v := .ref a) S4 hN hi (.inl hln) rfl (fun s5 S5 => ?_) (.inr hln)
    have rd : PSs (X.suite a ((a, oe4) :: (X.pn ++ pins))) [.Assign [.Name m mp] (.Name n np) apos] (tAsg (tVar i) (gName j)) := pss_one (ps_set hN hj (.inl hlm) (pe_var hi (.inl hln) hdb hcd) hsw (.inr hlm))
    refine wpAny_mono (rd.run [] s5 _ H' { nx := fun σ6 H6 => σ6 = (σ'.set i (some (.ref a))).set j (some (.ref a)) ∧ H6 = H', rt := fun _ _ => False } S5 ⟨_, ?_, rfl, rfl⟩) (fun f s6 hsp => ?_) (fun _ _ z => False.elim z)
    · exact List.getElem?_set_self (by rw [J.len]; exact (List.getElem?_eq_some_iff.mp hi).1)
    · cases f with
      | next =>
        obtain ⟨σ6, H6, S6, rfl, rfl⟩ := hsp
        obtain ⟨p1, p2, _⟩ := S6.pin (a, oe4) (List.mem_append_left _ List.mem_cons_self)
        have J6 := Inv.track (S6.unsuite ok) p1 hz4 hd4 na n0 nL nC nP
        exact gone_ok J6 hN hi hln fun s7 J7 => ⟨_, _, J7, wish a na⟩
      | brk =>
        obtain ⟨_, _, _, z⟩ := hsp
        exact z.elim
      | cont =>
        obtain ⟨_, _, _, z⟩ := hsp
        exact z.elim
      | ret u =>
        obtain ⟨_, _, _, _, _, z⟩ := hsp
        exact z.elim
  · cases f with
    | next =>
      obtain ⟨σ1, H1, J1, q⟩ := hsp
      exact wpAny_execs_nil ⟨σ1, H1, J1.ofTry ok, q⟩
    | brk =>
      obtain ⟨σ1, H1, J1, q⟩ := hsp
      exact ⟨σ1, H1, J1.ofTry ok, q⟩
    | cont =>
      obtain ⟨σ1, H1, J1, q⟩ := hsp
      exact ⟨σ1, H1, J1.ofTry ok, q⟩
    | ret u =>
      obtain ⟨v1, σ1, H1, J1, r1, q⟩ := hsp
      exact ⟨v1, σ1, H1, J1.ofTry ok, r1, q⟩
end
end MM
namespace MM
open PySem PySem.Spec PySem.Calls PyProof.Rows L2
/-! ### a kept exception is asked for its class -/
/-- what the class D says, so that its instances may be asked -/
structure XcF (K : PySem.W.Frag) (D : Addr) : Prop where
  ga : PySem.W.findIn K (.ref D) "__getattribute__" = some (some (.builtin "BaseException.__getattribute__"))
  gg : PySem.W.findIn K (.ref D) "__getattr__" = some none
  sub : PySem.W.subIn K (.ref D) (.type "BaseException") = some true
  hd : PySem.W.hasDictIn K D = true
  ca : PySem.W.findIn K (.ref D) "__class__" = some (some (.builtin "object.__class__"))
  gn : PySem.W.specialIn K (.builtin "object.__class__") "__get__" = some (some (.builtin "getset_descriptor.__get__"))
  tk : PySem.W.takesIn K (.builtin "object.__class__") = some true
  mo : PySem.W.mroIn K D (.type "object") = some true
section
open PySem.W
variable {prog : Program} {w : World} {A : Around} {E : Value → Shared → Prop} {s : Shared} {K : Frag} {x D : Addr} {ox : Obj} {od : Option Obj}
theorem found_class (C : XcF K D) : findObj K D od "__class__" = some (.bind (.builtin "getset_descriptor.__get__") (.builtin "object.__class__")) := by
  obtain ⟨cd, hc, _⟩ := any_some C.hd
  unfold findObj
  rw [hc, Option.bind_some, C.ca, Option.bind_some]
  simp [C.gn, C.tk]
theorem class_exc {Q : Option Value → Shared → Prop} (C : XcF K D) (X : K.In s.heap) (I : InstAt s.heap x ox D od) (h : Q (some (.ref D)) { s with toks := s.toks + 1 }) : wpAny (model prog w) A (getAttr? (.ref x) "__class__") Q E s := by
  obtain ⟨hp, g, d, t, os⟩ := s
  have l0 := I.type (M := model prog w)
  have l1 := looks_findIn (M := model prog w) X C.ga
  have l2 := looks_findIn (M := model prog w) X C.gg
  have l3 := looks_find (M := model prog w) X I (found_class C)
  have isB : Looks (model prog w) hp (isInstance (.ref x) (.type "BaseException")) true := l0.andThen (looks_subIn X C.sub)
  have n2 : (Value.builtin "BaseException.__getattribute__" == Value.builtin "object.__getattribute__") = false := by decide +kernel
  unfold getAttr? getAttrBy? getAttrBy
  refine wpAny_bind (wpAny_mkText (wpAny_bind (wpAny_attempt (wpAny_holding (wpAny_bind (l0.at (wpAny_bind (l1.at (?_ : wpAny _ _ (if (onTheHeap (Value.ref D) && Value.builtin "BaseException.__getattribute__" == Value.builtin "object.__getattribute__") = true then _ else _) _ _ _)))))))))
  rw [show (onTheHeap (Value.ref D) && Value.builtin "BaseException.__getattribute__" == Value.builtin "object.__getattribute__") = false by rw [n2]; rfl, if_neg Bool.false_ne_true]
  unfold getAttrByItsOwn hookBefore
  refine wpAny_bind ?_
  rw [if_pos (show onTheHeap (Value.ref D) = true from rfl)]
  refine l2.at (wpAny_bind (wpAny_attempt (wpAny_holding ?_)))
  unfold callGetattribute
  rw [show (false && onTheHeap (Value.builtin "BaseException.__getattribute__")) = false from rfl, if_neg Bool.false_ne_true]
  unfold boundAndCalled
  rw [PySem.F.excAttr_ValueError.ga.bind (.ref x)]
  refine wpAny_bind (wpAny_pure (?_ : wpAny _ _ (call (.builtin "BaseException.__getattribute__") [.ref x, .str "__class__" t]) _ _ _))
  refine wpAny_call (codeAny_call_builtin PySem.F.excAttr_ValueError.ga.plain PySem.F.entry_bexc_ga (@check_slot (model prog w) _ _ ⟨hp, g, d, t + 1, os⟩ "BaseException.__getattribute__" "BaseException" "__getattribute__" (.ref x) [.str "__class__" t] [] _ (by decide +kernel) (by decide +kernel) isB (PySem.F.args_bexc_ga (.ref x) (.str "__class__" t)) ?_))
  unfold Builtin.«object.__getattribute__»
  refine wpAny_bind (wpAny_of_eq (a := ((Value.ref x : Value), [Value.str "__class__" t])) (by first | rfl | (simp only [slotArgs]; rfl)) (wpAny_bind (wpAny_pure (wpAny_bind (l0.at (wpAny_bind (l3.at
    (?_ : wpAny _ _ (holding [Value.builtin "object.__class__"] (call (.builtin "getset_descriptor.__get__") [.builtin "object.__class__", .ref x, .ref D]) >>= ret) _ _ _))))))))
  refine wpAny_bind (wpAny_holding (wpAny_call (class_get (s := ⟨hp, g, d, t + 1, os⟩) (ox := ox) (od := od) X I C.mo (wpAny_pure (?_ : wpAny _ _ (handedOut (.ref D)) _ _ _)))))
  rw [handedOut_of (v := .ref D) rfl]
  first
    | exact wpAny_pure (wpAny_pure h)
    | exact wpAny_pure h
    | exact wpAny_pure (wpAny_bind (wpAny_pure (wpAny_pure h)))
theorem kitx_kept (C : XcF K D) : KitX K (.ref x) (.ref D) (fun h => ∃ (ox : Obj) (od : Option Obj), InstAt h x ox D od) := by
  obtain ⟨cd, hc, _⟩ := any_some C.hd
  unfold clsIn at hc
  split at hc
  · rename_i c' d' cd' sl' ho
    refine { ty := fun _ _ _ ⟨_, _, I⟩ => I.type, it := fun _ _ X _ A' Q' E' s' k q => ?_, ne := fun h tp dd its n sl X htp => Bool.eq_false_iff.mpr fun q => ?_, ca := fun X ⟨_, _, I⟩ k => class_exc C X I k }
    · unfold isType loadHead
      exact wpAny_bind (wpAny_loadPart (k _ _ (X _ _ ho)) (wpAny_pure q))
    · have e : D = tp := Value.ref.inj (beq_iff_eq.mp q)
      subst e
      cases (X _ _ ho).symm.trans htp
  · cases hc
end
section
variable {X : Cx} {a D : Addr} {d : Option Addr} {oD : Addr}
theorem kept_inst {pins : List (Addr × Obj)} {σ : L2.St} {H : Hp} {s : Shared} {fs : List (Str × V)} (I : Inv X pins σ H s) (ha : H a = some (KX a (.ref D) (some oD))) (hd : H oD = some (.xd fs)) :
    ∃ (ox : Obj) (od : Obj) (mA : Str → Option Value), PySem.W.InstAt s.heap a ox D (some od) ∧ s.heap.Ns1 oD mA ∧ (∀ f, RelO (fs.lookup f) (mA f)) ∧ ∀ n, PySem.W.lookIn n od = some (mA n) := by
  have x1 : ObjOk X.prog X.w H s.heap a (KX a (.ref D) (some oD)) := I.hok a _ ha
  obtain ⟨⟨ox, vs, e, z, dd⟩, _, _⟩ := x1
  have x2 : ObjOk X.prog X.w H s.heap oD (.xd fs) := I.hok oD _ hd
  obtain ⟨mA, hns, hr⟩ := x2
  obtain ⟨od, ho, hl⟩ := lookIn_ns hns
  exact ⟨ox, od, mA, ⟨e, z.1, by unfold PySem.W.notCls; rw [dd], by rw [z.2]; exact ho⟩, hns, hr, hl⟩
/-- isinstance(x, c), x a kept exception -/
def rIsK (K : PySem.W.Frag) (D : Addr) : List V → Hp → VK → Prop := fun xs H Q => ∃ (a oD : Addr) (fs : List (Str × V)) (c : V) (u : Value) (b : Bool), xs = [.ref a, c] ∧ H a = some (KX a (.ref D) (some oD)) ∧ H oD = some (.xd fs) ∧ ClsV c u ∧ PySem.W.kitOne K (.ref D) u = some b ∧ Q (.bl b) H
theorem call_isK (C : XcF X.K D) : CallR X (.builtin "isinstance") (rIsK X.K D) := by
  intro pins s σ H xs us Q I r h
  obtain ⟨a, oD, fs, c, u, b, rfl, ha, hd, hc, e, q⟩ := h
  obtain ⟨u1, u2, rfl, r1, r2⟩ := vals2 r
  cases (show u1 = Value.ref a from r1)
  have ec := hc.eq r2
  subst ec
  obtain ⟨ox, od, _, J, _⟩ := kept_inst I ha hd
  exact PySem.W.kia_one (kitx_kept C) I.kIn ⟨ox, _, J⟩ e (fun z => nomatch z) fun tk => ⟨.bl b, H, I.kept (t' := tk) fun _ _ z => z, rfl, q⟩
/-- x.f, x a kept exception -/
def tKf (D : Addr) (f : Str) (te : TE) : TE := fun σ H Q => te σ H fun x H1 => ∃ (a oD : Addr) (fs : List (Str × V)) (v : V), x = .ref a ∧ H1 a = some (KX a (.ref D) (some oD)) ∧ H1 oD = some (.xd fs) ∧ fs.lookup f = some v ∧ Q v H1
theorem pe_kf {e : Expr} {te : TE} {pos : Pos} {n : Str} (C : XcF X.K D) (hno : PySem.W.findIn X.K (.ref D) n = some none) (he : PE X e te) (hb : attributeBase e n X.env (eval e X.env) = eval e X.env := by rfl) : PE X (.Attribute e n pos) (tKf D n te) := by
  refine ⟨fun pins s σ H Q I h => attr_of hb (thn (he.run pins s σ H _ I h) fun u s1 hh => ?_)⟩
  obtain ⟨x, H1, I1, rx, a, oD, fs, v, rfl, ha, hd, l, q⟩ := hh
  cases (show u = Value.ref a from rx)
  obtain ⟨ox, od, mA, J, _, hr, hl⟩ := kept_inst I1 ha hd
  obtain ⟨u1, hu, ru⟩ := RelO.some_of (v := v) (o := mA n) (by rw [← l]; exact hr n)
  exact HandSPX.exc_get I1.kIn J C.ga C.gg C.sub (PySem.W.findObj_own C.hd hno rfl (by rw [hl, hu])) (handed_of ru) ⟨v, H1, I1.tok _, ru, q⟩
end
end MM
namespace MM
open PySem PySem.Spec PyProof.Rows L2
section
variable {K : PySem.W.Frag} {h : Heap} {mg : Str → Option Value} {x m qual : Str} {st : Stmt} {f C D CN : Addr} {b : Bool} {oc kV doc pm cdv ct : Value} {od an : Option Addr} {osl : Array (Option Value)}
/-- another class of errors, beside the class CN -/
structure Oc (K : PySem.W.Frag) (mg : Str → Option Value) (CN : Addr) (x : Str) (D : Addr) (b : Bool) : Prop where
  m : mg x = some (.ref D)
  i : PySem.W.isClsIn K D = true
  t : PySem.W.typeIn K (.ref D) = some (.type "type")
  e : PySem.W.subIn K (.ref D) (.type "BaseException") = some true
  s : PySem.W.subIn K (.ref CN) (.ref D) = some b
theorem Oc.cls (o : Oc K mg CN x D b) : PySem.W.kitCls K (.ref CN) (.ref D) = some b := by
  have iC' : (PySem.W.clsIn K D).isSome = true := o.i
  show (if ((PySem.W.clsIn K D).isSome && PySem.W.typeIn K (.ref D) == some (.type "type")) = true then PySem.W.subIn K (.ref CN) (.ref D) else none) = some b
  rw [iC', o.t, if_pos (by simp)]
  exact o.s
theorem Oc.kit (o : Oc K mg CN x D b) (hn : CN = D → b = true) : PySem.W.kitOne K (.ref CN) (.ref D) = some b := by
  unfold PySem.W.kitOne
  by_cases he : CN = D
  · rw [if_pos (by rw [he]; simp), hn he]
  · rw [if_neg (by simp [he])]
    exact o.cls
theorem Oc.exm (o : Oc K mg CN x D b) : PySem.W.exmOne K (.ref CN) (.ref D) = some b := by
  unfold PySem.W.exmOne
  rw [o.e, if_pos (by simp)]
  exact o.cls
theorem kit_typ {T : String} (m : PySem.W.kitMeta T = true) (s : PySem.W.subIn K (.ref CN) (.type T) = some b) : PySem.W.kitOne K (.ref CN) (.type T) = some b := by
  unfold PySem.W.kitOne
  rw [if_neg (by simp)]
  show (if PySem.W.kitMeta T = true then PySem.W.subIn K (.ref CN) (.type T) else none) = some b
  rw [if_pos m]
  exact s
end
end MM
namespace MM
open PySem PySem.Spec PySem.Calls PyProof.Rows L2
/-! ### own classes of errors right over a built-in one, their __init__ walked as a def -/
/-- what the written part says of the class at C, which stands right over the built-in B -/
structure OxG (K : PySem.W.Frag) (C : Addr) (B newId initId : String) (bm : List Value) : Prop where
  bf : ExcBaseFacts B newId initId bm
  sf : StoreFacts B bm "object.__setattr__" "object"
  tl : PySem.W.excTail bm bm = true
  cls : ∃ nm q N bs sn sub ab col dd k0 k1 k2 k3 k5, K.lookup C = some (excClassObj nm q C N bs bm true sn sub ab col dd k0 k1 k2 k3 k5 newId)
  sa : PySem.W.findIn K (.ref C) "__setattr__" = some (some (.builtin "object.__setattr__"))
  exC : PySem.W.subIn K (.ref C) (.type "BaseException") = some true
  tyC : PySem.W.typeIn K (.ref C) = some (.type "type")
  kC : PySem.W.keepIn K (.ref C) = true
section
variable {K : PySem.W.Frag} {C : Addr} {B newId initId : String} {bm : List Value}
theorem OxG.dat (T : OxG K C B newId initId bm) : ∃ cd, PySem.W.clsIn K C = some cd ∧ cd.mro = .ref C :: bm ∧ cd.hasDict = true := by
  obtain ⟨nm, q, N, bs, sn, sub, ab, col, dd, k0, k1, k2, k3, k5, hC⟩ := T.cls
  exact ⟨_, (by unfold PySem.W.clsIn; rw [hC] <;> rfl), rfl, rfl⟩
theorem OxG.over (T : OxG K C B newId initId bm) : PySem.W.excOver K C bm = true := by
  obtain ⟨cd, hc, hm, _⟩ := T.dat
  unfold PySem.W.excOver
  rw [hc]
  show (match cd.mro with | .ref C' :: b => C' == C && PySem.W.excTail bm b | _ => false) = true
  rw [hm]
  show (C == C && PySem.W.excTail bm bm) = true
  rw [T.tl]
  simp
theorem OxG.taker (T : OxG K C B newId initId bm) {f : Str} (hno : PySem.W.findIn K (.ref C) f = some none) : PySem.W.takerIn K C f = some none := by
  unfold PySem.W.takerIn
  rw [hno]
  rfl
end
section
variable {X : Cx} {pins : List (Addr × Obj)} {σ : L2.St} {H : Hp} {s : Shared} {a C dx : Addr} {f : Str} {y : V} {u : Value} {fs : List (Str × V)} {Q : Unit → Shared → Prop} {E : Value → Shared → Prop} {A : Around} {B newId initId : String} {bm : List Value}
/-- the first field -/
theorem gx_new (T : OxG X.K C B newId initId bm) (I : Inv X pins σ H s) (e : H a = some (exo a C none)) (hno : PySem.W.findIn X.K (.ref C) f = some none) (ry : RelV y u)
    (h : ∀ dx s', H dx = none → dx ≠ a → Inv X pins σ (L2.upd (L2.upd H dx (exd dx [(f, y)])) a (exo a C (some dx))) s' → Q () s') : wpAny (model X.prog X.w) A (setAttr (.ref a) f u) Q E s := by
  obtain ⟨cd, hcd, hmr, hhd⟩ := T.dat
  obtain ⟨t1, ho⟩ := exo_at I.hok e
  obtain ⟨hp, g, dn, t, os⟩ := s
  have key : ∀ (h' : Heap) (tk' : Nat), (∀ b o, b ≠ a → hp.get? b = some o → h'.get? b = some o) → h'.get? a = some ({ cls := .ref C, dict := some hp.objs.size, data := .fields #[.ref t1, .none, .none, .none, .bool false, .none] } : Obj) →
      h'.Ns1 hp.objs.size (fun z => if z = f then some u else none) → Q () ⟨h', g, dn, tk', os⟩ := by
    intro h' tk' k hx hn
    have nlt : ∀ {b : Addr} {o : Obj}, hp.get? b = some o → b ≠ hp.objs.size := fun q => Nat.ne_of_lt (Heap.lt_size q)
    have hnd : H hp.objs.size = none := I.hok.fresh (Nat.le_refl _)
    have dne : hp.objs.size ≠ a := (nlt ho).symm
    have na : ∀ {b : Addr}, H b = none → b ≠ a := fun n z => by
      subst z
      cases e.symm.trans n
    refine h hp.objs.size _ hnd dne (I.un (t' := tk') ⟨fun b o q n _ _ => k b o (na n) q, fun b o q n _ _ => ⟨o.slots, k b o (na n) q⟩, fun b o q n _ => ?_, fun b o q _ => ?_, fun b xs q => ?_, fun b o v q => ?_, fun b ps q => ⟨#[], ?_⟩⟩ fun b o q => ?_)
    · rw [upd_ne (na n), upd_ne (nlt q)]
      exact n
    · by_cases hb : b = a
      · exact ⟨_, by rw [hb]; exact hx⟩
      · exact ⟨o, k b o hb q⟩
    · rw [upd_ne (at_ne e q exo_tup), upd_ne (ne_of_none q hnd)]
      exact q
    · rw [upd_ne (at_ne e q exo_frz), upd_ne (ne_of_none q hnd)]
      exact q
    · rw [upd_ne (at_ne e q exo_tbl), upd_ne (ne_of_none q hnd), q]
      simp
    · by_cases hb : b = a
      · subst hb
        cases upd_same.symm.trans q
        exact exo_ok hx
      rw [upd_ne hb] at q
      by_cases hd : b = hp.objs.size
      · subst hd
        cases upd_same.symm.trans q
        exact exd_ok hn (relO_put (fs := []) ry fun g => True.intro)
      rw [upd_ne hd] at q
      refine (I.hok b o q).stay (fun c v hc z => k c v ?_ z) (fun c hc => ?_) (fun c xs hc => ?_)
      · rcases hc with hc | hc
        · exact fun z => hb (hc ▸ z)
        · exact at_ne e hc exo_own
      · rw [upd_ne (at_ne e hc exo_own), upd_ne (ne_of_none hc hnd)]
        exact hc
      · rw [upd_ne (at_ne e hc exo_tup), upd_ne (ne_of_none hc hnd)]
        exact hc
  have J : PySem.W.InstAt hp a ({ cls := .ref C, dict := none, data := .fields #[.ref t1, .none, .none, .none, .bool false, .none] } : Obj) C none := ⟨ho, rfl, rfl, trivial⟩
  refine PySem.W.set_plain I.kIn J T.sa (PySem.W.osa_openX T.sf I.kIn J T.over (T.taker hno) fun b => ?_)
  have hs : a ≠ hp.objs.size := Nat.ne_of_lt (Heap.lt_size ho)
  refine wpAny_bind (wpAny_pure (wpAny_bind (PySem.W.instanceDict_exc (t := t1) (c2 := .none) ho (PySem.W.looks_clsIn I.kIn hcd) hhd ?_)))
  refine PySem.HandSPX.store_in_new ?_ fun h' tk' hn' hsb => ?_
  · exact ⟨_, #[], _, (Heap.get?_update_ne _ _ _ _ hs.symm).trans (Heap.get?_push_at rfl rfl), rfl, fun e he => absurd he (by simp), fun _ => rfl⟩
  · refine key h' _ (fun b o hb hq => ?_) ?_ hn'
    · exact (hsb.2 b (Nat.ne_of_lt (Heap.lt_size hq))).trans ((Heap.get?_update_ne _ _ _ _ hb).trans (Heap.get?_push_of_some _ hq))
    · exact (hsb.2 a hs).trans (Heap.get?_update_self _ (Heap.get?_push_of_some _ ho) rfl)
/-- a further field -/
theorem gx_old (T : OxG X.K C B newId initId bm) (I : Inv X pins σ H s) (e : H a = some (exo a C (some dx))) (ed : H dx = some (exd dx fs)) (hl : fs.length ≤ 900) (hno : PySem.W.findIn X.K (.ref C) f = some none) (ry : RelV y u)
    (h : ∀ s', Inv X pins σ (L2.upd H dx (exd dx ((f, y) :: fs))) s' → Q () s') : wpAny (model X.prog X.w) A (setAttr (.ref a) f u) Q E s := by
  obtain ⟨t1, ho⟩ := exo_at I.hok e
  obtain ⟨mA, hns, rel⟩ := exd_at I.hok ed
  obtain ⟨hp, g, dn, t, os⟩ := s
  obtain ⟨oD, _, _, hoD, _, _⟩ := hns.count (within_of rel)
  have J : PySem.W.InstAt hp a ({ cls := .ref C, dict := some dx, data := .fields #[.ref t1, .none, .none, .none, .bool false, .none] } : Obj) C (some oD) := ⟨ho, rfl, rfl, hoD⟩
  refine PySem.W.set_plain I.kIn J T.sa (PySem.W.osa_openX T.sf I.kIn J T.over (T.taker hno) fun b => ?_)
  refine wpAny_bind (wpAny_pure (wpAny_bind ?_))
  show wpAny _ _ (instanceDict a true) _ _ _
  unfold instanceDict
  refine wpAny_bind (wpAny_loadPart ho ?_)
  obtain ⟨cd, hcd, hmr, hhd⟩ := T.dat
  dsimp only
  refine wpAny_bind ((PySem.W.looks_clsIn I.kIn hcd).at ?_)
  rw [hhd]
  refine wpAny_pure ?_
  refine PySem.OEX.store_in_old hns (within_of rel) (by rw [List.length_map]; omega) fun h' tk' hn hsb => ?_
  have hd : ∃ o, h'.get? dx = some o := by
    obtain ⟨o, _, _, e', _⟩ := hn
    exact ⟨o, e'⟩
  exact h _ (I.write (t' := tk') (x := dx) (e := dx) (o := exd dx ((f, y) :: fs)) (by rw [ed]; exact True.intro) (.inl rfl) (fun b o hb q => (hsb.2 b hb).trans q) hd (exd_ok hn (relO_put ry rel)))
/-- B.__init__(self, ..) -/
theorem gx_init {us : List Value} {Q : Value → Shared → Prop} (T : OxG X.K C B newId initId bm) (I : Inv X pins σ H s) (e : H a = some (exo a C none)) (hl : us.length ≤ sizeLine) (h : ∀ s', Inv X pins σ H s' → Q .none s') : wpAny (model X.prog X.w) A (call (.builtin initId) (.ref a :: us)) Q E s := by
  obtain ⟨nm, q, N, bs, sn, sub, ab, col, dd, k0, k1, k2, k3, k5, hC⟩ := T.cls
  obtain ⟨t1, ho⟩ := exo_at I.hok e
  obtain ⟨hp, g, dn, t, os⟩ := s
  refine wpAny_call (PySem.HandSPX.init_base T.bf (fun _ => rfl) (I.kIn _ _ hC) ho hl fun h' t2 k hx => h _ ?_)
  have J := I.write (t' := t) (x := a) (e := a) (o := exo a C none) (by rw [e]; exact True.intro) (.inl rfl) k ⟨_, hx⟩ (exo_ok hx)
  rwa [show L2.upd H a (exo a C none) = H from funext fun b => by
    by_cases hb : b = a
    · rw [hb, upd_same, e]
    · rw [upd_ne hb]] at J
end
/-! ### the rules -/
/-- B.__init__(self, ..) -/
def tBi (K : PySem.W.Frag) (B newId initId : String) (bm : List Value) (ta : TA) : TE := fun σ H Q => ta σ H fun vs H1 => ∃ (a C : Addr) (ws : List V), vs = .ref a :: ws ∧ ws.length ≤ 1000 ∧ OxG K C B newId initId bm ∧ H1 a = some (exo a C none) ∧ Q .non H1
/-- self.f = e -/
def tGs (K : PySem.W.Frag) (B newId initId : String) (bm : List Value) (f : Str) (to te : TE) : TS := fun D σ H => te σ H fun y H1 => to σ H1 fun x H2 => ∃ a C : Addr, x = .ref a ∧ OxG K C B newId initId bm ∧ PySem.W.findIn K (.ref C) f = some none ∧
  ((H2 a = some (exo a C none) ∧ ∀ dx, H2 dx = none → dx ≠ a → D.nx σ (L2.upd (L2.upd H2 dx (exd dx [(f, y)])) a (exo a C (some dx)))) ∨
    ∃ (dx : Addr) (fs : List (Str × V)), H2 a = some (exo a C (some dx)) ∧ H2 dx = some (exd dx fs) ∧ fs.length ≤ 900 ∧ D.nx σ (L2.upd H2 dx (exd dx ((f, y) :: fs))))
section
variable {X : Cx} {o e : Expr} {es : List Expr} {to te : TE} {ta : TA} {f : Str} {p p' p1 p2 pos : Pos} {B newId initId : String} {bm : List Value} {bn : Str}
theorem pe_bini {pl : Sem Bool} (hg : Gl X bn) (hm : X.mg bn = none) (hbt : bootBuiltins bn = some (.type B)) (hty : typeOf (.type B) = pure (.type "type")) (vV : PySem.W.findCls X.K (.type B) (.type "type") "__init__" = some (.val (.builtin initId))) (ha : PA X (e :: es) ta)
    (hn : bn ≠ "__name__" := by decide) (hdb : (bn == ("__debug__" : Str)) = false := by decide) (hst : Manifest.isStub B = false := by decide +kernel) (hha : PySem.W.handedIn (.builtin initId) = true := by decide +kernel)
    (hc : eval (.Call (.Attribute (.Name bn p1) "__init__" p2) (e :: es) [] pos) X.env = (do
      let v0 ← eval (.Name bn p1) X.env
      standAt p2.atName
      let (f, first) ← holding [v0] (getMethod v0 "__init__" pl)
      callWith pos f first (backTo pos (starEach (e :: es) X.env)) (backToKw pos (keywordEach [] X.env))) := by rfl)
    (he : starEach (e :: es) X.env = (false, eval e X.env) :: starEach es X.env := by rfl) (hpl : (backTo pos (starEach es X.env)).any (·.1) = false := by rfl) :
    PE X (.Call (.Attribute (.Name bn p1) "__init__" p2) (e :: es) [] pos) (tBi X.K B newId initId bm ta) := by
  refine ⟨fun pins s σ H Q I h => ?_⟩
  refine PySem.W.methodCall_KW (ld_blt I hg hm hbt ?_ hn hdb) hc
  obtain ⟨m, fr⟩ := I.fr
  refine PySem.W.method_type fr I.ok.mod.kin hty hst vV hha ?_
  show wpAny _ _ (callWith pos (Value.builtin initId) [] (backTo pos (starEach (e :: es) X.env)) []) _ _ _
  refine PyProof.Rows.callWith_method1 (thn (ha.run pos pins _ σ H _ (I.tok _) h) fun us s1 hh => ?_) he hpl
  obtain ⟨vs, H1, I1, r1, a, C, ws, rfl, hl, T, ea, q⟩ := hh
  cases r1 with
  | @cons _ u0 _ ur ra rr =>
    cases (show u0 = Value.ref a from ra)
    exact gx_init T I1 ea (by rw [← Paired.length rr, sizeLine_eq]; omega) fun s' J => ⟨.non, H1, J, rfl, q⟩
theorem ps_gst (ho : PE X o to) (he : PE X e te) (hs : swapsWith e (some (.Attribute o f p')) pos.line X.env = pure false := by rfl) : PS X (.Assign [.Attribute o f p'] e pos) (tGs X.K B newId initId bm f to te) := by
  refine ⟨fun pins s σ H D I h => ?_⟩
  refine plainObj_wpAny_Assign_Attribute (thn (he.run pins s σ H _ I h) fun v s1 ⟨y, H1, I1, r1, q1⟩ => thn (ho.run pins s1 σ H1 _ I1 q1) fun u s2 hh => ?_) hs
  obtain ⟨x, H2, I2, r2, a, C, rfl, T, hno, q⟩ := hh
  cases (show u = Value.ref a from r2)
  rcases q with ⟨ea, q⟩ | ⟨dx, fs, ea, ed, hl, q⟩
  · exact gx_new T I2 ea hno r1 fun dx s' n ne J => ⟨σ, _, J, q dx n ne⟩
  · exact gx_old T I2 ea ed hl hno r1 fun s' J => ⟨σ, _, J, q⟩
/-- C(e, ..), C's own __init__ keeping sp -/
theorem pmk_g {CX : CXT} {x : Str} {C fI : Addr} {k : Nat} {fd : FuncData} {ps : List Str} {sp : Sp} {ds : List Value} {dvs : List V} (T : OxG X.K C B newId initId bm) (iC : PySem.W.findIn X.K (.ref C) "__init__" = some (some (.ref fI))) (tI : PySem.W.typeIn X.K (.ref fI) = some (.type "function"))
    (F1 : FnOk X.prog X.w X.K X.mg X.base CX k fI fd ps sp) (hr : Room (k + 1) X.A) (hb : Binds X.K fd ps ds) (hd : Vals dvs ds) (hx : Passes CX X (fun _ _ _ => False)) (hg : Gl X x) (hm : X.mg x = some (.ref C)) (ha : PA X (e :: es) ta)
    (hdb : (x == ("__debug__" : Str)) = false := by decide) (he : starEach (e :: es) X.env = (false, eval e X.env) :: starEach es X.env := by rfl) (hpl : (backTo pos (starEach es X.env)).any (·.1) = false := by rfl) : PMk X (.Call (.Name x p) (e :: es) [] pos) (tMkO C sp dvs ta) := by
  intro pins s σ H Q I h
  obtain ⟨nm, q, N, bs, sn, sub, ab, col, dd, k0, k1, k2, k3, k5, hC⟩ := T.cls
  refine wpAny_Call_Name_kw (ld_glob I hg hm ?_ hdb)
  refine PySem.W.callWith_K (h₀ := X.base) I.ok.mod.kin T.kC (thn (ha.run pos pins s σ H _ I h) fun us s1 hh => ?_) he hpl
  obtain ⟨vs, H1, I1, r1, hz, q1⟩ := hh
  refine ⟨I1.kIn, ?_⟩
  show wpAny _ _ (call (.ref C) us) _ _ _
  obtain ⟨hp, g, dr, tk, os⟩ := s1
  have le1 : hp.objs.size ≤ hp.objs.size + 1 := Nat.le_succ _
  have hq := q1 (hp.objs.size + 1) (I1.hok.fresh le1)
  have grow : ∀ b o', hp.get? b = some o' → ((hp.push (PySem.W.kdv_tup us)).push (PySem.HandSPX.excO C hp.objs.size)).get? b = some o' := fun b o' z => Heap.get?_push_of_some _ (Heap.get?_push_of_some _ z)
  have got : ((hp.push (PySem.W.kdv_tup us)).push (PySem.HandSPX.excO C hp.objs.size)).get? (hp.objs.size + 1) = some (PySem.HandSPX.excO C hp.objs.size) := by heap_get
  have I2 := I1.laid (t' := tk) (a := hp.objs.size + 1) (o := exo (hp.objs.size + 1) C none) (h' := (hp.push (PySem.W.kdv_tup us)).push (PySem.HandSPX.excO C hp.objs.size)) grow le1 (exo_ok got)
  have r2 : Vals (V.ref (hp.objs.size + 1) :: (vs ++ dvs)) (Value.ref (hp.objs.size + 1) :: (us ++ ds)) := .cons rfl (r1.append hd)
  have hl : (Value.ref (hp.objs.size + 1) :: us ++ ds).length = ps.length := r2.length.symm.trans (F1.len _ _ _ _ hq)
  have hus : us.length ≤ sizeLine := by rw [← Paired.length r1, sizeLine_eq]; omega
  refine wpAny_call (PySem.HandSPX.call_own T.bf (fun _ => rfl) (I1.kIn _ _ hC) (PySem.W.looks_findIn I1.kIn iC) (fun self => PySem.W.bind_fn I1.kIn self tI) hus (codeAny_mono (F1.run _ X.stack _ _ ⟨Value.ref (hp.objs.size + 1) :: us, []⟩ (Value.ref (hp.objs.size + 1) :: (us ++ ds)) _ _ (fun _ _ _ => False)
    (hr.make C us []) (I2.env0.make C us []) (hb _ (Value.ref (hp.objs.size + 1) :: us) I2.kIn hl) r2 hq) fun r s' hq' => ?_))
  match r, hq' with
  | .error er, hq' => exact hx pins σ _ _ er s' I2 hq'
  | .ok .next, hq' => exact hq'.elim
  | .ok .brk, hq' => exact hq'.elim
  | .ok .cont, hq' => exact hq'.elim
  | .ok (.ret u), hq' =>
    obtain ⟨v, H2, os2, bare2, un2, hok2, rv, rfl, d, fs, ea, ed, hd1, q2⟩ := hq'
    obtain ⟨h2, g2, d2, t2, os'⟩ := s'
    exact ⟨rv, mk_end (raises_own T.exC T.tyC) I1 le1 grow un2 hok2 os2 bare2 ea ed hd1 q2⟩
end
end MM
namespace MM
open PySem PySem.Spec PySem.Calls PyProof.Rows L2
/-! ### str(x) of an instance with its own __str__ -/
def rStrO (C : Addr) (sp : Sp) (E : XK) : List V → Hp → VK → Prop := fun xs H Q => ∃ (a dx : Addr) (fs : List (Str × V)), xs = [.ref a] ∧ H a = some (.ins C dx fs) ∧ sp [.ref a] H (fun v H' => ∃ x : Str, v = .str x ∧ Q (.str x) H') E
section
variable {X : Cx} {CX : CXT} {k : Nat} {C f : Addr} {fd : FuncData} {ps : List Str} {sp : Sp} {E : XK}
theorem call_strO (F : FnOk X.prog X.w X.K X.mg X.base CX k f fd ps sp) (hs : PySem.W.findIn X.K (.ref C) "__str__" = some (some (.ref f))) (hf : PySem.W.isFn X.K (.ref f) = true) (hb : Binds X.K fd ps []) (hx : Passes CX X E) (hr : Room (k + 2) X.A) : CallR X (.type "str") (rStrO C sp E) := by
  intro pins s σ H xs us Q I r h
  obtain ⟨a, dx, fs, rfl, ha, hq⟩ := h
  obtain ⟨u, rfl, r1⟩ := vals1 r
  cases (show u = Value.ref a from r1)
  obtain ⟨mA, J, _⟩ := ins_get I.hok ha
  obtain ⟨od, J, _⟩ := J.look
  have hr1 : Room (k + 1) X.A.in1 := hr.in1
  have hr2 : Room k X.A.in1.in1 := hr1.in1
  have hl : ([Value.ref a] ++ []).length = ps.length := (show ([V.ref a] : List V).length = _ from F.len _ _ _ _ hq)
  refine PySem.W.kso_call hr2.units0 I.kIn J hs hf (wpAny_call (codeAny_mono (F.run X.A.in1.in1 X.stack s H ⟨[.ref a], []⟩ [.ref a] [.ref a] _ E hr2 I.env0.in1.in1 (hb s [.ref a] I.kIn hl) (.cons rfl .nil) hq) fun res s' hres => ?_))
  match res, hres with
  | .error er, hres => exact hx pins σ H s er s' I hres
  | .ok .next, hres => exact hres.elim
  | .ok .brk, hres => exact hres.elim
  | .ok .cont, hres => exact hres.elim
  | .ok (.ret u), hres =>
    obtain ⟨z, H', I', rz, x, rfl, q⟩ := I.after hres
    obtain ⟨t, rfl⟩ := rz
    exact ⟨.str x, H', I', ⟨t, rfl⟩, q⟩
/-- x == y by x's own __eq__, whatever y is -/
def rEqO (K : PySem.W.Frag) (C : Addr) (sp : Sp) (E : XK) : R2 := fun x y H Q => ∃ (a dx : Addr) (fs : List (Str × V)) (t : Value), x = .ref a ∧ H a = some (.ins C dx fs) ∧ TyX K H y t ∧ PySem.W.notFirst K C t = true ∧ sp [.ref a, y] H (fun v H' => ∃ b : Bool, v = .bl b ∧ Q (.bl b) H') E
theorem op_eqO (F : FnOk X.prog X.w X.K X.mg X.base CX k f fd ps sp) (hs : PySem.W.findIn X.K (.ref C) "__eq__" = some (some (.ref f))) (hf : PySem.W.isFn X.K (.ref f) = true) (hb : Binds X.K fd ps []) (hx : Passes CX X E) (hr : Room k X.A) : OpR X (compareOp .Eq) (rEqO X.K C sp E) := by
  intro pins s σ H x y v u Q I rx ry h
  obtain ⟨a, dx, fs, t, rfl, ha, ty, nf, hq⟩ := h
  cases (show v = Value.ref a from rx)
  obtain ⟨mA, J, _⟩ := ins_get I.hok ha
  obtain ⟨od, J, _⟩ := J.look
  obtain ⟨P, kx, hP, _⟩ := kit_of I ry ty
  obtain ⟨m, fr⟩ := I.fr
  have hl : ([Value.ref a, u] ++ []).length = ps.length := (show ([V.ref a, y] : List V).length = _ from F.len _ _ _ _ hq)
  show wpAny (model X.prog X.w) X.A (richCompare .Eq (.ref a) u) _ _ s
  refine PySem.W.cmp_K (op := .Eq) hr.units0 fr I.ok.mod.kin J (kx.ty _ _ I.kIn hP) nf hs hf (wpAny_call (codeAny_mono (F.run X.A X.stack s H ⟨[.ref a, u], []⟩ [.ref a, u] [.ref a, y] _ E hr I.env0 (hb s [.ref a, u] I.kIn hl) (.cons rfl (.cons ry .nil)) hq) fun res s' hres => ?_))
  match res, hres with
  | .error er, hres => exact hx pins σ H s er s' I hres
  | .ok .next, hres => exact hres.elim
  | .ok .brk, hres => exact hres.elim
  | .ok .cont, hres => exact hres.elim
  | .ok (.ret z0), hres =>
    obtain ⟨z, H', I', rz, b, rfl, q⟩ := I.after hres
    cases (show z0 = Value.bool b from rz)
    exact ⟨.bl b, H', I', rfl, q⟩
end
end MM
namespace MM
open PySem PySem.Spec PyProof.Rows L2
/-! ### sep.join(reversed(xs)) -/
theorem strs_of : ∀ {zs : List Str} {l : List Value}, Vals (zs.map V.str) l → StrsAre l zs
  | [], _, h => by
    cases h
    exact .nil
  | z :: zs, _, h => by
    cases h with
    | cons a r =>
      obtain ⟨t, rfl⟩ := a
      exact .cons z t (strs_of r)
section
variable {prog : Program} {w : World} {A : Around} {E : Value → Shared → Prop} {s : Shared}
theorem join_rev {x : Str} {t : Tok} {ys : List Str} {it l : Addr} {items : Array Value} {Q : Value → Shared → Prop} (hh : A.handled = none) (hit : s.heap.IsRevIter it l ((items.size : Int) - 1)) (hl : s.heap.IsList l items) (hne : l ≠ it) (hn : items.size ≤ sizeLine)
    (hP : ∀ acc : Array Value, ItemsOf (fun i v => items[items.size - 1 - i]? = some v) acc items.size → StrsAre acc.toList ys) (hok : (ys.map (·.length)).sum + ys.length * x.length ≤ 16777216)
    (hq : ∀ (h' : Heap) (t' : Tok) (k : Nat), (∀ b o, b ≠ it → s.heap.get? b = some o → h'.get? b = some o) → Q (.str (Txt.join x ys) t') { s with heap := h', toks := k }) :
    wpAny (model prog w) A (call (.builtin "str.join") [.str x t, .ref it]) Q E s := by
  refine wpAny_call (codeAny_call_builtin F.slot_str_join.plain F.entry_str_join (F.slot_str_join.check _ _ _ _ _ _ _ _ (typeIs_str _ _ _) (F.args_str_join_2 _ _) ?_))
  rw [join_tree_other]
  refine wpAny_bind (wpAny_typeOf (Heap.IsRevIter.typeIs hit) ?_)
  show wpAny _ A.in1 ((pyIter (.ref it)).tryCatch _ >>= fun i0 => collect i0 >>= fun c0 => joinTail x c0) _ _ s
  refine wpAny_bind (wpAny_tryCatch (wpAny_pyIter_revIter hit ?_))
  refine wpAny_bind (RT.collect_rev (A := A.in1) hh hit hl hne hn fun h' tk acc hk hacc => ?_)
  obtain ⟨l0, h0, e0⟩ := strsAre_values (hP acc hacc)
  subst e0
  rw [h0]
  have fit := joinOk_of hok
  unfold JoinOk at fit
  rw [Bool.not_eq_true'] at fit
  have g : Gives (joinTail x (strValues l0)) (joinMade x l0) := by
    have g0 := gives_joinTail x l0 fit
    rcases l0 with _ | ⟨p, _ | ⟨q, r⟩⟩ <;> exact g0
  exact g prog w A (wants Q E) _ (post_join l0 ⟨joinFit_length fit, fun t' k => hq h' t' k hk⟩)
end
section
variable {X : Cx}
def tJoinRev (K : PySem.W.Frag) (to te : TE) : TE := fun σ H Q => to σ H fun x H1 => (∃ a, x = .str a) ∧ te σ H1 fun v H2 => ∃ (a : Str) (q : Addr) (ys : List Str), x = .str a ∧ v = .ref q ∧ SqL K H2 q (ys.map V.str) ∧ (ys.reverse.map (·.length)).sum + ys.reverse.length * a.length ≤ 16777216 ∧ Q (.str (Txt.join a ys.reverse)) H2
theorem pe_joinRev {o e : Expr} {to te : TE} {apos pos p pos2 : Pos} (hc : X.calm = true) (ho : PE X o to) (hg : Gl X "reversed") (hm : X.mg "reversed" = none) (he : PE X e te)
    (hs1 : starEach [.Call (.Name "reversed" p) [e] [] pos2] X.env = [(false, eval (.Call (.Name "reversed" p) [e] [] pos2) X.env)] := by rfl) (hs : starEach [e] X.env = (false, eval e X.env) :: starEach [] X.env := by rfl)
    (hbase : attributeBase o "join" X.env (eval o X.env) = eval o X.env := by rfl) (hline : (apos.endLine == pos.line) = true := by rfl) :
    PE X (.Call (.Attribute o "join" apos) [.Call (.Name "reversed" p) [e] [] pos2] [] pos) (tJoinRev X.K to te) := by
  refine ⟨fun pins s σ H Q I h => ?_⟩
  refine PySem.Call_method1 hbase hs1 hline (thn (ho.run pins s σ H _ I h) fun v s1 hh => ?_)
  obtain ⟨x, H1, I1, r1, ⟨a, rfl⟩, q1⟩ := hh
  obtain ⟨t, rfl⟩ := _root_.id r1
  refine ⟨"str", _, F.plainAttrs_str, F.slot_str_join, F.type_str_join, typeIs_str _ _ _, (fun _ e => nomatch e), Calls.callWith_builtin rfl (Calls.evalArgs_plain (Calls.spliced_cons ?_))⟩
  refine Call_ (ld_blt I1 hg hm PyProof.Rows.boot_reversed (PyProof.Rows.callWith_type1 (args_cons (thn (he.run pins s1 σ H1 _ I1 q1) fun u s2 hh => args_nil ?_) hs) hs rfl))
  obtain ⟨v, H2, I2, r2, a', q, ys, ea, rfl, hq, hz, q2⟩ := hh
  cases ea
  cases (show u = Value.ref q from r2)
  obtain ⟨its, rv, p', hsz⟩ := I2.list hq
  refine call_reversed_list p'.isList ?_
  have grow : ∀ b o, s2.heap.get? b = some o → (s2.heap.push (revObj q ((its.toArray.size : Int) - 1))).get? b = some o := fun b o z => Heap.get?_push_of_some _ z
  have I3 : Inv X pins σ H2 { s2 with heap := s2.heap.push (revObj q ((its.toArray.size : Int) - 1)) } := I2.kept (t' := s2.toks) grow
  obtain ⟨f0, f1, f2, f3, f4, f5⟩ := I2.fpOk (H' := H2) (b := s2.heap.objs.size) (Nat.le_refl _) (I2.hok.fresh (Nat.le_refl _))
  have hl := p'.isList
  obtain ⟨ol, hol, _⟩ := _root_.id hl
  have hne : q ≠ s2.heap.objs.size := Nat.ne_of_lt (Heap.lt_size hol)
  have hn : its.toArray.size ≤ sizeLine := by rw [List.size_toArray, ← rv.length]; exact hsz
  refine Calls.spliced_nil ?_
  refine join_rev (s := { s2 with heap := s2.heap.push (revObj q ((its.toArray.size : Int) - 1)) }) (ys := ys.reverse) (I2.ok.hd hc) ⟨_, Heap.get?_push_size _ rfl, rfl, rfl⟩ (hl.push _) hne hn (fun acc hacc => strs_of ?_) hz fun h' t' k hk => ?_
  · rw [List.map_reverse]
    exact RT.vals_rev rv hacc
  · exact ⟨.str _, H2, I3.turned (t' := k) (fun b o hb z => hk b o hb z) f0 f1 f3 f4 f5, ⟨t', rfl⟩, q2⟩
end
end MM
namespace MM
open PySem PySem.Spec PySem.Calls PyProof.Rows L2
section
variable {X : Cx} {CX : CXT} {k j : Nat} {C : Addr} {qual : Str} {st : Stmt} {ps : List Str} {sp : Sp} {E : XK}
/-- x == y by the __eq__ of x's class -/
theorem op_eqC (c : Cm X.prog X.w X.K X.mg X.base CX k C "__eq__" qual st ps sp) (b : Bd "__eq__" qual st ps) (hx : Passes CX X E) (hr : Room j X.A) (hk : k ≤ j) : OpR X (compareOp .Eq) (rEqO X.K C sp E) := by
  obtain ⟨f, fd, F, M, hc, G⟩ := c.ex
  exact op_eqO G M.1 M.2 (F.bindsN b) hx (hr.mono hk)
theorem nf_self {K : PySem.W.Frag} {C : Addr} : PySem.W.notFirst K C (.ref C) = true := by
  unfold PySem.W.notFirst
  simp
end
end MM
namespace MM
open PySem PySem.Spec PyProof.Rows L2
theorem no' {A B : Prop} {b : Bool} (hb : b = false) (h : B) : if b = true then A else B := by
  subst hb
  exact iteF h
theorem upd_keep {H H1 : Hp} {D : Addr} {o : HO} (nD : H D = none) (s : Same H H1) : Same H (L2.upd H1 D o) := fun b u e => by
  rw [upd_ne (ne_of_none e nD)]
  exact s b u e
section
variable {J : It} {n : Nat} {G : Hp → Prop} {Y : Nat → Hp → V → Hp → Prop}
/-- a comprehension without a test whose i-th thing has Ps i -/
theorem lc_all (w : Walk J n G Y) (hY : ∀ i H x H', Y i H x H' → Same H H') {g : TG} {te : TE} {vs : List Nat} {σ : L2.St} {H : Hp} {D : Addr} {Qd : Hp → Prop} (nD : H D = none) (hn : n < sizeLine) (Ps : Nat → V → Hp → Prop)
    (hm : ∀ j v H1 H2, Same H1 H2 → Ps j v H1 → Ps j v H2) (hp : ∀ j v H1 acc acc', H1 D = some (.lst acc) → Ps j v H1 → Ps j v (L2.upd H1 D (.lst acc'))) (hG : ∀ H', Same H H' → G H')
    (hs : ∀ i x H1 H2 (R : V → Hp → Prop), i < n → Same H H1 → Y i H1 x H2 → (∀ v H3, Same H2 H3 → Ps i v H3 → R v H3) → g x (wipe σ vs) H2 fun σ2 H3 => wipe σ2 vs = wipe σ vs ∧ te σ2 H3 R)
    (hd : ∀ (us : List V) H', us.length = n → H' D = some (.lst us) → Same H H' → (∀ j v, us[j]? = some v → Ps j v H') → Qd H') :
    ∃ W : Nat → Nat → Hp → Prop, (∃ m, W 0 m (L2.upd H D (.lst []))) ∧ ∀ i m H, W i m H →
      (J.stop i H ∧ Qd H) ∨ (J.go i H ∧ ∃ Nx : Hp → Prop, (∀ H', Nx H' → ∃ m', m' < m ∧ W (i + 1) m' H') ∧ ∀ x H', J.yld i H x H' → g x (wipe σ vs) H' fun σ2 H2 => wipe σ2 vs = wipe σ vs ∧ tYes σ2 H2 fun b H3 =>
        if b = true then te σ2 H3 fun y H4 => ∃ acc, H4 D = some (.lst acc) ∧ acc.length < sizeLine ∧ Nx (L2.upd H4 D (.lst (acc ++ [y]))) else Nx H3) := by
  refine lc_it w (fun i H' => ∃ us : List V, us.length = i ∧ H' D = some (.lst us) ∧ Same H H' ∧ ∀ j v, us[j]? = some v → Ps j v H') ⟨[], rfl, upd_same, upd_keep nD (Same.refl H), fun j v h => by simp at h⟩ (fun i H' _ ⟨_, _, _, s, _⟩ => hG H' s) ?_ (fun H' ⟨us, l, e, s, p⟩ => hd us H' l e s p)
  rintro i x H1 H2 hi ⟨us, hl, e, s, p⟩ y
  refine hs i x H1 H2 _ hi s y fun v H3 s3 pv => ?_
  have s2 := hY _ _ _ _ y
  have e3 := s3 _ _ (s2 _ _ e)
  refine ⟨us, e3, by omega, us ++ [v], by rw [List.length_append, hl]; rfl, upd_same, upd_keep nD (s.trans (s2.trans s3)), fun j u hj => ?_⟩
  by_cases hjl : j < us.length
  · rw [List.getElem?_append_left hjl] at hj
    exact hp _ _ _ _ _ e3 (hm _ _ _ _ (s2.trans s3) (p j u hj))
  · rw [List.getElem?_append_right (by omega)] at hj
    have ej : j = us.length := by
      by_cases hz : j - us.length = 0
      · omega
      · have : ([v] : List V)[j - us.length]? = none := List.getElem?_eq_none_iff.mpr (by simp; omega)
        rw [this] at hj
        cases hj
    subst ej
    rw [Nat.sub_self] at hj
    cases hj
    rw [hl]
    exact hp _ _ _ _ _ e3 pv
/-- a comprehension whose i-th thing is the whole number f i -/
theorem lc_ints (w : Walk J n G Y) (hY : ∀ i H x H', Y i H x H' → Same H H') {g : TG} {te : TE} {vs : List Nat} {σ : L2.St} {H : Hp} {D : Addr} {Qd : Hp → Prop} (nD : H D = none) (hn : n < sizeLine) (f : Nat → Int) (hG : ∀ H', Same H H' → G H')
    (hs : ∀ i x H1 H2 (R : V → Hp → Prop), i < n → Same H H1 → Y i H1 x H2 → (∀ H3, Same H2 H3 → R (.int (f i)) H3) → g x (wipe σ vs) H2 fun σ2 H3 => wipe σ2 vs = wipe σ vs ∧ te σ2 H3 R)
    (hd : ∀ H', H' D = some (.lst (((List.range n).map f).map V.int)) → Same H H' → Qd H') :
    ∃ W : Nat → Nat → Hp → Prop, (∃ m, W 0 m (L2.upd H D (.lst []))) ∧ ∀ i m H, W i m H →
      (J.stop i H ∧ Qd H) ∨ (J.go i H ∧ ∃ Nx : Hp → Prop, (∀ H', Nx H' → ∃ m', m' < m ∧ W (i + 1) m' H') ∧ ∀ x H', J.yld i H x H' → g x (wipe σ vs) H' fun σ2 H2 => wipe σ2 vs = wipe σ vs ∧ tYes σ2 H2 fun b H3 =>
        if b = true then te σ2 H3 fun y H4 => ∃ acc, H4 D = some (.lst acc) ∧ acc.length < sizeLine ∧ Nx (L2.upd H4 D (.lst (acc ++ [y]))) else Nx H3) := by
  refine lc_all w hY nD hn (fun i v _ => v = .int (f i)) (fun _ _ _ _ _ h => h) (fun _ _ _ _ _ _ h => h) hG (fun i x H1 H2 R hi s y k => hs i x H1 H2 R hi s y fun H3 s3 => k _ H3 s3 rfl) fun us H' l e s p => ?_
  have eu : us = ((List.range n).map f).map V.int := by
    refine List.ext_getElem? fun j => ?_
    by_cases hj : j < us.length
    · have h1 := List.getElem?_eq_getElem hj
      rw [h1, p j _ h1]
      rw [List.getElem?_map, List.getElem?_map, List.getElem?_range (by omega)]
      rfl
    · rw [List.getElem?_eq_none_iff.mpr (by omega), List.getElem?_eq_none_iff.mpr (by simp; omega)]
  subst eu
  exact hd H' e s
end
theorem yFn_same {f : Nat → V} : ∀ i H x H', YFn f i H x H' → Same H H' := fun _ _ _ _ h => by rw [h.1]; exact Same.refl _
theorem yAt_same {xs : List V} : ∀ i H x H', YAt xs i H x H' → Same H H' := fun _ _ _ _ h => by rw [h.1]; exact Same.refl _
theorem yPair_same {xs ys : Nat → Option V} : ∀ i H x H', YPair xs ys i H x H' → Same H H' := by
  rintro i H x H' ⟨T, a, b, rfl, nT, rfl, _⟩
  exact upd_keep nT (Same.refl H)
/-! ### lists of whole numbers, compared -/
theorem dps_ints {K : PySem.W.Frag} {H : Hp} : ∀ ns : List Int, DpAll K H (ns.map V.int) (ns.map PyData.int)
  | [] => .nil
  | n :: ns => .cons (.int n) (dps_ints ns)
theorem dp_ints {K : PySem.W.Frag} {H : Hp} {a : Addr} {ns : List Int} (h : H a = some (.lst (ns.map V.int))) : Dp K H (.ref a) (.list (ns.map PyData.int)) := .lst (SqL.of h) (dps_ints ns)
theorem lay_ints : ∀ ns : List Int, PyData.canLayAll0 (ns.map PyData.int) = true
  | [] => rfl
  | n :: ns => by
    rw [List.map_cons, PyData.canLayAll0, lay_ints ns]
    rfl
theorem dep_ints : ∀ ns : List Int, PyData.depthAll (ns.map PyData.int) ≤ 1
  | [] => by simp [PyData.depthAll]
  | n :: ns => by
    have h := dep_ints ns
    simp only [List.map_cons, PyData.depthAll, PyData.depth]
    omega
theorem sh_ints (ns : List Int) : SeqAt.shaped (.list (ns.map PyData.int)) = true := by
  have h := dep_ints ns
  show (PyData.canLay0 (.list (ns.map PyData.int)) && decide (PyData.depth (.list (ns.map PyData.int)) ≤ 64)) = true
  rw [Bool.and_eq_true]
  refine ⟨by simp only [PyData.canLay0]; exact lay_ints ns, decide_eq_true ?_⟩
  simp only [PyData.depth]
  omega
theorem eqv_intL (ns : List Int) : PyData.eqv (.list (ns.map PyData.int)) (.list (ns.map PyData.int)) = true := SeqAt.eqv_refl _ (by simp only [PyData.canLay0]; exact lay_ints ns)
/-! ### steps from each to the next -/
def stp (f : Nat → Int) (n : Nat) : List Int := (List.range n).map fun i => f (i + 1) - f i
theorem stp_sum (f : Nat → Int) : ∀ n, (stp f n).sum = f n - f 0
  | 0 => by simp [stp]
  | n + 1 => by
    have h := stp_sum f n
    unfold stp at *
    rw [List.range_succ, List.map_append, List.sum_append, h]
    simp
    omega
end MM
namespace MM
open PySem PySem.Spec PySem.Calls PyProof.Rows L2
/-! ### x != y where the class has an own __eq__ and no __ne__ -/
section
variable {prog : Program} {w : World} {A : Around} {E : Value → Shared → Prop} {s : Shared} {K : PySem.W.Frag} {x C L f : Addr} {h₀ : Heap} {m : Str → Option Value} {ox : Obj} {od : Option Obj} {name : Str} {b tb : Value}
theorem ifBound_B {M : Model} {id : String} {args : List Value} {Q : Option Value → Shared → Prop} (X : K.In s.heap) (I : PySem.W.InstAt s.heap x ox C od) (hs : PySem.W.findIn K (.ref C) name = some (some (.builtin id))) (S : Slot "object" name id)
    (h : wpAny M A (call (.builtin id) (.ref x :: args)) (fun v => Q (some v)) E s) : wpAny M A (callSpecialIfBound? (.ref x) name args) Q E s := by
  simp only [callSpecialIfBound?, bindSpecialIfBound?]
  refine wpAny_holding (wpAny_bind (wpAny_bind (wpAny_bind (I.type.here ((PySem.W.looks_findIn X hs).here ?_)))))
  simp only [S.bind]
  refine wpAny_bind (wpAny_askSetting (wpAny_ite ?_))
  have fin : wpAny M A (call (.builtin id) ([.ref x] ++ args) >>= fun v => pure (some v)) Q E s := wpAny_bind (wpAny_mono h (fun v s' h' => wpAny_pure h') fun _ _ h' => h')
  split
  · exact wpAny_bind (wpAny_pure (wpAny_pure fin))
  · exact wpAny_tryCatch (wpAny_bind (wpAny_pure (wpAny_pure fin)))
theorem objNe_own {Q : Fin → Shared → Prop} (X : K.In s.heap) (I : PySem.W.InstAt s.heap x ox C od) (hs : PySem.W.findIn K (.ref C) "__eq__" = some (some (.ref f))) (hf : PySem.W.isFn K (.ref f) = true) (hu : A.units < cLine)
    (hcall : wpAny (model prog w) A (call (.ref f) [.ref x, b]) (fun v s' => ∃ r, v = .bool r ∧ Q (.done (.ret (.bool (!r)))) s') E s) :
    wpAny (model prog w) A (Builtin.«object.__ne__» ⟨[.ref x, b], []⟩) Q E s := by
  obtain ⟨h, g, d, t, os⟩ := s
  unfold Builtin.«object.__ne__»
  repeat (first
    | with_reducible refine wpAny_cRoomFor hu ?_
    | (refine wpAny_bind (m := callSpecialIfBound? (.ref x) (Str.ofString "__eq__") [b])
        (PySem.W.ifBound_K X I hs hf (wpAny_mono hcall (fun r s' hr => by
          obtain ⟨b, rfl, hq⟩ := hr
          repeat (first | exact hq | exact wpAny_pure hq | exact wpAny_truthy_bool hq | (refine wpAny_bind (m := truthy (.bool _)) (wpAny_truthy_bool ?_)) | wp_step)) fun _ _ e => e)))
    | wp_step)
/-- what the written part says of such a class -/
structure NeT (K : PySem.W.Frag) (C : Addr) : Prop where
  ne : PySem.W.findIn K (.ref C) "__ne__" = some (some (.builtin "object.__ne__"))
  cls : ∃ nm q N bs hd sn sub ab col dd k0 k1 k2 k3 k5 nw, K.lookup C = some (excClassObj nm q C N bs [.type "object"] hd sn sub ab col dd k0 k1 k2 k3 k5 nw)
theorem ne_K {Q : Value → Shared → Prop} (T : NeT K C) (hu : A.units + 1 < cLine) (F : Fr h₀ L s.heap m) (X₀ : K.In h₀) (I : PySem.W.InstAt s.heap x ox C od) (hb : PySem.W.Looks (model prog w) s.heap (typeOf b) tb) (hn : PySem.W.notFirst K C tb = true)
    (hs : PySem.W.findIn K (.ref C) "__eq__" = some (some (.ref f))) (hf : PySem.W.isFn K (.ref f) = true)
    (h : wpAny (model prog w) A.in1 (call (.ref f) [.ref x, b]) (fun v s' => ∃ r, v = .bool r ∧ Q (.bool (!r)) s') E s) : wpAny (model prog w) A (richCompare .NotEq (.ref x) b) Q E s := by
  have X := X₀.keeps F.keep
  obtain ⟨nm, q, N, bs, hd, sn, sub, ab, col, dd, k0, k1, k2, k3, k5, nw, hC⟩ := T.cls
  have one : wpAny (model prog w) A (tryCompare (.ref x) "__ne__" b) (fun r s' => ∃ v, r = some v ∧ Q v s') E s := by
    unfold tryCompare
    obtain ⟨hp, g, d, t, os⟩ := s
    refine wpAny_bind (ifBound_B X I T.ne PySem.F.cmp_object.ne (wpAny_call (codeAny_call_builtin PySem.F.cmp_object.ne.plain PySem.F.cmpEntry_ne (wpAny_check_slot_inst PySem.F.cmpKind_ne PySem.F.cmpSplit_ne (PySem.F.cmpArgs_ne _ _) PySem.F.cmp_object.hasObject I.at_ I.cls (X _ _ hC) (objNe_own (A := A.in1) X I hs hf hu (wpAny_mono h (fun v s' hv => ?_) fun _ _ e => e))))))
    obtain ⟨r, rfl, hq⟩ := hv
    first | exact ⟨r, rfl, wpAny_pure ⟨_, rfl, hq⟩⟩ | exact ⟨r, rfl, wpAny_pure (wpAny_pure ⟨_, rfl, hq⟩)⟩ | exact ⟨r, rfl, ⟨_, rfl, hq⟩⟩
  unfold richCompare
  simp only [oneThing_ref]
  refine wpAny_holding (wpAny_bind (wpAny_cRoomFor (Nat.lt_of_succ_lt hu) ?_))
  refine wpAny_bind (I.type.here (wpAny_bind (hb.here ?_)))
  split
  · rename_i q
    have e : PySem.W.subIn K tb (.ref C) = some false := by
      rcases Bool.or_eq_true_iff.mp hn with e | e
      · rw [beq_iff_eq.mp e] at q
        simp at q
      · exact beq_iff_eq.mp e
    refine wpAny_bind ((PySem.W.looks_subIn X e).here ?_)
    simp only [Bool.false_eq_true, if_false]
    refine wpAny_bind (wpAny_mono one (fun r s' z => ?_) fun _ _ e => e)
    obtain ⟨v, rfl, hq⟩ := z
    exact wpAny_pure hq
  · refine wpAny_bind (wpAny_pure ?_)
    simp only [Bool.false_eq_true, if_false]
    refine wpAny_bind (wpAny_mono one (fun r s' z => ?_) fun _ _ e => e)
    obtain ⟨v, rfl, hq⟩ := z
    exact wpAny_pure hq
end
section
variable {X : Cx} {CX : CXT} {k j : Nat} {C f : Addr} {fd : FuncData} {qual : Str} {st : Stmt} {ps : List Str} {sp : Sp} {E : XK}
def rNeO (K : PySem.W.Frag) (C : Addr) (sp : Sp) (E : XK) : R2 := fun x y H Q => ∃ (a dx : Addr) (fs : List (Str × V)) (t : Value), x = .ref a ∧ H a = some (.ins C dx fs) ∧ TyX K H y t ∧ PySem.W.notFirst K C t = true ∧ sp [.ref a, y] H (fun v H' => ∃ b : Bool, v = .bl b ∧ Q (.bl (!b)) H') E
theorem op_neO (T : NeT X.K C) (F : FnOk X.prog X.w X.K X.mg X.base CX k f fd ps sp) (hs : PySem.W.findIn X.K (.ref C) "__eq__" = some (some (.ref f))) (hf : PySem.W.isFn X.K (.ref f) = true) (hb : Binds X.K fd ps []) (hx : Passes CX X E) (hr : Room (k + 1) X.A) : OpR X (compareOp .NotEq) (rNeO X.K C sp E) := by
  intro pins s σ H x y v u Q I rx ry h
  obtain ⟨a, dx, fs, t, rfl, ha, ty, nf, hq⟩ := h
  cases (show v = Value.ref a from rx)
  obtain ⟨mA, J, _⟩ := ins_get I.hok ha
  obtain ⟨od, J, _⟩ := J.look
  obtain ⟨P, kx, hP, _⟩ := kit_of I ry ty
  obtain ⟨m, fr⟩ := I.fr
  have hl : ([Value.ref a, u] ++ []).length = ps.length := (show ([V.ref a, y] : List V).length = _ from F.len _ _ _ _ hq)
  have hr1 : Room k X.A.in1 := hr.in1
  have hun : X.A.units + 1 < cLine := by
    have := hr.un
    omega
  show wpAny (model X.prog X.w) X.A (richCompare .NotEq (.ref a) u) _ _ s
  refine ne_K T hun fr I.ok.mod.kin J (kx.ty _ _ I.kIn hP) nf hs hf (wpAny_call (codeAny_mono (F.run X.A.in1 X.stack s H ⟨[.ref a, u], []⟩ [.ref a, u] [.ref a, y] _ E hr1 I.env0.in1 (hb s [.ref a, u] I.kIn hl) (.cons rfl (.cons ry .nil)) hq) fun res s' hres => ?_))
  match res, hres with
  | .error er, hres => exact hx pins σ H s er s' I hres
  | .ok .next, hres => exact hres.elim
  | .ok .brk, hres => exact hres.elim
  | .ok .cont, hres => exact hres.elim
  | .ok (.ret z0), hres =>
    obtain ⟨z, H', I', rz, b, rfl, q⟩ := I.after hres
    cases (show z0 = Value.bool b from rz)
    exact ⟨b, rfl, .bl (!b), H', I', rfl, q⟩
theorem op_neC (T : NeT X.K C) (c : Cm X.prog X.w X.K X.mg X.base CX k C "__eq__" qual st ps sp) (b : Bd "__eq__" qual st ps) (hx : Passes CX X E) (hr : Room j X.A) (hk : k + 1 ≤ j) : OpR X (compareOp .NotEq) (rNeO X.K C sp E) := by
  obtain ⟨f, fd, F, M, hc, G⟩ := c.ex
  exact op_neO T G M.at_ M.fn (F.bindsN b) hx (hr.mono hk)
end
end MM
namespace MM
open PySem PySem.Spec PyProof.Rows L2
theorem hu65 {k : Nat} {A : Around} (r : Room k A) : A.units + 65 < cLine := by
  have := r.un
  omega
section
variable {X : Cx}
/-- sum(t) of a tuple of whole numbers -/
def rSumT (K : PySem.W.Frag) : List V → Hp → VK → Prop := fun vs H Q => ∃ (a : Addr) (ns : List Int), vs = [V.ref a] ∧ SqT K H a (ns.map V.int) ∧ Q (.int ns.sum) H
theorem cr_sumT (hc : X.calm = true) : CallR X (.builtin "sum") (rSumT X.K) := by
  intro pins s σ H vs us Q I r h
  obtain ⟨a, ns, rfl, hs, q⟩ := h
  obtain ⟨its, rv, hl, _⟩ := I.tuple hs
  rw [Vals.ref1 r]
  have hi := rv.ints
  obtain ⟨xs, hx⟩ := hi.allInts.items
  have hn : numsOf its.toArray.toList = ns := by rw [show its.toArray.toList = its from rfl, hi.numsOf]
  have hl : s.heap.IsTuple a its.toArray := hl
  rw [hx] at hl hn
  rw [nums_intItems] at hn
  refine PySem.W.ktm_sumG (I.ok.hd hc) hl fun h' tk t' hk => ⟨.int _, H, I.kept hk, ⟨_, rfl⟩, ?_⟩
  rw [preSum_eq, List.take_of_length_le (by simp), hn]
  exact q
end
/-! ### data of rows of whole numbers -/
def tupD (ns : List Int) : PyData := .tuple (ns.map PyData.int)
theorem dp_tup {K : PySem.W.Frag} {H : Hp} {a : Addr} {ns : List Int} (h : H a = some (.tup (ns.map V.int))) : Dp K H (.ref a) (tupD ns) := .tup (SqT.of h) (dps_ints ns)
theorem lay_tups : ∀ zs : List (List Int), PyData.canLayAll0 (zs.map tupD) = true
  | [] => rfl
  | z :: zs => by
    rw [List.map_cons, PyData.canLayAll0, lay_tups zs, tupD, PyData.canLay0, lay_ints]
    rfl
theorem dep_tups : ∀ zs : List (List Int), PyData.depthAll (zs.map tupD) ≤ 3
  | [] => by simp [PyData.depthAll]
  | z :: zs => by
    have h := dep_tups zs
    have h2 := dep_ints z
    simp only [List.map_cons, PyData.depthAll, tupD, PyData.depth]

    omega
theorem sh_tups (zs : List (List Int)) : SeqAt.shaped (.list (zs.map tupD)) = true := by
  have h := dep_tups zs
  show (PyData.canLay0 (.list (zs.map tupD)) && decide (PyData.depth (.list (zs.map tupD)) ≤ 64)) = true
  rw [Bool.and_eq_true]
  refine ⟨by simp only [PyData.canLay0]; exact lay_tups zs, decide_eq_true ?_⟩
  simp only [PyData.depth]
  omega
theorem sh_tup (ns : List Int) : SeqAt.shaped (tupD ns) = true := by
  have h := dep_ints ns
  show (PyData.canLay0 (tupD ns) && decide (PyData.depth (tupD ns) ≤ 64)) = true
  rw [Bool.and_eq_true]
  refine ⟨by simp only [tupD, PyData.canLay0]; exact lay_ints ns, decide_eq_true ?_⟩
  simp only [tupD, PyData.depth]
  omega
theorem eqv_tup (ns : List Int) : PyData.eqv (tupD ns) (tupD ns) = true := SeqAt.eqv_refl _ (by simp only [tupD, PyData.canLay0]; exact lay_ints ns)
/-- a list whose things are the rows zs -/
def Rows (H : Hp) (us : List V) (zs : List (List Int)) : Prop := us.length = zs.length ∧ ∀ (j : Nat) (u : V), us[j]? = some u → ∃ (q : Addr) (z : List Int), u = .ref q ∧ zs[j]? = some z ∧ H q = some (.tup (z.map V.int))
theorem Rows.same {H H1 : Hp} {us : List V} {zs : List (List Int)} (h : Rows H us zs) (s : Same H H1) : Rows H1 us zs := ⟨h.1, fun j u hu => by
  obtain ⟨q, z, e1, e2, e3⟩ := h.2 j u hu
  exact ⟨q, z, e1, e2, s _ _ e3⟩⟩
theorem Rows.dps {K : PySem.W.Frag} {H : Hp} : ∀ {us : List V} {zs : List (List Int)}, Rows H us zs → DpAll K H us (zs.map tupD)
  | [], [], _ => .nil
  | [], _ :: _, h => by have := h.1; simp at this
  | _ :: _, [], h => by have := h.1; simp at this
  | u :: us, z :: zs, h => by
    obtain ⟨q, z', rfl, e2, e3⟩ := h.2 0 u rfl
    cases e2
    refine .cons (dp_tup e3) (Rows.dps ⟨by have := h.1; simpa using this, fun j v hv => h.2 (j + 1) v (by simpa using hv)⟩)
theorem Rows.dp {K : PySem.W.Frag} {H : Hp} {a : Addr} {us : List V} {zs : List (List Int)} (h : Rows H us zs) (e : H a = some (.lst us)) : Dp K H (.ref a) (.list (zs.map tupD)) := .lst (SqL.of e) h.dps
theorem any_row {zs : List (List Int)} {z : List Int} (h : z ∈ zs) : ((zs.map tupD).any fun d => PyData.eqv d (tupD z)) = true := List.any_eq_true.mpr ⟨tupD z, List.mem_map.mpr ⟨z, h, rfl⟩, eqv_tup z⟩
end MM
namespace MM
open PySem PySem.Spec PyProof.Rows L2
/-! ### calls that may raise, the names as they stand at the call -/
section
variable {X : Cx} {k j : Nat} {f : Addr} {fd : FuncData} {ps ks : List Str} {sp : Sp} {dvs : List V} {ds : List Value} {x : Str} {st : Stmt} {p pos : Pos} {e : Expr} {es : List Expr} {kws : List Keyword} {t tk : TA} {W : WX}
theorem run_fnS {pins : List (Addr × Obj)} {σ : L2.St} {H : Hp} {s : Shared} {Q : VK} {us : List Value} {vs : List V} (F : FnOk X.prog X.w X.K X.mg X.base (L2.CX X.prog X.w) k f fd ps sp) (hr : Room k X.A) (hb : Binds X.K fd ps ds) (hd : Vals dvs ds) (ht : Takes X W)
    (I : Inv X pins σ H s) (r : Vals vs us) (h : sp (vs ++ dvs) H Q (fun c d H' => W c d σ H')) : wpAny (model X.prog X.w) X.A (call (.ref f) us) (EP X pins σ Q) X.xe s := by
  have r2 : Vals (vs ++ dvs) (us ++ ds) := r.append hd
  have hl : (us ++ ds).length = ps.length := by rw [← r2.length]; exact F.len _ _ _ _ h
  refine wpAny_call (codeAny_mono (F.run X.A X.stack s H ⟨us, []⟩ (us ++ ds) (vs ++ dvs) Q _ hr I.env0 (hb s us I.kIn hl) r2 h) fun r s' hq => ?_)
  match r, hq with
  | .error e, hq => exact ht e s' (XE.of_call I (fun _ _ _ z => z) hq)
  | .ok (.ret u), hq => exact I.after hq
  | .ok .next, hq => exact False.elim hq
  | .ok .brk, hq => exact False.elim hq
  | .ok .cont, hq => exact False.elim hq
theorem pe_caS (c : Ca X.prog X.w X.K X.mg X.base (L2.CX X.prog X.w) k x st [] ps sp) (b : Bd x x st ps) (hr : Room j X.A) (hk : k ≤ j) (ht : Takes X W) (hg : Gl X x) (ha : PA X (e :: es) t)
    (hdb : (x == ("__debug__" : Str)) = false := by decide) (he : starEach (e :: es) X.env = (false, eval e X.env) :: starEach es X.env := by rfl) (hpl : (backTo pos (starEach es X.env)).any (·.1) = false := by rfl) :
    PE X (.Call (.Name x p) (e :: es) [] pos) (fun σ H Q => t σ H fun vs H1 => sp (vs ++ []) H1 Q (fun c d H' => W c d σ H')) := by
  obtain ⟨f, fd, F, hm, G⟩ := c.ex
  refine ⟨fun pins s σ H Q I h => ?_⟩
  refine wpAny_Call_Name_kw (ld_glob I hg hm ?_ hdb)
  refine PySem.W.callWith_K (h₀ := X.base) I.ok.mod.kin F.kp (thn (ha.run pos pins s σ H _ I h) fun us s1 ⟨vs, H1, I1, r, q⟩ => ⟨I1.kIn, ?_⟩) he hpl
  exact run_fnS G (hr.mono hk) (F.bindsN b) .nil ht I1 r q
theorem pe_caKS {g : {α : Type} → List α → List α → List α} (c : Ca X.prog X.w X.K X.mg X.base (L2.CX X.prog X.w) k x st [] ps sp) (b : Kb x st 0 ks ps g) (hr : Room j X.A) (hk : k ≤ j) (ht : Takes X W) (hg : Gl X x) (hkw : PK X kws tk)
    (hall : (backToKw pos (keywordEach kws X.env)).all (·.1.isSome) = true := by rfl) (hks : (backToKw pos (keywordEach kws X.env)).filterMap (·.1) = ks := by rfl) (hdb : (x == ("__debug__" : Str)) = false := by decide)
    (hpl : ((backTo pos (starEach [] X.env)).any (·.1) || (backToKw pos (keywordEach kws X.env)).any (·.1.isNone)) = false := by rfl) :
    PE X (.Call (.Name x p) [] kws pos) (fun σ H Q => tk σ H fun zs H2 => zs.length = ks.length ∧ sp (g [] zs) H2 Q (fun c d H' => W c d σ H')) := by
  obtain ⟨f, fd, F, hm, G⟩ := c.ex
  obtain ⟨kV, doc, pm, an, cdv, ct, rfl⟩ := FunD.none F
  refine ⟨fun pins s σ H Q I h => ?_⟩
  refine wpAny_Call_Name_kw (ld_glob I hg hm ?_ hdb)
  refine PySem.W.callWith_KW0 (h₀ := X.base) I.ok.mod.kin F.kp hall ?_ hpl
  refine thn (hkw.run pos pins s σ H _ I h) fun ws s2 ⟨zs, H2, I2, rz, l2, q2⟩ => ⟨I2.kIn, ?_⟩
  rw [hks]
  have r2 : Vals (g [] zs) (g [] ws) := b.rel rfl l2 .nil rz
  refine wpAny_call (codeAny_mono (G.run X.A X.stack s2 H2 ⟨[], ks.zip ws⟩ (g [] ws) (g [] zs) Q _ (hr.mono hk) I2.env0 (.of_eq (b.bind kV doc pm an cdv ct [] ws rfl (rz.length.symm.trans l2))) r2 q2) fun r s' hq => ?_)
  match r, hq with
  | .error e, hq => exact ht e s' (XE.of_call I2 (fun _ _ _ z => z) hq)
  | .ok (.ret u), hq => exact I2.after hq
  | .ok .next, hq => exact False.elim hq
  | .ok .brk, hq => exact False.elim hq
  | .ok .cont, hq => exact False.elim hq
end
end MM
namespace MM
open PySem PySem.Spec PyProof.Rows L2
/-! ### calls of a def with defaults, which may raise -/
/-- how f(.., k = v, ..) binds where f has defaults -/
structure Kdf (x : Str) (st : Stmt) (dn n : Nat) (ks ps : List Str) (g : {α : Type} → List α → List α → List α → List α) : Prop where
  bind : ∀ (T : Addr) (kV doc pm : Value) (an : Option Addr) (cdv ct : Value) (us its ws : List Value), us.length = n → its.length = dn → ws.length = ks.length →
    ∃ k, bindArgs (PySem.W.fnOf x x (defArgs st) (defBody st) (defScope st) (.ref T) kV doc pm an cdv ct) ⟨us, ks.zip ws⟩ = seqItems? (.ref T) >>= k ∧ k (some its.toArray) = pure (ps.zip (g us its ws))
  rel : ∀ {vs ds zs : List V} {us its ws : List Value}, Vals vs us → Vals ds its → Vals zs ws → Vals (g vs ds zs) (g us its ws)
theorem op_eqDK {X : Cx} {K : PySem.W.Frag} (hK : X.K = K) (hu : X.A.units + 64 < cLine) : OpR X (compareOp .Eq) (rEqD K) := by
  subst hK
  exact op_eqD hu
section
variable {X : Cx} {k j n d : Nat} {f : Addr} {fd : FuncData} {ps ks : List Str} {sp : Sp} {dvs : List V} {x : Str} {st : Stmt} {p pos : Pos} {e : Expr} {es : List Expr} {kws : List Keyword} {t tk : TA} {W : WX}
/-- f(e, ..): n values, the defaults from the d-th on -/
theorem pe_caDS (c : Ca X.prog X.w X.K X.mg X.base (L2.CX X.prog X.w) k x st dvs ps sp) (b : Bd1 x x st ps n d dvs.length) (hd : dvs ≠ []) (hn : n + (dvs.length - d) = ps.length) (hr : Room j X.A) (hk : k ≤ j) (ht : Takes X W) (hg : Gl X x) (ha : PA X (e :: es) t)
    (hdb : (x == ("__debug__" : Str)) = false := by decide) (he : starEach (e :: es) X.env = (false, eval e X.env) :: starEach es X.env := by rfl) (hpl : (backTo pos (starEach es X.env)).any (·.1) = false := by rfl) :
    PE X (.Call (.Name x p) (e :: es) [] pos) (fun σ H Q => t σ H fun vs H1 => sp (vs ++ dvs.drop d) H1 Q (fun c d H' => W c d σ H')) := by
  obtain ⟨f, fd, F, hm, G⟩ := c.ex
  obtain ⟨ds, r, bb⟩ := F.binds1 n d hd hn b
  refine ⟨fun pins s σ H Q I h => ?_⟩
  refine wpAny_Call_Name_kw (ld_glob I hg hm ?_ hdb)
  refine PySem.W.callWith_K (h₀ := X.base) I.ok.mod.kin F.kp (thn (ha.run pos pins s σ H _ I h) fun us s1 ⟨vs, H1, I1, rv, q⟩ => ⟨I1.kIn, ?_⟩) he hpl
  exact run_fnS G (hr.mono hk) bb r ht I1 rv q
theorem run_fnkS {pins : List (Addr × Obj)} {σ : L2.St} {H : Hp} {s : Shared} {Q : VK} {us ws : List Value} {vs zs : List V} {g : List Value → List Value → List Value} {gV : List V → List V → List V} (F : FnOk X.prog X.w X.K X.mg X.base (L2.CX X.prog X.w) k f fd ps sp) (hr : Room k X.A) (hb : KBn X.K fd ps n ks g gV) (ht : Takes X W)
    (I : Inv X pins σ H s) (r : Vals vs us) (rz : Vals zs ws) (l1 : vs.length = n) (l2 : zs.length = ks.length) (h : sp (gV vs zs) H Q (fun c d H' => W c d σ H')) : wpAny (model X.prog X.w) X.A (call (.ref f) us (ks.zip ws)) (EP X pins σ Q) X.xe s := by
  have r2 := hb.rel r rz
  refine wpAny_call (codeAny_mono (F.run X.A X.stack s H ⟨us, ks.zip ws⟩ (g us ws) (gV vs zs) Q _ hr I.env0 (hb.to s us ws I.kIn (r.length.symm.trans l1) (rz.length.symm.trans l2)) r2 h) fun r s' hq => ?_)
  match r, hq with
  | .error e, hq => exact ht e s' (XE.of_call I (fun _ _ _ z => z) hq)
  | .ok (.ret u), hq => exact I.after hq
  | .ok .next, hq => exact False.elim hq
  | .ok .brk, hq => exact False.elim hq
  | .ok .cont, hq => exact False.elim hq
/-- f(e, .., k = v, ..) -/
theorem pe_caDK {g : {α : Type} → List α → List α → List α → List α} (c : Ca X.prog X.w X.K X.mg X.base (L2.CX X.prog X.w) k x st dvs ps sp) (b : Kdf x st dvs.length n ks ps g) (hd : dvs ≠ []) (hr : Room j X.A) (hk : k ≤ j) (ht : Takes X W) (hg : Gl X x) (ha : PA X (e :: es) t) (hkw : PK X kws tk)
    (hall : (backToKw pos (keywordEach kws X.env)).all (·.1.isSome) = true := by rfl) (hks : (backToKw pos (keywordEach kws X.env)).filterMap (·.1) = ks := by rfl) (hdb : (x == ("__debug__" : Str)) = false := by decide)
    (he : starEach (e :: es) X.env = (false, eval e X.env) :: starEach es X.env := by rfl) (hpl : ((backTo pos (starEach (e :: es) X.env)).any (·.1) || (backToKw pos (keywordEach kws X.env)).any (·.1.isNone)) = false := by rfl) :
    PE X (.Call (.Name x p) (e :: es) kws pos) (fun σ H Q => t σ H fun vs H1 => tk σ H1 fun zs H2 => vs.length = n ∧ zs.length = ks.length ∧ sp (g vs dvs zs) H2 Q (fun c d H' => W c d σ H')) := by
  obtain ⟨f, fd, F, hm, G⟩ := c.ex
  obtain ⟨its, hb⟩ := F.kbindsD n ks g hd b.rel b.bind
  refine ⟨fun pins s σ H Q I h => ?_⟩
  refine wpAny_Call_Name_kw (ld_glob I hg hm ?_ hdb)
  refine PySem.W.callWith_KW (h₀ := X.base) I.ok.mod.kin F.kp hall (thn (ha.run pos pins s σ H _ I h) fun us s1 ⟨vs, H1, I1, r, q⟩ => ?_) hpl he
  refine thn (hkw.run pos pins s1 σ H1 _ I1 q) fun ws s2 ⟨zs, H2, I2, rz, l1, l2, q2⟩ => ⟨I2.kIn, ?_⟩
  rw [hks]
  exact run_fnkS G (hr.mono hk) hb ht I2 r rz l1 l2 q2
/-- f(k = v, ..) -/
theorem pe_caDK0 {g : {α : Type} → List α → List α → List α → List α} (c : Ca X.prog X.w X.K X.mg X.base (L2.CX X.prog X.w) k x st dvs ps sp) (b : Kdf x st dvs.length 0 ks ps g) (hd : dvs ≠ []) (hr : Room j X.A) (hk : k ≤ j) (ht : Takes X W) (hg : Gl X x) (hkw : PK X kws tk)
    (hall : (backToKw pos (keywordEach kws X.env)).all (·.1.isSome) = true := by rfl) (hks : (backToKw pos (keywordEach kws X.env)).filterMap (·.1) = ks := by rfl) (hdb : (x == ("__debug__" : Str)) = false := by decide)
    (hpl : ((backTo pos (starEach [] X.env)).any (·.1) || (backToKw pos (keywordEach kws X.env)).any (·.1.isNone)) = false := by rfl) :
    PE X (.Call (.Name x p) [] kws pos) (fun σ H Q => tk σ H fun zs H2 => zs.length = ks.length ∧ sp (g [] dvs zs) H2 Q (fun c d H' => W c d σ H')) := by
  obtain ⟨f, fd, F, hm, G⟩ := c.ex
  obtain ⟨its, hb⟩ := F.kbindsD 0 ks g hd b.rel b.bind
  refine ⟨fun pins s σ H Q I h => ?_⟩
  refine wpAny_Call_Name_kw (ld_glob I hg hm ?_ hdb)
  refine PySem.W.callWith_KW0 (h₀ := X.base) I.ok.mod.kin F.kp hall ?_ hpl
  refine thn (hkw.run pos pins s σ H _ I h) fun ws s2 ⟨zs, H2, I2, rz, l2, q2⟩ => ⟨I2.kIn, ?_⟩
  rw [hks]
  exact run_fnkS (us := []) (vs := []) G (hr.mono hk) hb ht I2 .nil rz rfl l2 q2
end
end MM
namespace MM
open PySem PySem.Spec PyProof.Rows L2
/-! ### calls of a def with defaults, which never raises -/
/-- how f(.., k = v, ..) binds where f has defaults -/
structure Kdn (x : Str) (st : Stmt) (dn n : Nat) (ks ps : List Str) (g : {α : Type} → List α → List α → List α → List α) : Prop where
  bind : ∀ (T : Addr) (kV doc pm : Value) (an : Option Addr) (cdv ct : Value) (us its ws : List Value), us.length = n → its.length = dn → ws.length = ks.length →
    ∃ k, bindArgs (PySem.W.fnOf x x (defArgs st) (defBody st) (defScope st) (.ref T) kV doc pm an cdv ct) ⟨us, ks.zip ws⟩ = seqItems? (.ref T) >>= k ∧ k (some its.toArray) = pure (ps.zip (g us its ws))
  rel : ∀ {vs ds zs : List V} {us its ws : List Value}, Vals vs us → Vals ds its → Vals zs ws → Vals (g vs ds zs) (g us its ws)
section
variable {X : Cx} {CX : CXT} {k j n d : Nat} {f : Addr} {fd : FuncData} {ps ks : List Str} {sp : Sp} {dvs : List V} {x : Str} {st : Stmt} {p pos : Pos} {e : Expr} {es : List Expr} {kws : List Keyword} {t tk : TA} {E : XK}
/-- f(e, ..): n values, the defaults from the d-th on -/
theorem pe_caD (c : Ca X.prog X.w X.K X.mg X.base CX k x st dvs ps sp) (b : Bd1 x x st ps n d dvs.length) (hd : dvs ≠ []) (hn : n + (dvs.length - d) = ps.length) (hr : Room j X.A) (hk : k ≤ j) (hx : Passes CX X E) (hg : Gl X x) (ha : PA X (e :: es) t)
    (hdb : (x == ("__debug__" : Str)) = false := by decide) (he : starEach (e :: es) X.env = (false, eval e X.env) :: starEach es X.env := by rfl) (hpl : (backTo pos (starEach es X.env)).any (·.1) = false := by rfl) :
    PE X (.Call (.Name x p) (e :: es) [] pos) (tCall sp (dvs.drop d) E t) := by
  obtain ⟨f, fd, F, hm, G⟩ := c.ex
  obtain ⟨ds, r, bb⟩ := F.binds1 n d hd hn b
  exact pe_call G (hr.mono hk) hg hm F.kp bb r hx ha hdb he hpl
theorem run_fnkP {pins : List (Addr × Obj)} {σ : L2.St} {H : Hp} {s : Shared} {Q : VK} {us ws : List Value} {vs zs : List V} {g : List Value → List Value → List Value} {gV : List V → List V → List V} (F : FnOk X.prog X.w X.K X.mg X.base CX k f fd ps sp) (hr : Room k X.A) (hb : KBn X.K fd ps n ks g gV) (hx : Passes CX X E)
    (I : Inv X pins σ H s) (r : Vals vs us) (rz : Vals zs ws) (l1 : vs.length = n) (l2 : zs.length = ks.length) (h : sp (gV vs zs) H Q E) : wpAny (model X.prog X.w) X.A (call (.ref f) us (ks.zip ws)) (EP X pins σ Q) X.xe s := by
  have r2 := hb.rel r rz
  refine wpAny_call (codeAny_mono (F.run X.A X.stack s H ⟨us, ks.zip ws⟩ (g us ws) (gV vs zs) Q _ hr I.env0 (hb.to s us ws I.kIn (r.length.symm.trans l1) (rz.length.symm.trans l2)) r2 h) fun r s' hq => ?_)
  match r, hq with
  | .error e, hq => exact hx pins σ H s e s' I hq
  | .ok (.ret u), hq => exact I.after hq
  | .ok .next, hq => exact False.elim hq
  | .ok .brk, hq => exact False.elim hq
  | .ok .cont, hq => exact False.elim hq
/-- f(e, .., k = v, ..) -/
theorem pe_caDk {g : {α : Type} → List α → List α → List α → List α} (c : Ca X.prog X.w X.K X.mg X.base CX k x st dvs ps sp) (b : Kdn x st dvs.length n ks ps g) (hd : dvs ≠ []) (hr : Room j X.A) (hk : k ≤ j) (hx : Passes CX X E) (hg : Gl X x) (ha : PA X (e :: es) t) (hkw : PK X kws tk)
    (hall : (backToKw pos (keywordEach kws X.env)).all (·.1.isSome) = true := by rfl) (hks : (backToKw pos (keywordEach kws X.env)).filterMap (·.1) = ks := by rfl) (hdb : (x == ("__debug__" : Str)) = false := by decide)
    (he : starEach (e :: es) X.env = (false, eval e X.env) :: starEach es X.env := by rfl) (hpl : ((backTo pos (starEach (e :: es) X.env)).any (·.1) || (backToKw pos (keywordEach kws X.env)).any (·.1.isNone)) = false := by rfl) :
    PE X (.Call (.Name x p) (e :: es) kws pos) (fun σ H Q => t σ H fun vs H1 => tk σ H1 fun zs H2 => vs.length = n ∧ zs.length = ks.length ∧ sp (g vs dvs zs) H2 Q E) := by
  obtain ⟨f, fd, F, hm, G⟩ := c.ex
  obtain ⟨its, hb⟩ := F.kbindsD n ks g hd b.rel b.bind
  refine ⟨fun pins s σ H Q I h => ?_⟩
  refine wpAny_Call_Name_kw (ld_glob I hg hm ?_ hdb)
  refine PySem.W.callWith_KW (h₀ := X.base) I.ok.mod.kin F.kp hall (thn (ha.run pos pins s σ H _ I h) fun us s1 ⟨vs, H1, I1, r, q⟩ => ?_) hpl he
  refine thn (hkw.run pos pins s1 σ H1 _ I1 q) fun ws s2 ⟨zs, H2, I2, rz, l1, l2, q2⟩ => ⟨I2.kIn, ?_⟩
  rw [hks]
  exact run_fnkP G (hr.mono hk) hb hx I2 r rz l1 l2 q2
/-- f(k = v, ..) -/
theorem pe_caDk0 {g : {α : Type} → List α → List α → List α → List α} (c : Ca X.prog X.w X.K X.mg X.base CX k x st dvs ps sp) (b : Kdn x st dvs.length 0 ks ps g) (hd : dvs ≠ []) (hr : Room j X.A) (hk : k ≤ j) (hx : Passes CX X E) (hg : Gl X x) (hkw : PK X kws tk)
    (hall : (backToKw pos (keywordEach kws X.env)).all (·.1.isSome) = true := by rfl) (hks : (backToKw pos (keywordEach kws X.env)).filterMap (·.1) = ks := by rfl) (hdb : (x == ("__debug__" : Str)) = false := by decide)
    (hpl : ((backTo pos (starEach [] X.env)).any (·.1) || (backToKw pos (keywordEach kws X.env)).any (·.1.isNone)) = false := by rfl) :
    PE X (.Call (.Name x p) [] kws pos) (fun σ H Q => tk σ H fun zs H2 => zs.length = ks.length ∧ sp (g [] dvs zs) H2 Q E) := by
  obtain ⟨f, fd, F, hm, G⟩ := c.ex
  obtain ⟨its, hb⟩ := F.kbindsD 0 ks g hd b.rel b.bind
  refine ⟨fun pins s σ H Q I h => ?_⟩
  refine wpAny_Call_Name_kw (ld_glob I hg hm ?_ hdb)
  refine PySem.W.callWith_KW0 (h₀ := X.base) I.ok.mod.kin F.kp hall ?_ hpl
  refine thn (hkw.run pos pins s σ H _ I h) fun ws s2 ⟨zs, H2, I2, rz, l2, q2⟩ => ⟨I2.kIn, ?_⟩
  rw [hks]
  exact run_fnkP (us := []) (vs := []) G (hr.mono hk) hb hx I2 .nil rz rfl l2 q2
end
end MM
namespace MM
open PySem PySem.Spec PyProof.Rows L2
/-! ### figures -/
def dg (d : Nat) : Nat := if d < 10 then 48 + d else 87 + d
/-- the figures, the last one first -/
def lsd (b n : Nat) : List Nat := if h : b < 2 ∨ n < b then [n] else (n % b) :: lsd b (n / b)
termination_by n
decreasing_by exact Nat.div_lt_self (by omega) (by omega)
theorem lsd_lt {b n : Nat} (h : n < b) : lsd b n = [n] := by
  rw [lsd, dif_pos (.inr h)]
theorem lsd_ge {b n : Nat} (hb : 2 ≤ b) (h : b ≤ n) : lsd b n = (n % b) :: lsd b (n / b) := by
  rw [lsd, dif_neg (by omega)]
theorem lsd_ne (b n : Nat) : lsd b n ≠ [] := by
  rw [lsd]
  split <;> simp
theorem lsd_small {b : Nat} (hb : 2 ≤ b) : ∀ (n : Nat), ∀ d ∈ lsd b n, d < b := fun n => by
  induction n using Nat.strongRecOn with
  | _ n ih =>
    intro d hd
    by_cases h : n < b
    · rw [lsd_lt h] at hd
      rw [List.mem_singleton.mp hd]
      exact h
    · rw [lsd_ge hb (by omega)] at hd
      rcases List.mem_cons.mp hd with rfl | hd
      · exact Nat.mod_lt _ (by omega)
      · exact ih (n / b) (Nat.div_lt_self (by omega) (by omega)) d hd
theorem lsd_len {b : Nat} (hb : 2 ≤ b) : ∀ (e n : Nat), n < 2 ^ e → 0 < e → (lsd b n).length ≤ e := fun e => by
  induction e with
  | zero => intro n h h0; omega
  | succ e ih =>
    intro n h h0
    by_cases hn : n < b
    · rw [lsd_lt hn]
      simp
    · rw [lsd_ge hb (by omega), List.length_cons]
      have h1 : n / b ≤ n / 2 := Nat.div_le_div_left hb (by decide)
      have h2 : n / 2 < 2 ^ e := by rw [Nat.pow_succ] at h; omega
      by_cases he : 0 < e
      · have := ih (n / b) (by omega) he
        omega
      · have e0 : e = 0 := by omega
        subst e0
        have : n / b = 0 := by omega
        rw [this, lsd_lt (by omega)]
        simp at h2 ⊢
        have hz : n / b = 0 := by omega
        have := (Nat.div_eq_zero_iff).mp hz
        omega
theorem lsd_val {b : Nat} (hb : 2 ≤ b) : ∀ n : Nat, (lsd b n).foldr (fun d a => a * b + d) 0 = n := fun n => by
  induction n using Nat.strongRecOn with
  | _ n ih =>
    by_cases h : n < b
    · rw [lsd_lt h]
      simp
    · rw [lsd_ge hb (by omega), List.foldr_cons, ih (n / b) (Nat.div_lt_self (by omega) (by omega))]
      have := Nat.div_add_mod n b
      rw [Nat.mul_comm] at this
      exact this
def sg (d : Nat) : Str := ⟨#[dg d]⟩
def txt (ds : List Nat) : Str := ⟨(ds.map dg).toArray⟩
/-- a whole number by a base -/
def numT (b : Nat) (i : Int) : Str := if i < 0 then ("-" : Str) ++ txt (lsd b i.natAbs).reverse else txt (lsd b i.natAbs).reverse
theorem str_ext {x y : Str} (h : x.cps.toList = y.cps.toList) : x = y := by
  cases x
  cases y
  congr
  exact Array.toList_inj.mp h
theorem app_cps (x y : Str) : (x ++ y).cps.toList = x.cps.toList ++ y.cps.toList := by
  show (x.cps ++ y.cps).toList = _
  simp
theorem txt_cps (ds : List Nat) : (txt ds).cps.toList = ds.map dg := rfl
theorem txt_len (ds : List Nat) : (txt ds).length = ds.length := by
  show ((ds.map dg).toArray).size = _
  simp
theorem dash_cps : ("-" : Str).cps.toList = [45] := by decide +kernel
theorem sg_txt (d : Nat) (ds : List Nat) : sg d ++ txt ds = txt (d :: ds) := str_ext (by
  rw [app_cps]
  rfl)
theorem nil_txt : ("" : Str) = txt [] := str_ext (by decide +kernel)
theorem dg_ne {d : Nat} (h : d < 16) : dg d ≠ 45 := by
  unfold dg
  split <;> omega
def FIG : Str := "0123456789abcdef"
theorem fig_len : FIG.length = 16 := by decide +kernel
theorem fig_at {d : Nat} (h : d < 16) : atI FIG.cps.toList (d : Int) = some (dg d) := by
  have : ∀ d : Fin 16, atI FIG.cps.toList ((d.val : Nat) : Int) = some (dg d.val) := by decide +kernel
  exact this ⟨d, h⟩
theorem fig_find {d : Nat} (h : d < 16) : Txt.find FIG (sg d) = (d : Int) := by
  have : ∀ d : Fin 16, Txt.find FIG (sg d.val) = ((d.val : Nat) : Int) := by decide +kernel
  exact this ⟨d, h⟩
theorem glued_nil : ∀ (ps : List Str) (acc : Array Nat), (ps.foldl (fun acc p => acc ++ ("" : Str).cps ++ p.cps) acc).toList = acc.toList ++ (ps.map fun p => p.cps.toList).flatten
  | [], acc => by simp
  | p :: ps, acc => by
    rw [List.foldl_cons, glued_nil ps]
    have e : ("" : Str).cps = #[] := by decide +kernel
    rw [e]
    simp
theorem join_nil (ps : List Str) : (Txt.join ("" : Str) ps).cps.toList = (ps.map fun p => p.cps.toList).flatten := by
  show (((ps.drop 1).foldl (fun acc p => acc ++ ("" : Str).cps ++ p.cps) (ps.headD Str.empty).cps)).toList = _
  cases ps with
  | nil => rfl
  | cons p ps =>
    show ((ps.foldl (fun acc p => acc ++ ("" : Str).cps ++ p.cps) p.cps)).toList = _
    rw [glued_nil]
    simp
theorem flat_sg : ∀ ds : List Nat, ((ds.map sg).map fun p => p.cps.toList).flatten = ds.map dg
  | [] => rfl
  | d :: ds => by
    rw [List.map_cons, List.map_cons, List.flatten_cons, flat_sg ds]
    rfl
theorem join_sg (ds : List Nat) : Txt.join ("" : Str) ((ds.map sg).reverse) = txt ds.reverse := str_ext (by
  rw [join_nil, ← List.map_reverse, flat_sg]
  rfl)
theorem join_dash (ds : List Nat) : Txt.join ("" : Str) ((ds.map sg ++ [("-" : Str)]).reverse) = ("-" : Str) ++ txt ds.reverse := str_ext (by
  rw [join_nil, List.reverse_append, ← List.map_reverse, List.map_append, List.flatten_append, flat_sg, app_cps]
  rfl)
theorem sub_iff (x y : Str) : Builtin.Str.subAt x y 0 = true ↔ x.cps.toList.take y.length = y.cps.toList := by
  unfold Builtin.Str.subAt
  rw [beq_iff_eq, ← Array.toList_inj]
  simp
theorem dash_len : ("-" : Str).length = 1 := by decide +kernel
theorem not_dash {ds : List Nat} (h0 : ds ≠ []) (h : ∀ d ∈ ds, d < 16) : Builtin.Str.subAt (txt ds) ("-" : Str) 0 = false := by
  cases hb : Builtin.Str.subAt (txt ds) ("-" : Str) 0 with
  | false => rfl
  | true =>
    have := (sub_iff _ _).mp hb
    rw [dash_len, dash_cps, txt_cps] at this
    cases ds with
    | nil => exact absurd rfl h0
    | cons d ds =>
      have e : dg d = 45 := by simpa using this
      exact absurd e (dg_ne (h d (by simp)))
theorem is_dash (ds : List Nat) : Builtin.Str.subAt (("-" : Str) ++ txt ds) ("-" : Str) 0 = true := by
  rw [sub_iff, dash_len, app_cps, dash_cps]
  rfl
theorem dash_txt_len (ds : List Nat) : (("-" : Str) ++ txt ds).length = ds.length + 1 := by
  show (("-" : Str).cps ++ (txt ds).cps).size = _
  rw [Array.size_append]
  show ("-" : Str).length + (txt ds).length = _
  rw [dash_len, txt_len]
  omega
theorem rp_txt {ds : List Nat} (h0 : ds ≠ []) (h : ∀ d ∈ ds, d < 16) : Txt.removeprefix (txt ds) ("-" : Str) = txt ds := by
  unfold Txt.removeprefix
  rw [not_dash h0 h]
  rfl
theorem rp_dash (ds : List Nat) : Txt.removeprefix (("-" : Str) ++ txt ds) ("-" : Str) = txt ds := by
  unfold Txt.removeprefix
  rw [is_dash, dash_len, dash_txt_len]
  show (if (ds.length + 1 - 1 == (("-" : Str) ++ txt ds).length) = true then _ else _) = _
  rw [dash_txt_len, if_neg (by simp)]
  refine str_ext ?_
  show ((("-" : Str) ++ txt ds).cps.extract 1 (ds.length + 1)).toList = _
  have e : (("-" : Str) ++ txt ds).cps.toList = 45 :: ds.map dg := by rw [app_cps, dash_cps]; rfl
  rw [Array.toList_extract, e, txt_cps]
  simp
  exact List.take_of_length_le (by simp)
theorem sw_txt {ds : List Nat} (h0 : ds ≠ []) (h : ∀ d ∈ ds, d < 16) : Txt.startswith (txt ds) ("-" : Str) = false := by
  unfold Txt.startswith
  rw [not_dash h0 h, Bool.and_false]
theorem sw_dash (ds : List Nat) : Txt.startswith (("-" : Str) ++ txt ds) ("-" : Str) = true := by
  unfold Txt.startswith
  rw [is_dash, dash_txt_len, dash_len]
  simp
/-! ### a text once or not at all -/
theorem op_mulS {X : Cx} : OpR X (binaryOp .Mult) (fun x y H Q => ∃ (z : Str) (b : Bool), x = .str z ∧ y = .int (if b = true then 1 else 0) ∧ Q (.str (if b = true then z else Str.empty)) H) := by
  intro pins s σ H x y v u Q I rx ry h
  obtain ⟨z, b, rfl, rfl, q⟩ := h
  obtain ⟨t, rfl⟩ := rx
  obtain ⟨t', rfl⟩ := ry
  cases b with
  | false => exact P.mul_str_none (by decide) (by decide) ⟨.str Str.empty, H, I.tok _, ⟨_, rfl⟩, q⟩
  | true =>
    refine P.mul_str (by decide) (fun _ e => by simp at e) (fun _ e => by simp at e) ?_
    rw [if_neg (by decide), if_pos (by simp)]
    exact ⟨.str z, H, I, ⟨_, rfl⟩, q⟩
end MM
namespace MM
open PySem PySem.Spec PyProof.Rows L2
/-- what try .. except C as n: m = n wishes of an exception of the body -/
def wKeep1 (K : PySem.W.Frag) (c : Value) (i j : Nat) (D : Ends) : WX := fun cls d σ H => PySem.W.exmOne K cls c = some true ∧ ∀ a, H a = none → D.nx (((σ.set i (some (.ref a))).set j (some (.ref a))).set i none) (L2.upd H a (KX a cls d))
section
variable {X : Cx} {c : Value} {x n m : Str} {i j : Nat} {body : List Stmt} {tpos np mp apos pos pos' : Pos} {tb : WX → TS}
/-- try: body / except (..) as n: m = n; nothing else leaves the body -/
theorem ps_try_keep1 (hs : X.stack = X.env :: X.outer) (hf : X.env.frame = some X.env.locals) (hex : X.ex = []) (hN : X.N.Nodup) (hi : X.N[i]? = some n) (hln : X.env.kindOf n = some .local) (hj : X.N[j]? = some m) (hlm : X.env.kindOf m = some .local) (hg : Gl X x) (hd0 : (x == ("__debug__" : Str)) = false) (hm0 : X.mg x = some c)
    (hdb : (n == ("__debug__" : Str)) = false := by decide) (hcd : (n == ("__classdict__" : Str)) = false := by decide)
    (hb : ∀ (W : WX) (pn : List (Addr × Obj)) (xe : Value → Shared → Prop), Takes (X.tr pn xe) W → PassesOwn (model X.prog X.w) X.A X.env xe → PSs (X.tr pn xe) body (tb W))
    (hsw : swapsWith (.Name n np) (some (.Name m mp)) apos.line X.env = pure false := by rfl) :
    PS X (.Try body [.ExceptHandler (some (.Name x tpos)) (some n) [.Assign [.Name m mp] (.Name n np) apos] pos'] [] [] pos) (fun D σ H => tb (wKeep1 X.K c i j D) D σ H) := by
  refine ⟨fun pins s σ H D I h => ?_⟩
  have ok := I.ok
  have hfr : X.A.frames = some (X.env :: X.outer) := by rw [ok.frames, hs]
  refine wpAny_Try_except ?_
  refine wpAny_mono ((hb (wKeep1 X.K c i j D) (X.pn ++ pins) (fun e s₁ => wpAny (model X.prog X.w) X.A (noteFrame e X.env) (fun _ s₂ => wpAny (model X.prog X.w) X.A (setFlight e none) (fun _ s₃ =>
    wpAny (model X.prog X.w) X.A (handleBy e X.env [.ExceptHandler (some (.Name x tpos)) (some n) [.Assign [.Name m mp] (.Name n np) apos] pos']) (SP X pins D) X.xe s₃) X.xe s₂) X.xe s₁) (fun u s' xx => ?_) PassesOwn.looking).run [] s σ H D (I.toTry _) h) (fun f s1 hsp => ?_) (fun e s1 he => he)
  · obtain ⟨a, B, sI, pins', σ', H', cls, d, rfl, J', nb, up, sky, na, os, ag, hB, wish⟩ := xx
    have J : Inv X pins σ' H' sI := J'.ofTry ok
    have sky' : Sky B (X.env :: X.outer) a (Zc cls d) X.env.locals s'.heap := by rw [← hs]; exact sky
    show wpAny (model X.prog X.w) X.A (noteFrame (.ref a) X.env) _ _ _
    refine Sky.land Zc.steady hfr hf sky' fun h3 fl3 up3 => ?_
    have J3 : Inv X pins σ' H' { s' with heap := h3 } := J.landed nb fl3.1 (up.trans up3) os ag
    obtain ⟨oe3, vs3, he3, hz3, hd3⟩ := fl3.there
    have nfr : a ∉ frs (X.env :: X.outer) := fun hm => by
      obtain ⟨_, o', e', hnf⟩ := fl3.2.2.1.mem hm
      rw [he3] at e'
      cases e'
      exact hnf _ hd3
    have nL : a ≠ X.env.locals := fun z => nfr (List.mem_filterMap.mpr ⟨X.env, List.mem_cons_self, by rw [hf, z]⟩)
    have nF : a ∉ X.fs := fun hm => by
      obtain ⟨e, he, q⟩ := List.mem_filterMap.mp hm
      exact nfr (List.mem_filterMap.mpr ⟨e, List.mem_cons_of_mem _ he, q⟩)
    have nI : sI.heap.get? a = none := by
      cases q : sI.heap.get? a with
      | none => rfl
      | some o =>
        have z := nb a o q (by rw [hs]; exact nfr)
        rw [fl3.2.1] at z
        cases z
    have n0 : X.s_0.heap.get? a = none := by
      cases q : X.s_0.heap.get? a with
      | none => rfl
      | some o =>
        obtain ⟨o', z⟩ := J.base.there a o q (by rw [hex]; exact fun y => nomatch y)
        rw [nI] at z
        cases z
    have nC : ∀ x c, X.env.cells.lookup x = some c → c ≠ a := fun x c e z => by
      obtain ⟨v, o, ho, _⟩ := J.cell x c e
      rw [z, nI] at ho
      cases ho
    have nP : ∀ p ∈ X.pn ++ pins, p.1 ≠ a := fun p hp z => by
      have q := (J.pin p hp).1
      rw [z, nI] at q
      cases q
    have S3 := J3.suite he3 hd3 na nL nF
    refine wpAny_handleBy_cons (codeAny_handlers_test ?_) (by intro q; cases q)
    refine ld_glob (X := X.suite a ((a, oe3) :: (X.pn ++ pins))) S3 hg hm0 ?_ hd0
    have LT : PySem.W.Looks (model X.prog X.w) h3 (typeOf (.ref a)) cls := fun A Q E s k q => wpAny_typeOf_ref (k _ _ he3) (by rw [hz3.1]; exact q)
    have LM := PySem.W.exm_one (M := model X.prog X.w) J3.kIn LT hB
    refine LM.here ?_
    refine codeAny_handlers_suite_as ?_
    refine HandSPX.lands_againZ fl3 fun h4 fl4 up4 => ?_
    have J4 : Inv X pins σ' H' { s' with heap := h4 } := J.landed nb fl4.1 ((up.trans up3).trans up4) os ag
    obtain ⟨oe4, vs4, he4, hz4, hd4⟩ := fl4.there
    have S4 := J4.suite he4 hd4 na nL nF
    refine store_ok (X := X.suite a ((a, oe4) :: (X.pn ++ pins))) (v := .ref a) S4 hN hi (.inl hln) rfl (fun s5 S5 => ?_) (.inr hln)
    have rd : PSs (X.suite a ((a, oe4) :: (X.pn ++ pins))) [.Assign [.Name m mp] (.Name n np) apos] (tAsg (tVar i) (gName j)) := pss_one (ps_set hN hj (.inl hlm) (pe_var hi (.inl hln) hdb hcd) hsw (.inr hlm))
    refine wpAny_mono (rd.run [] s5 _ H' { nx := fun σ6 H6 => σ6 = (σ'.set i (some (.ref a))).set j (some (.ref a)) ∧ H6 = H', rt := fun _ _ => False } S5 ⟨_, ?_, rfl, rfl⟩) (fun f s6 hsp => ?_) (fun _ _ z => False.elim z)
    · exact List.getElem?_set_self (by rw [J.len]; exact (List.getElem?_eq_some_iff.mp hi).1)
    · cases f with
      | next =>
        obtain ⟨σ6, H6, S6, rfl, rfl⟩ := hsp
        obtain ⟨p1, p2, _⟩ := S6.pin (a, oe4) (List.mem_append_left _ List.mem_cons_self)
        have J6 := Inv.track (S6.unsuite ok) p1 hz4 hd4 na n0 nL nC nP
        exact gone_ok J6 hN hi hln fun s7 J7 => ⟨_, _, J7, wish a na⟩
      | brk =>
        obtain ⟨_, _, _, z⟩ := hsp
        exact z.elim
      | cont =>
        obtain ⟨_, _, _, z⟩ := hsp
        exact z.elim
      | ret u =>
        obtain ⟨_, _, _, _, _, z⟩ := hsp
        exact z.elim
  · cases f with
    | next =>
      obtain ⟨σ1, H1, J1, q⟩ := hsp
      exact wpAny_execs_nil ⟨σ1, H1, J1.ofTry ok, q⟩
    | brk =>
      obtain ⟨σ1, H1, J1, q⟩ := hsp
      exact ⟨σ1, H1, J1.ofTry ok, q⟩
    | cont =>
      obtain ⟨σ1, H1, J1, q⟩ := hsp
      exact ⟨σ1, H1, J1.ofTry ok, q⟩
    | ret u =>
      obtain ⟨v1, σ1, H1, J1, r1, q⟩ := hsp
      exact ⟨v1, σ1, H1, J1.ofTry ok, r1, q⟩
end
section
variable {X : Cx} {D : Addr}
/-- isinstance(x, (c, ..)), x a kept exception -/
def rIsKT (K : PySem.W.Frag) (D : Addr) : List V → Hp → VK → Prop := fun xs H Q => ∃ (a oD : Addr) (fs : List (Str × V)) (tp : Addr) (cs : List V) (us : List Value) (b : Bool), xs = [.ref a, .ref tp] ∧ H a = some (KX a (.ref D) (some oD)) ∧ H oD = some (.xd fs) ∧ H tp = some (.tup cs) ∧ Paired ClsV cs us ∧ PySem.W.kitAny K (.ref D) us = some b ∧ Q (.bl b) H
theorem call_isKT (C : XcF X.K D) : CallR X (.builtin "isinstance") (rIsKT X.K D) := by
  intro pins s σ H xs us Q I r h
  obtain ⟨a, oD, fs, tp, cs, ws, b, rfl, ha, hd, hT, k, e, q⟩ := h
  obtain ⟨u1, u2, rfl, r1, r2⟩ := vals2 r
  cases (show u1 = Value.ref a from r1)
  cases (show u2 = Value.ref tp from r2)
  obtain ⟨ox, od, _, J, _⟩ := kept_inst I ha hd
  obtain ⟨_, its, rv, o, h1, h2, n, h3⟩ := (show ObjOk X.prog X.w H s.heap tp (.tup cs) from I.hok tp _ hT)
  have e3 := ClsV.all k rv
  subst e3
  obtain ⟨oc, od', dt, sl⟩ := o
  simp only at h2 h3
  subst h2 h3
  exact PySem.W.kia_tup (kitx_kept C) I.kIn ⟨ox, _, J⟩ h1 e (fun z => nomatch z) fun tk => ⟨.bl b, H, I.kept (t' := tk) fun _ _ z => z, rfl, q⟩
end
end MM
namespace MM
open PySem PySem.Spec PySem.Calls PyProof.Rows L2
section
variable {X : Cx} {a : Expr} {ta : TE}
/-- x is not False, x a truth -/
def tNotF (ta : TE) : TE := fun σ H Q => ta σ H fun x H1 => ∃ b : Bool, x = .bl b ∧ Q (.bl b) H1
theorem pc_notF {j : Nat} {pos' : Pos} (ha : PE X a ta) : PC X .IsNot a (.Constant (.bool false) j pos') (tNotF ta) := by
  refine ⟨fun pins s σ H Q I h => ?_⟩
  refine thn (ha.run pins s σ H _ I h) fun v s1 ⟨x, H1, I1, r1, b, ex, q1⟩ => ?_
  subst ex
  cases (show v = Value.bool b from r1)
  refine Constant_bool ?_
  cases b with
  | true => exact wpAny_pure (a := Value.bool (!(Value.bool true == Value.bool false))) ⟨.bl true, H1, I1, rfl, q1⟩
  | false => exact wpAny_pure (a := Value.bool (!(Value.bool false == Value.bool false))) ⟨.bl false, H1, I1, rfl, q1⟩
end
/-- str(x) of a whole number, or of an instance with its own __str__ -/
@[irreducible] def rSI (C : Addr) (sp : Sp) (E : XK) : List V → Hp → VK → Prop := fun xs H Q => (∃ i : Int, xs = [.int i] ∧ i.natAbs.log2 < 1920 ∧ Q (.str (toString i)) H) ∨ rStrO C sp E xs H Q
theorem call_str_IS {X : Cx} {CX : CXT} {k : Nat} {C : Addr} {qual : Str} {st : Stmt} {ps : List Str} {sp : Sp} {E : XK} (c : Cm X.prog X.w X.K X.mg X.base CX k C "__str__" qual st ps sp) (b : Bd "__str__" qual st ps) (hr : Room (k + 2) X.A) (hx : Passes CX X E) :
    CallR X (.type "str") (rSI C sp E) := by
  obtain ⟨f, fd, F, M, hc, G⟩ := c.ex
  unfold rSI
  exact CallR.or call_str_int (call_strO G M.1 M.2 (F.bindsN b) hx hr)
end MM
namespace MM
open PySem PySem.Spec PySem.Calls PyProof.Rows L2
/-! ### figures by ten are what str tells -/
theorem dg_char {d : Nat} (h : d < 10) : d.digitChar.toNat = dg d := by
  have : ∀ d : Fin 10, d.val.digitChar.toNat = dg d.val := by decide
  exact this ⟨d, h⟩
theorem digits_lsd : ∀ n : Nat, (Nat.toDigits 10 n).map Char.toNat = (lsd 10 n).reverse.map dg := fun n => by
  induction n using Nat.strongRecOn with
  | _ n ih =>
    by_cases h : n < 10
    · rw [Nat.toDigits_of_lt_base h, lsd_lt h]
      show [n.digitChar.toNat] = [dg n]
      rw [dg_char h]
    · rw [Nat.toDigits_of_base_le (by decide) (by omega), lsd_ge (by decide) (by omega), List.map_append, ih (n / 10) (by omega), List.reverse_cons, List.map_append]
      show _ ++ [(n % 10).digitChar.toNat] = _ ++ [dg (n % 10)]
      rw [dg_char (by omega)]
theorem of_cps (s : String) : (Str.ofString s).cps.toList = s.toList.map Char.toNat := by
  show (cpsOfBytes 0 0 s.toByteArray.data.toList).toArray.toList = _
  rw [cpsOfBytes_string]
theorem nat_txt (n : Nat) : Str.ofString n.repr = txt (lsd 10 n).reverse := str_ext (by
  rw [of_cps, txt_cps]
  unfold Nat.repr
  rw [String.toList_ofList]
  exact digits_lsd n)
theorem numT_str (i : Int) : Str.ofString (toString i) = numT 10 i := by
  cases i with
  | ofNat m =>
    show Str.ofString m.repr = _
    unfold numT
    rw [if_neg (show ¬ Int.ofNat m < 0 from Int.not_lt.mpr (Int.natCast_nonneg m)), nat_txt]
    rfl
  | negSucc m =>
    show Str.ofString ("-" ++ m.succ.repr) = _
    unfold numT
    rw [if_pos (by omega)]
    refine str_ext ?_
    rw [of_cps, String.toList_append, List.map_append, app_cps, dash_cps]
    have e : m.succ.repr.toList.map Char.toNat = (txt (lsd 10 m.succ).reverse).cps.toList := by rw [← nat_txt, of_cps]
    rw [e]
    rfl
/-! ### repr(x) of an instance with its own __repr__ -/
def rReprO (C : Addr) (sp : Sp) (E : XK) : List V → Hp → VK → Prop := fun xs H Q => ∃ (a dx : Addr) (fs : List (Str × V)), xs = [.ref a] ∧ H a = some (.ins C dx fs) ∧ sp [.ref a] H (fun v H' => ∃ x : Str, v = .str x ∧ Q (.str x) H') E
theorem call_reprO {X : Cx} {CX : CXT} {k : Nat} {C f : Addr} {fd : FuncData} {ps : List Str} {sp : Sp} {E : XK} (F : FnOk X.prog X.w X.K X.mg X.base CX k f fd ps sp) (hs : PySem.W.findIn X.K (.ref C) "__repr__" = some (some (.ref f))) (hf : PySem.W.isFn X.K (.ref f) = true) (hb : Binds X.K fd ps []) (hx : Passes CX X E) (hr : Room (k + 1) X.A) : CallR X (.builtin "repr") (rReprO C sp E) := by
  intro pins s σ H xs us Q I r h
  obtain ⟨a, dx, fs, rfl, ha, hq⟩ := h
  obtain ⟨u, rfl, r1⟩ := vals1 r
  cases (show u = Value.ref a from r1)
  obtain ⟨mA, J, _⟩ := ins_get I.hok ha
  obtain ⟨od, J, _⟩ := J.look
  obtain ⟨m, fr⟩ := I.fr
  have hr1 : Room k X.A.in1 := hr.in1
  have hl : ([Value.ref a] ++ []).length = ps.length := (show ([V.ref a] : List V).length = _ from F.len _ _ _ _ hq)
  refine PySem.W.repr_K hr1.units0 fr I.ok.mod.kin J hs hf (wpAny_call (codeAny_mono (F.run X.A.in1 X.stack s H ⟨[.ref a], []⟩ [.ref a] [.ref a] _ E hr1 I.env0.in1 (hb s [.ref a] I.kIn hl) (.cons rfl .nil) hq) fun res s' hres => ?_))
  match res, hres with
  | .error er, hres => exact hx pins σ H s er s' I hres
  | .ok .next, hres => exact hres.elim
  | .ok .brk, hres => exact hres.elim
  | .ok .cont, hres => exact hres.elim
  | .ok (.ret u), hres =>
    obtain ⟨z, H', I', rz, x, rfl, q⟩ := I.after hres
    obtain ⟨t, rfl⟩ := rz
    exact ⟨.str x, H', I', ⟨t, rfl⟩, q⟩
end MM
namespace MM
open PySem PySem.Spec PySem.Calls PyProof.Rows L2
/-! ### x in [..] where a comparison runs code of its own -/
section
variable {prog : Program} {w : World} {A : Around} {R : Result → Shared → Prop}
theorem in_loopG (l : Addr) (x : Value) (N : Nat) (B : Nat → Bool) (Iv : Nat → Shared → Prop)
    (hl : ∀ i s, Iv i s → ∃ (its : Array Value) (n : Nat), s.heap.get? l = some { cls := .type "list", data := .seq its n } ∧ its.size = N ∧ ∀ h : i < its.size, wpAny (model prog w) A.in1 (eqBool its[i] x) (fun r s' => r = B i ∧ Iv (i + 1) s') (fun e s' => R (.error e) s') s)
    (fT : ∀ i s, i < N → B i = true → Iv (i + 1) s → R (.ok (.ret (.bool true))) s) (fF : (∀ j, j < N → B j = false) → ∀ s, Iv N s → R (.ok (.ret (.bool false))) s) (k : Nat) :
    ∀ i : Nat, N - i = k → i ≤ N → (∀ j, j < i → B j = false) → ∀ s, Iv i s →
      wpAny (model prog w) A.in1 (Builtin.«list.__contains__.loop» ⟨[.ref l, x, rawInt i], []⟩) (GQ.FinOf prog w A R) (fun e s' => R (.error e) s') s := by
  induction k with
  | zero =>
    intro i hk hi hno s h
    obtain ⟨its, n, h1, hs, _⟩ := hl _ _ h
    have ei : i = N := by omega
    subst ei
    have hR := fF hno s h
    obtain ⟨hp, g, d, tk, os⟩ := s
    wp_walk using wpAny_loadPart' h1
    have e1 : its[((i : Nat) : Int).toNat]? = none := by simp; omega
    rw [e1]
    wp_walk
    exact hR
  | succ k ih =>
    intro i hk hi hno s h
    obtain ⟨its, n, h1, hs, turn⟩ := hl _ _ h
    have hlt : i < its.size := by omega
    have ht := turn hlt
    obtain ⟨hp, g, d, tk, os⟩ := s
    wp_walk using wpAny_loadPart' h1
    have e1 : its[((i : Nat) : Int).toNat]? = some its[i] := by simp [hlt]
    have hc : ((i : Int) + 1) = ((i + 1 : Nat) : Int) := by omega
    rw [e1]
    refine wpAny_bind (wpAny_mono ht (fun r s2 h2 => ?_) fun _ _ z => z)
    obtain ⟨hr, h2⟩ := h2
    cases hb : B i with
    | true =>
      rw [hb] at hr
      subst hr
      have hR := fT i s2 (by omega) hb h2
      obtain ⟨hp2, g2, d2, tk2, os2⟩ := s2
      wp_walk
      exact hR
    | false =>
      rw [hb] at hr
      subst hr
      have hrec := ih (i + 1) (by omega) (by omega) (fun j hj => by
        by_cases e : j = i
        · subst e
          exact hb
        · exact hno j (by omega)) s2 h2
      obtain ⟨hp2, g2, d2, tk2, os2⟩ := s2
      wp_walk
      rw [hc]
      exact ⟨plainId_quiet PySem.MeetsSeq.plain_contains_loop _, codeAny_builtin PySem.MeetsSeq.entry_contains_loop (by
        rw [Around.under_plainId PySem.MeetsSeq.plain_contains_loop _]
        exact hrec)⟩
theorem in_listG {E : Value → Shared → Prop} {s : Shared} {Q : Value → Shared → Prop} (l : Addr) (x : Value) (N : Nat) (B : Nat → Bool) (Iv : Nat → Shared → Prop)
    (hl : ∀ i s, Iv i s → ∃ (its : Array Value) (n : Nat), s.heap.get? l = some { cls := .type "list", data := .seq its n } ∧ its.size = N ∧ ∀ h : i < its.size, wpAny (model prog w) A.in1 (eqBool its[i] x) (fun r s' => r = B i ∧ Iv (i + 1) s') E s)
    (fT : ∀ i s, i < N → B i = true → Iv (i + 1) s → Q (.bool true) s) (fF : (∀ j, j < N → B j = false) → ∀ s, Iv N s → Q (.bool false) s) (h : Iv 0 s) : wpAny (model prog w) A (compareOp .In x (.ref l)) Q E s := by
  obtain ⟨its, n, h1, _, _⟩ := hl _ _ h
  show wpAny _ A (do return .bool (← contains (.ref l) x)) Q E s
  refine wpAny_bind (wpAny_contains_slot ⟨_, h1, rfl⟩ F.slot_list_contains (wpAny_mono (GQ.call_here (Q := fun v s' => ∃ b, v = .bool b ∧ Q (.bool b) s') F.slot_list_contains ⟨_, h1, rfl⟩ F.entry_list_contains (F.args_list_contains_2 _ _) ?_) (fun v s' hv => ?_) fun _ _ e => e))
  · have go := in_loopG (prog := prog) (w := w) (A := A) (R := wants (fun v s' => ∃ b, v = .bool b ∧ Q (.bool b) s') E) l x N B Iv hl (fun i s hi hb q => ⟨true, rfl, fT i s hi hb q⟩) (fun hno s q => ⟨false, rfl, fF hno s q⟩) (N - 0) 0 rfl (Nat.zero_le _) (fun j hj => absurd hj (Nat.not_lt_zero j)) s h
    obtain ⟨hp, g, d, tk, os⟩ := s
    wp_walk
    exact ⟨plainId_quiet PySem.MeetsSeq.plain_contains_loop _, codeAny_builtin PySem.MeetsSeq.entry_contains_loop (by
      rw [Around.under_plainId PySem.MeetsSeq.plain_contains_loop _]
      exact go)⟩
  · obtain ⟨b, rfl, hq⟩ := hv
    exact wpAny_truthy_bool (wpAny_pure hq)
end
/-- == inside a builtin, with either answer: it may run code, and the heap may grow -/
def EqB (X : Cx) (n : Nat) (D : V → V → Hp → Bool → Prop) : Prop :=
  ∀ (A : Around) (pins : List (Addr × Obj)) (s : Shared) (σ : L2.St) (H : Hp) (x y : V) (u v : Value) (b : Bool), L2.Sub X n A → Inv X pins σ H s → RelV x u → RelV y v → D x y H b →
    wpAny (model X.prog X.w) A (eqBool u v) (fun r s' => r = b ∧ ∃ H', Inv X pins σ H' s' ∧ Ext H H') X.xe s
/-- x in [..]: B i tells whether the i-th thing is == x -/
def rInG (D : V → V → Hp → Bool → Prop) : R2 := fun x y H Q => ∃ (p : Addr) (xs : List V) (B : Nat → Bool), y = .ref p ∧ H p = some (.lst xs) ∧ (∀ i z, xs[i]? = some z → ∀ H', Ext H H' → D z x H' (B i)) ∧ ∀ H', Ext H H' → Q (.bl ((List.range xs.length).any B)) H'
theorem op_inG {X : Cx} {n : Nat} {D : V → V → Hp → Bool → Prop} (h : EqB X n D) (hr : Room (n + 1) X.A) : OpR X (compareOp .In) (rInG D) := by
  intro pins s σ H x y v u Q I rx ry hq
  obtain ⟨p, xs, B, rfl, hp, hD, q⟩ := hq
  cases (show u = Value.ref p from ry)
  have sb : L2.Sub X (n + 1) X.A := ⟨hr, rfl⟩
  refine in_listG (A := X.A) p v xs.length B (fun _ s' => ∃ H', Inv X pins σ H' s' ∧ Ext H H') ?_ ?_ ?_ ⟨H, I, Ext.rfl'⟩
  · rintro i s' ⟨H', I', e⟩
    obtain ⟨z, its, k, r, ek⟩ := I'.hok p _ (e _ _ hp)
    refine ⟨its.toArray, k, ek, by rw [List.size_toArray, ← r.length], fun h1 => ?_⟩
    have hi : i < its.length := by simpa using h1
    have hx : i < xs.length := by rw [r.length]; exact hi
    obtain ⟨w, hw, rw'⟩ := r.get (List.getElem?_eq_getElem hx)
    have ew : its.toArray[i] = w := by
      rw [List.getElem?_eq_getElem hi] at hw
      simpa using Option.some.inj hw
    rw [ew]
    refine wpAny_mono (h X.A.in1 pins s' σ H' _ x w v (B i) sb.in1 I' rw' rx (hD i _ (List.getElem?_eq_getElem hx) H' e)) (fun c s2 z2 => ?_) fun _ _ y => y
    obtain ⟨hc, H2, I2, e2⟩ := z2
    exact ⟨hc, H2, I2, e.trans e2⟩
  · rintro i s' hi hb ⟨H', I', e⟩
    refine ⟨.bl true, H', I', rfl, ?_⟩
    have z := q H' e
    have ea : (List.range xs.length).any B = true := List.any_eq_true.mpr ⟨i, List.mem_range.mpr hi, hb⟩
    rw [ea] at z
    exact z
  · rintro hno s' ⟨H', I', e⟩
    refine ⟨.bl false, H', I', rfl, ?_⟩
    have z := q H' e
    have ea : (List.range xs.length).any B = false := by
      rw [List.any_eq_false]
      intro j hj
      rw [hno j (List.mem_range.mp hj)]
      decide
    rw [ea] at z
    exact z
end MM
namespace MM
open PySem PySem.Spec PySem.Calls PyProof.Rows L2
open AutoSeq1 (wpAny_loadPart')
/-! ### plain things == an instance: they decline, the instance's own __eq__ is asked -/
section
theorem int_dec_b (b : Bool) (l C dx : Addr) : Meets (Builtin.«int.__eq__» ⟨[.bool b, .ref l], []⟩) (fun _ R s => s.heap.get? l = some (PySem.W.instObj C dx) ∧ R (.ok (.ret .notImplemented)) s) :=
  .of_wp fun prog w A R s h => by obtain ⟨hp, g, d, tk, os⟩ := s; obtain ⟨hl, h⟩ := h; wp_walk using wpAny_loadPart' hl, wpAny_load hl; exact ⟨_, rfl, h⟩
theorem int_dec_i (b : Int) (u : Tok) (l C dx : Addr) : Meets (Builtin.«int.__eq__» ⟨[.int b u, .ref l], []⟩) (fun _ R s => s.heap.get? l = some (PySem.W.instObj C dx) ∧ R (.ok (.ret .notImplemented)) s) :=
  .of_wp fun prog w A R s h => by obtain ⟨hp, g, d, tk, os⟩ := s; obtain ⟨hl, h⟩ := h; wp_walk using wpAny_loadPart' hl, wpAny_load hl; exact ⟨_, rfl, h⟩
theorem str_dec_s (b : Str) (u : Tok) (l C dx : Addr) : Meets (Builtin.«str.__eq__» ⟨[.str b u, .ref l], []⟩) (fun _ R s => s.heap.get? l = some (PySem.W.instObj C dx) ∧ R (.ok (.ret .notImplemented)) s) :=
  .of_wp fun prog w A R s h => by obtain ⟨hp, g, d, tk, os⟩ := s; obtain ⟨hl, h⟩ := h; wp_walk using wpAny_loadPart' hl, wpAny_load hl; exact ⟨_, rfl, h⟩
end
section
variable {prog : Program} {w : World} {A : Around} {E : Value → Shared → Prop} {s : Shared} {K : PySem.W.Frag} {x C L f dx : Addr} {h₀ : Heap} {m : Str → Option Value} {od : Option Obj} {a : Value} {T : String}
/-- richCompare a x where a is of a built-in type and declines -/
theorem rc_back {Q : Value → Shared → Prop} (hu : A.units < cLine) (F : Fr h₀ L s.heap m) (X₀ : K.In h₀) (I : PySem.W.InstAt s.heap x (PySem.W.instObj C dx) C od) (ha : s.TypeIs a T) (hsub : PySem.W.subIn K (.ref C) (.type T) = some false)
    (one : wpAny (model prog w) A (tryCompare a "__eq__" (.ref x)) (fun r s' => r = none ∧ s' = s) E s)
    (hs : PySem.W.findIn K (.ref C) "__eq__" = some (some (.ref f))) (hf : PySem.W.isFn K (.ref f) = true)
    (h : wpAny (model prog w) A (call (.ref f) [.ref x, a]) (PySem.W.CmpBack Q) E s) : wpAny (model prog w) A (richCompare .Eq a (.ref x)) Q E s := by
  have X := X₀.keeps F.keep
  have two : wpAny (model prog w) A (tryCompare (.ref x) "__eq__" a) (fun r s' => ∃ v, r = some v ∧ Q v s') E s := by
    unfold tryCompare
    refine wpAny_bind (PySem.W.ifBound_K X I hs hf (wpAny_mono h (fun v s' hv => ?_) fun _ _ e => e))
    cases v <;> first | exact hv.elim | exact wpAny_pure ⟨_, rfl, hv⟩
  simp only [richCompare, cmpInfo, ha.oneThing_none]
  refine wpAny_holding (wpAny_bind (wpAny_cRoomFor hu ?_))
  refine wpAny_bind (wpAny_typeOf ha (wpAny_bind (I.type.here ?_)))
  have hne : (Value.type T != Value.ref C) = true := rfl
  simp only [hne, if_true]
  refine wpAny_bind ((PySem.W.looks_subIn X hsub).here ?_)
  simp only [Bool.false_eq_true, if_false, Bool.not_false, if_true]
  refine wpAny_bind (m := tryCompare a _ (.ref x)) (wpAny_mono one (fun r s1 z => ?_) fun _ _ e => e)
  obtain ⟨z1, z2⟩ := z
  subst z1
  subst z2
  refine wpAny_bind (m := tryCompare (.ref x) _ a) (wpAny_mono two (fun r s2 z => ?_) fun _ _ e => e)
  obtain ⟨v, rfl, hq⟩ := z
  exact wpAny_pure hq
end

/-! ### == inside a builtin by an own __eq__, either way about -/
/-- what is of a built-in type and declines beside an instance -/
inductive Pl (K : PySem.W.Frag) (H : Hp) : V → String → Prop where
  | non : Pl K H .non "NoneType"
  | bl (b : Bool) : Pl K H (.bl b) "bool"
  | int (i : Int) : Pl K H (.int i) "int"
  | str (x : Str) : Pl K H (.str x) "str"
  | tup {a : Addr} {xs : List V} (h : H a = some (.tup xs)) : Pl K H (.ref a) "tuple"
  | lst {a : Addr} {xs : List V} (h : H a = some (.lst xs)) : Pl K H (.ref a) "list"
section
variable {prog : Program} {w : World} {A : Around} {E : Value → Shared → Prop} {s : Shared} {K : PySem.W.Frag} {x l C dx : Addr} {od : Option Obj}
theorem tup_dec {items : Array Value} {Q : Option Value → Shared → Prop} (X : K.In s.heap) (I : PySem.W.InstAt s.heap x (PySem.W.instObj C dx) C od) (hl : s.heap.IsTuple l items) (hsub : PySem.W.subIn K (.ref C) (.type "tuple") = some false) (q : Q none s) :
    wpAny (model prog w) A (tryCompare (.ref l) "__eq__" (.ref x)) Q E s := by
  obtain ⟨⟨cls, dd, data, sl⟩, ho, hc, n, hd⟩ := id hl
  simp only at hc hd
  subst hc hd
  refine wpAny_tryCompare_declines ⟨_, ho, rfl⟩ PySem.F.slot_tuple_eq (GQ.call_here PySem.F.slot_tuple_eq ⟨_, ho, rfl⟩ PySem.F.entry_tuple_eq (PySem.F.args_tuple_eq_2 _ _) ?_)
  have L : PySem.W.Looks (model prog w) s.heap (isInstance (.ref x) (.type "tuple")) false := I.type.andThen (PySem.W.looks_subIn X hsub)
  obtain ⟨hp, g, d, tk, os⟩ := s
  wp_walk using wpAny_loadPart' ho, L.here
  exact ⟨rfl, q⟩
theorem lst_dec {items : Array Value} {n : Nat} {Q : Option Value → Shared → Prop} (X : K.In s.heap) (I : PySem.W.InstAt s.heap x (PySem.W.instObj C dx) C od) (ho : s.heap.get? l = some { cls := .type "list", data := .seq items n }) (hsub : PySem.W.subIn K (.ref C) (.type "list") = some false) (q : Q none s) :
    wpAny (model prog w) A (tryCompare (.ref l) "__eq__" (.ref x)) Q E s := by
  refine wpAny_tryCompare_declines ⟨_, ho, rfl⟩ PySem.F.slot_list_eq (GQ.call_here PySem.F.slot_list_eq ⟨_, ho, rfl⟩ PySem.F.entry_list_eq (PySem.F.args_list_eq_2 _ _) ?_)
  have L : PySem.W.Looks (model prog w) s.heap (isInstance (.ref x) (.type "list")) false := I.type.andThen (PySem.W.looks_subIn X hsub)
  obtain ⟨hp, g, d, tk, os⟩ := s
  wp_walk using wpAny_loadPart' ho, L.here
  exact ⟨rfl, q⟩
end
theorem pl_dec {X : Cx} {pins : List (Addr × Obj)} {σ : L2.St} {H : Hp} {s : Shared} {A : Around} {z : V} {u : Value} {T : String} {x C dx : Addr} {od : Option Obj} {E : Value → Shared → Prop} (I : Inv X pins σ H s) (p : Pl X.K H z T) (r : RelV z u) (J : PySem.W.InstAt s.heap x (PySem.W.instObj C dx) C od)
    (hsub : PySem.W.subIn X.K (.ref C) (.type T) = some false) : s.TypeIs u T ∧ wpAny (model X.prog X.w) A (tryCompare u "__eq__" (.ref x)) (fun r s' => r = none ∧ s' = s) E s := by
  cases p with
  | non =>
    cases (show u = Value.none from r)
    exact ⟨rfl, wpAny_tryCompare_declines rfl PySem.F.slot_NoneType_eq (call_gives PySem.F.slot_NoneType_eq rfl PySem.F.entry_NoneType_eq (PySem.F.args_NoneType_eq_2 _ _) (SeqAt.NoneType___eq___none_ref_0 x) ⟨rfl, rfl, rfl⟩)⟩
  | bl b =>
    cases (show u = Value.bool b from r)
    exact ⟨rfl, wpAny_tryCompare_declines rfl PySem.F.slot_bool_eq (call_meets PySem.F.slot_bool_eq rfl PySem.F.entry_int_eq (PySem.F.args_int_eq_2 _ _) (int_dec_b b x C dx) ⟨J.at_, rfl, rfl, rfl⟩)⟩
  | int i =>
    obtain ⟨t, rfl⟩ := r
    exact ⟨typeIs_int s i t, wpAny_tryCompare_declines (typeIs_int s i t) PySem.F.slot_int_eq (call_meets PySem.F.slot_int_eq (typeIs_int s i t) PySem.F.entry_int_eq (PySem.F.args_int_eq_2 _ _) (int_dec_i i t x C dx) ⟨J.at_, rfl, rfl, rfl⟩)⟩
  | str y =>
    obtain ⟨t, rfl⟩ := r
    exact ⟨typeIs_str s y t, wpAny_tryCompare_declines (typeIs_str s y t) PySem.F.slot_str_eq (call_meets PySem.F.slot_str_eq (typeIs_str s y t) PySem.F.entry_str_eq (PySem.F.args_str_eq_2 _ _) (str_dec_s y t x C dx) ⟨J.at_, rfl, rfl, rfl⟩)⟩
  | tup h =>
    rename_i a xs
    cases (show u = Value.ref a from r)
    obtain ⟨its, r2, e, z⟩ := I.tuple (SqT.of h)
    refine ⟨?_, tup_dec I.kIn J e hsub ⟨rfl, rfl⟩⟩
    obtain ⟨o, ho, hc, n, hd⟩ := e
    exact ⟨o, ho, hc⟩
  | lst h =>
    rename_i a xs
    cases (show u = Value.ref a from r)
    obtain ⟨z, its, k, r2, e⟩ := I.hok a _ h
    exact ⟨⟨_, e, rfl⟩, lst_dec I.kIn J e hsub ⟨rfl, rfl⟩⟩
def DOwn (K : PySem.W.Frag) (C : Addr) (sp : Sp) (E : XK) : V → V → Hp → Bool → Prop := fun z x H b =>
  (∃ (a dx : Addr) (fs : List (Str × V)), z = .ref a ∧ H a = some (.ins C dx fs) ∧ ((x = .ref a ∧ b = true) ∨ (x ≠ .ref a ∧ ∃ t, TyX K H x t ∧ PySem.W.notFirst K C t = true ∧ sp [z, x] H (fun v H' => v = .bl b ∧ Ext H H') E))) ∨
  (∃ (a dx : Addr) (fs : List (Str × V)) (T : String), x = .ref a ∧ H a = some (.ins C dx fs) ∧ Pl K H z T ∧ PySem.W.subIn K (.ref C) (.type T) = some false ∧ sp [x, z] H (fun v H' => v = .bl b ∧ Ext H H') E)
theorem rel_ne {x : V} {v : Value} {a : Addr} (r : RelV x v) (h : x ≠ .ref a) : (Value.ref a == v) = false ∧ (v == Value.ref a) = false := by
  constructor
  · rw [beq_eq_false_iff_ne]
    intro z
    subst z
    apply h
    cases x <;> first | (cases r; rfl) | (obtain ⟨_, z⟩ := r; cases z) | (cases r)
  · rw [beq_eq_false_iff_ne]
    intro z
    subst z
    apply h
    cases x <;> first | (cases r; rfl) | (obtain ⟨_, z⟩ := r; cases z) | (cases r)
theorem env_sub {X : Cx} {n : Nat} {A : Around} {pins : List (Addr × Obj)} {σ : L2.St} {H : Hp} {s : Shared} (sb : L2.Sub X n A) (I : Inv X pins σ H s) : Env0 X.prog X.w X.K X.mg X.base A X.stack s H := by
  have e := I.env0
  exact ⟨by rw [sb.fr]; exact e.frames, e.mod, e.bs, e.bsz, e.funs, e.frf, e.hok, e.bare⟩
theorem eqB_own {X : Cx} {n : Nat} {CX : CXT} {C f : Addr} {fd : FuncData} {ps : List Str} {sp : Sp} {E : XK} (F : FnOk X.prog X.w X.K X.mg X.base CX n f fd ps sp)
    (hs : PySem.W.findIn X.K (.ref C) "__eq__" = some (some (.ref f))) (hf : PySem.W.isFn X.K (.ref f) = true) (hb : Binds X.K fd ps []) (hx : Passes CX X E) : EqB X n (DOwn X.K C sp E) := by
  intro A pins s σ H x y u v b sb I rx ry d
  have e0 := env_sub sb I
  obtain ⟨m, hF⟩ := I.fr
  -- the call of the own __eq__
  have run : ∀ (p q : V) (p' q' : Value), RelV p p' → RelV q q' → sp [p, q] H (fun v H' => v = .bl b ∧ Ext H H') E →
      wpAny (model X.prog X.w) A (call (.ref f) [p', q']) (PySem.W.CmpBack (fun v s' => v = .bool b ∧ ∃ H', Inv X pins σ H' s' ∧ Ext H H')) X.xe s := by
    intro p q p' q' rp rq hsp
    have hl := F.len _ _ _ _ hsp
    refine wpAny_call (codeAny_mono (F.run A X.stack s H ⟨[p', q'], []⟩ [p', q'] [p, q] _ E sb.room e0 (by
      have := hb s [p', q'] I.kIn (by simpa using hl)
      simpa using this) (.cons rp (.cons rq .nil)) hsp) fun r s' hq => ?_)
    cases r with
    | error e => exact hx pins σ H s e s' I hq
    | ok fl =>
      cases fl with
      | ret w =>
        obtain ⟨z, H', I', rz, ez, ex⟩ := I.after hq
        subst ez
        cases (show w = Value.bool b from rz)
        exact ⟨rfl, H', I', ex⟩
      | next => exact False.elim hq
      | brk => exact False.elim hq
      | cont => exact False.elim hq
  rcases d with ⟨a, dx, fs, rfl, ha, hh⟩ | ⟨a, dx, fs, T, rfl, ha, pl, hsub, hsp⟩
  · cases (show u = Value.ref a from rx)
    rcases hh with ⟨rfl, rfl⟩ | ⟨hne, t, ty, nf, hsp⟩
    · cases (show v = Value.ref a from ry)
      exact SeqAt.EqAt.same (A := A) (s := s) (.ref a) X.prog X.w X.xe _ ⟨rfl, H, I, Ext.rfl'⟩
    · obtain ⟨mA, J, _⟩ := ins_get I.hok ha
      obtain ⟨od, J, _⟩ := J.look
      obtain ⟨P, kx, hP, _⟩ := kit_of I ry ty
      unfold eqBool
      refine wpAny_holding ?_
      rw [(rel_ne ry hne).1]
      simp only [Bool.false_eq_true, if_false]
      refine wpAny_bind (PySem.W.cmp_K (op := .Eq) sb.room.units0 hF I.ok.mod.kin J (kx.ty _ _ I.kIn hP) nf hs hf (wpAny_mono (run (.ref a) y (.ref a) v rfl ry hsp) (fun w s' hw => ?_) fun _ _ z => z))
      cases w with
      | bool c =>
        obtain ⟨hc, q⟩ := (show Value.bool c = .bool b ∧ _ from hw)
        exact wpAny_truthy_bool ⟨Value.bool.inj hc, q⟩
      | notImplemented => exact hw.elim
      | _ =>
        obtain ⟨hc, q⟩ := hw
        cases hc
  · cases (show v = Value.ref a from ry)
    obtain ⟨mA, J, _⟩ := ins_get I.hok ha
    obtain ⟨od, J, _⟩ := J.look
    obtain ⟨ht, dec⟩ := pl_dec (A := A) (E := X.xe) I pl rx J hsub
    have hne : x ≠ .ref a := by
      rintro rfl
      cases pl with
      | tup h =>
        obtain ⟨its, r2, e, z⟩ := I.tuple (SqT.of h)
        obtain ⟨o, ho, hc, _⟩ := e
        rw [J.at_] at ho
        cases ho
        cases hc
      | lst h =>
        rw [ha] at h
        cases h
    unfold eqBool
    refine wpAny_holding ?_
    rw [(rel_ne rx hne).2]
    simp only [Bool.false_eq_true, if_false]
    have go : wpAny (model X.prog X.w) A (richCompare .Eq u (.ref a)) (fun w s' => wpAny (model X.prog X.w) A (truthOfDropped w) (fun r s' => r = b ∧ ∃ H', Inv X pins σ H' s' ∧ Ext H H') X.xe s') X.xe s := by
      refine rc_back sb.room.units0 hF I.ok.mod.kin J ht hsub dec hs hf (wpAny_mono (run (.ref a) x (.ref a) u rfl rx hsp) (fun w s' hw => ?_) fun _ _ z => z)
      cases w with
      | bool c =>
        obtain ⟨hc, q⟩ := (show Value.bool c = .bool b ∧ _ from hw)
        exact wpAny_truthy_bool ⟨Value.bool.inj hc, q⟩
      | notImplemented => exact hw.elim
      | _ =>
        obtain ⟨hc, q⟩ := hw
        cases hc
    cases u <;> exact wpAny_bind go
theorem op_inO {X : Cx} {CX : CXT} {k j : Nat} {C : Addr} {qual : Str} {st : Stmt} {ps : List Str} {sp : Sp} {E : XK} (c : Cm X.prog X.w X.K X.mg X.base CX k C "__eq__" qual st ps sp) (b : Bd "__eq__" qual st ps) (hx : Passes CX X E) (hr : Room j X.A) (hk : k + 1 ≤ j) :
    OpR X (compareOp .In) (rInG (DOwn X.K C sp E)) := by
  obtain ⟨f, fd, F, M, hc, G⟩ := c.ex
  exact op_inG (eqB_own G M.1 M.2 (F.bindsN b) hx) (hr.mono hk)
/-- the built-in types come of no class of the text -/
theorem sub_T {K : PySem.W.Frag} {C : Addr} {T : String} (ms : List String) (e : fastBuiltinMro T = some (ms.map Value.type)) : PySem.W.subIn K (.type T) (.ref C) = some false := by
  show (fastBuiltinMro T).map (·.contains (.ref C)) = some false
  rw [e]
  show some ((ms.map Value.type).contains (.ref C)) = some false
  congr 1
  rw [List.contains_eq_any_beq]
  rw [List.any_eq_false]
  intro x hx
  obtain ⟨m, _, rfl⟩ := List.mem_map.mp hx
  simp
theorem sub_ty {K : PySem.W.Frag} {C : Addr} {H : Hp} {z : V} {T : String} (p : Pl K H z T) : PySem.W.subIn K (.type T) (.ref C) = some false := by
  cases p with
  | non => exact sub_T ["NoneType", "object"] (by decide +kernel)
  | bl b => exact sub_T ["bool", "int", "object"] (by decide +kernel)
  | int i => exact sub_T ["int", "object"] (by decide +kernel)
  | str x => exact sub_T ["str", "object"] (by decide +kernel)
  | tup h => exact sub_T ["tuple", "object"] (by decide +kernel)
  | lst h => exact sub_T ["list", "object"] (by decide +kernel)
theorem Pl.tyx {K : PySem.W.Frag} {H : Hp} {z : V} {T : String} (p : Pl K H z T) : TyX K H z (.type T) := by
  cases p with
  | non => exact .base .non
  | bl b => exact .base (.bl b)
  | int i => exact .base (.int i)
  | str x => exact .base (.str x)
  | tup e => exact .base (.tup e)
  | lst e => exact .base (.lst e)
theorem Pl.first {K : PySem.W.Frag} {C : Addr} {H : Hp} {z : V} {T : String} (p : Pl K H z T) : PySem.W.notFirst K C (.type T) = true := by
  unfold PySem.W.notFirst
  rw [sub_ty p]
  simp
end MM
namespace MM
open PySem PySem.Spec PySem.Calls PyProof.Rows L2
/-! ### truths as texts -/
def blS (b : Bool) : Str := if b then "True" else "False"
section
variable {prog : Program} {w : World} {A : Around} {E : Value → Shared → Prop} {s : Shared}
open Builtin Builtin.Str in
theorem strOf_bool {b : Bool} {Q : Value → Shared → Prop} (h : Q (.str (blS b) s.toks) { s with toks := s.toks + 1 }) : wpAny (model prog w) A (PySem.Builtin.Str.strOf (.bool b)) Q E s := by
  unfold PySem.Builtin.Str.strOf
  rw [show isExactStr (.bool b) = false from rfl]
  simp only [cRoomFor, show [Value.bool b].any Value.onHeap = false from rfl, Bool.false_eq_true, if_false, pure_bind]
  refine wpAny_bind (m := callSpecial? _ (PySem.Str.ofString "__str__")) (wpAny_callSpecial?_slot (name := PySem.Str.ofString "__str__") (PySem.typeIs_bool s b) PySem.F.slot_bool_str (call_object_str_gives (PySem.typeIs_bool s b) PySem.F.slot_bool_str PySem.F.slot_bool_repr PySem.F.entry_bool_repr (PySem.F.args_bool_repr_1 _) (gives_bool_repr b) ?_ rfl (by cases b <;> decide)))
  exact wpAny_pure h
theorem str_of_bool {b : Bool} {Q : Value → Shared → Prop} (h : Q (.str (blS b) s.toks) { s with toks := s.toks + 1 }) : wpAny (model prog w) A (call (.type "str") [.bool b]) Q E s := by
  refine callType_codes (T := "str") (Bi := Builtin.«object.__init__») (Q₁ := fun r s₁ => ∃ y u, r = .str y u ∧ Q r s₁) PySem.F.called_str (PySem.F.typeCall_str_1 _) PySem.F.entry_object_init ?_ ?_
  · refine codeAny_of_tree ?_
    show wpAny _ A.in1.in1 (do checkBuiltinCall "str.__new__" ⟨[.type "str", .bool b], []⟩; again (.builtin "str.__new__" ⟨[.type "str", .bool b], []⟩)) _ _ s
    refine wpAny_bind (wpAny_of_eq (PySem.F.newCall_str_1 _) (wpAny_pure ⟨plainId_quiet (by decide +kernel) _, codeAny_builtin PySem.F.entry_str_new ?_⟩))
    rw [Around.under_plainId (by decide +kernel) _]
    rw [str_new_tree]
    refine wpAny_bind (wpAny_pure ?_)
    refine wpAny_bind (wpAny_of_eq isSubtype_str_str ?_)
    exact wpAny_bind (strOf_bool (wpAny_pure ⟨_, _, rfl, h⟩))
  · rintro obj s₁ ⟨y, u, rfl, hq⟩
    exact ⟨typeIs_str _ _ _, PySem.F.args_object_init_2 _ _, object_init_meets PySem.F.called_str.init.lookup PySem.F.called_str.made (by decide) prog w A.in1 _ s₁ ⟨typeIs_str _ _ _, rfl, hq⟩⟩
end
section
variable {X : Cx}
theorem call_str_bool : CallR X (.type "str") (fun xs H Q => ∃ b, xs = [.bl b] ∧ Q (.str (blS b)) H) := by
  intro pins s σ H xs us Q I r h
  obtain ⟨b, rfl, q⟩ := h
  obtain ⟨u, rfl, r1⟩ := vals1 r
  cases (show u = Value.bool b from r1)
  exact str_of_bool ⟨.str _, H, I.tok _, ⟨_, rfl⟩, q⟩
/-- str of a whole number or a truth -/
theorem call_strIB : CallR X (.type "str") (fun xs H Q => (∃ i : Int, xs = [.int i] ∧ i.natAbs.log2 < 1920 ∧ Q (.str (toString i)) H) ∨ ∃ b, xs = [.bl b] ∧ Q (.str (blS b)) H) := CallR.or call_str_int call_str_bool
/-- {x} of a truth -/
def tFmtB (te : TE) : TE := fun σ H Q => te σ H fun x H1 => ∃ b : Bool, x = .bl b ∧ Q (.str (blS b)) H1
theorem pe_fmtB {e : Expr} {te : TE} {pos : Pos} (he : PE X e te) : PE X (.FormattedValue e (-1) none pos) (tFmtB te) := by
  refine ⟨fun pins s σ H Q I h => ?_⟩
  refine wpAny_FormattedValue_plain (thn (he.run pins s σ H _ I h) fun v s1 hv => ?_)
  obtain ⟨x, H1, I1, r1, b, rfl, q⟩ := hv
  cases (show v = Value.bool b from r1)
  exact wpAny_formatField_bool ⟨.str (blS b), H1, I1.tok _, ⟨_, rfl⟩, q⟩
end
/-- str(x) of a whole number, a truth, or an instance with its own __str__ -/
@[irreducible] def rSA (C : Addr) (sp : Sp) (E : XK) : List V → Hp → VK → Prop := fun xs H Q => ((∃ i : Int, xs = [.int i] ∧ i.natAbs.log2 < 1920 ∧ Q (.str (toString i)) H) ∨ ∃ b, xs = [.bl b] ∧ Q (.str (blS b)) H) ∨ rStrO C sp E xs H Q
theorem sa_int {C : Addr} {sp : Sp} {E : XK} {H : Hp} {Q : VK} {i : Int} (h : i.natAbs.log2 < 1920) (q : Q (.str (toString i)) H) : rSA C sp E [.int i] H Q := by
  unfold rSA
  exact .inl (.inl ⟨i, rfl, h, q⟩)
theorem sa_bl {C : Addr} {sp : Sp} {E : XK} {H : Hp} {Q : VK} {b : Bool} (q : Q (.str (blS b)) H) : rSA C sp E [.bl b] H Q := by
  unfold rSA
  exact .inl (.inr ⟨b, rfl, q⟩)
theorem sa_own {C : Addr} {sp : Sp} {E : XK} {H : Hp} {Q : VK} {a dx : Addr} {fs : List (Str × V)} (e : H a = some (.ins C dx fs)) (q : sp [.ref a] H (fun v H' => ∃ x : Str, v = .str x ∧ Q (.str x) H') E) : rSA C sp E [.ref a] H Q := by
  unfold rSA
  exact .inr ⟨a, dx, fs, rfl, e, q⟩
theorem call_str_SA {X : Cx} {CX : CXT} {k : Nat} {C : Addr} {qual : Str} {st : Stmt} {ps : List Str} {sp : Sp} {E : XK} (c : Cm X.prog X.w X.K X.mg X.base CX k C "__str__" qual st ps sp) (b : Bd "__str__" qual st ps) (hr : Room (k + 2) X.A) (hx : Passes CX X E) :
    CallR X (.type "str") (rSA C sp E) := by
  obtain ⟨f, fd, F, M, hc, G⟩ := c.ex
  unfold rSA
  exact CallR.or call_strIB (call_strO G M.1 M.2 (F.bindsN b) hx hr)
theorem call_reprC {X : Cx} {CX : CXT} {k : Nat} {C : Addr} {qual : Str} {st : Stmt} {ps : List Str} {sp : Sp} {E : XK} (c : Cm X.prog X.w X.K X.mg X.base CX k C "__repr__" qual st ps sp) (b : Bd "__repr__" qual st ps) (hr : Room (k + 1) X.A) (hx : Passes CX X E) :
    CallR X (.builtin "repr") (rReprO C sp E) := by
  obtain ⟨f, fd, F, M, hc, G⟩ := c.ex
  exact call_reprO G M.1 M.2 (F.bindsN b) hx hr
theorem ln (xs : List V) (h : Nat.ble xs.length 1000 = true := by rfl) : xs.length ≤ sizeLine := Nat.le_trans (Nat.le_of_ble_eq_true h) (by decide)
end MM
namespace MM
open PySem PySem.Spec PySem.Calls PyProof.Rows L2
/-- an own class that comes of no built-in one -/
structure OwnC (K : PySem.W.Frag) (C : Addr) : Prop where
  iC : PySem.W.isClsIn K C = true
  tC : PySem.W.typeIn K (.ref C) = some (.type "type")
  bn : PySem.W.subIn K (.ref C) (.type "NoneType") = some false
  bb : PySem.W.subIn K (.ref C) (.type "bool") = some false
  bi : PySem.W.subIn K (.ref C) (.type "int") = some false
  bs : PySem.W.subIn K (.ref C) (.type "str") = some false
  bt : PySem.W.subIn K (.ref C) (.type "tuple") = some false
  bl : PySem.W.subIn K (.ref C) (.type "list") = some false
theorem OwnC.sub {K : PySem.W.Frag} {C : Addr} {H : Hp} {z : V} {T : String} (o : OwnC K C) (p : Pl K H z T) : PySem.W.subIn K (.ref C) (.type T) = some false := by
  cases p with
  | non => exact o.bn
  | bl _ => exact o.bb
  | int _ => exact o.bi
  | str _ => exact o.bs
  | tup _ => exact o.bt
  | lst _ => exact o.bl
theorem OwnC.kit {K : PySem.W.Frag} {C : Addr} {H : Hp} {z : V} {T : String} (o : OwnC K C) (p : Pl K H z T) : PySem.W.kitOne K (.type T) (.ref C) = some false := kit_no o.iC o.tC (by simp) (sub_ty p)
theorem Pl.ext {K : PySem.W.Frag} {H H' : Hp} {z : V} {T : String} (p : Pl K H z T) (e : Ext H H') : Pl K H' z T := by
  cases p with
  | non => exact .non
  | bl b => exact .bl b
  | int i => exact .int i
  | str x => exact .str x
  | tup h => exact .tup (e _ _ h)
  | lst h => exact .lst (e _ _ h)
theorem Pl.ne {K : PySem.W.Frag} {H : Hp} {z : V} {T : String} {a C dx : Addr} {fs : List (Str × V)} (p : Pl K H z T) (e : H a = some (.ins C dx fs)) : z ≠ .ref a := by
  rintro rfl
  cases p with
  | tup h =>
    rw [e] at h
    cases h
  | lst h =>
    rw [e] at h
    cases h
end MM
namespace MM
open PySem PySem.Spec PyProof.Rows L2
/-! ### a class called in a try, the names as they stand at the call -/
section
variable {X : Cx} {k j n d : Nat} {C f : Addr} {fd : FuncData} {ps ks : List Str} {sp : Sp} {dvs : List V} {ds : List Value} {x qual : Str} {st : Stmt} {p pos : Pos} {e : Expr} {es : List Expr} {kws : List Keyword} {t tk : TA} {W : WX}
theorem make_S {pins : List (Addr × Obj)} {σ : L2.St} {H : Hp} {s : Shared} {Q : VK} {us : List Value} {zs : List V} {bs : List Value} {kv : List (Str × Value)} (M : Mk X.K C f) (F : FnOk X.prog X.w X.K X.mg X.base (L2.CX X.prog X.w) k f fd ps sp) (hr : Room (k + 1) X.A) (ht : Takes X W) (I : Inv X pins σ H s)
    (hb : ∀ s', X.K.In s'.heap → BindsTo s' fd ⟨Value.ref (s.heap.objs.size + 1) :: us, kv⟩ (ps.zip bs)) (r2 : Vals zs bs)
    (h : sp zs (L2.upd (L2.upd H s.heap.objs.size (.own (s.heap.objs.size + 1))) (s.heap.objs.size + 1) (.ins C s.heap.objs.size [])) (fun v H2 => v = .non ∧ Q (.ref (s.heap.objs.size + 1)) H2) (fun c d H' => W c d σ H')) :
    wpAny (model X.prog X.w) X.A (call (.ref C) us kv) (EP X pins σ Q) X.xe s := by
  have J := Inv.made (C := C) I
  have go := F.run _ X.stack _ _ ⟨Value.ref (s.heap.objs.size + 1) :: us, kv⟩ bs zs _ _ (hr.make C us kv) (J.env0.make C us kv) (hb _ J.kIn) r2 h
  refine wpAny_call (make_map (f := f) I.kIn M.makes M.init (beq_iff_eq.mp M.fn) (codeAny_mono go fun res s' hq => ?_))
  match res, hq with
  | .error er, hq => exact ht er s' (XE.of_call J (fun _ _ _ z => z) hq)
  | .ok .next, hq => exact hq.elim
  | .ok .brk, hq => exact hq.elim
  | .ok .cont, hq => exact hq.elim
  | .ok (.ret u), hq =>
    obtain ⟨v, H3, K3, rv, ev, q3⟩ := J.after hq
    subst ev
    exact ⟨rv, ⟨V.ref (s.heap.objs.size + 1), H3, K3, rfl, q3⟩⟩
/-- C(e, ..) -/
theorem pe_ciS (c : Ci X.prog X.w X.K X.mg X.base (L2.CX X.prog X.w) k x C qual st dvs ps sp) (b : Bd1 "__init__" qual st ps n d dvs.length) (hd : dvs ≠ []) (hn : n + (dvs.length - d) = ps.length) (hr : Room j X.A) (hk : k + 1 ≤ j) (ht : Takes X W) (hg : Gl X x) (ha : PA X (e :: es) t)
    (hdb : (x == ("__debug__" : Str)) = false := by decide) (he : starEach (e :: es) X.env = (false, eval e X.env) :: starEach es X.env := by rfl) (hpl : (backTo pos (starEach es X.env)).any (·.1) = false := by rfl) :
    PE X (.Call (.Name x p) (e :: es) [] pos) (fun σ H Q => t σ H fun vs H1 => ∀ a dx, H1 a = none → H1 dx = none → dx ≠ a → sp (.ref a :: (vs ++ dvs.drop d)) (L2.upd (L2.upd H1 dx (.own a)) a (.ins C dx [])) (fun v H2 => v = .non ∧ Q (.ref a) H2) (fun c d H' => W c d σ H')) := by
  obtain ⟨f, fd, F, M, hm, G⟩ := c.ex
  obtain ⟨ds, r, bb⟩ := F.binds1 n d hd hn b
  refine ⟨fun pins s σ H Q I h => ?_⟩
  refine wpAny_Call_Name_kw (ld_glob I hg hm ?_ hdb)
  refine PySem.W.callWith_K (h₀ := X.base) I.ok.mod.kin M.kp (thn (ha.run pos pins s σ H _ I h) fun us s1 ⟨vs, H1, I1, rv, q⟩ => ⟨I1.kIn, ?_⟩) he hpl
  have hq := q (s1.heap.objs.size + 1) s1.heap.objs.size (I1.hok.fresh (Nat.le_succ _)) (I1.hok.fresh (Nat.le_refl _)) (Nat.ne_of_lt (Nat.lt_succ_self _))
  have r2 : Vals (V.ref (s1.heap.objs.size + 1) :: (vs ++ dvs.drop d)) (Value.ref (s1.heap.objs.size + 1) :: (us ++ ds)) := .cons rfl (rv.append r)
  refine make_S M G (hr.mono hk) ht I1 (fun s' hK => ?_) r2 hq
  exact bb s' (Value.ref (s1.heap.objs.size + 1) :: us) hK (r2.length.symm.trans (G.len _ _ _ _ hq))
/-- C(k = v, ..) -/
theorem pe_ciKS0 {g : {α : Type} → List α → List α → List α → List α} (c : Ci X.prog X.w X.K X.mg X.base (L2.CX X.prog X.w) k x C qual st dvs ps sp) (b : Kd qual st dvs.length 1 ks ps g) (hd : dvs ≠ []) (hr : Room j X.A) (hk : k + 1 ≤ j) (ht : Takes X W) (hg : Gl X x) (hkw : PK X kws tk)
    (hall : (backToKw pos (keywordEach kws X.env)).all (·.1.isSome) = true := by rfl) (hks : (backToKw pos (keywordEach kws X.env)).filterMap (·.1) = ks := by rfl) (hdb : (x == ("__debug__" : Str)) = false := by decide)
    (hpl : ((backTo pos (starEach [] X.env)).any (·.1) || (backToKw pos (keywordEach kws X.env)).any (·.1.isNone)) = false := by rfl) :
    PE X (.Call (.Name x p) [] kws pos) (fun σ H Q => tk σ H fun zs H1 => zs.length = ks.length ∧ ∀ a dx, H1 a = none → H1 dx = none → dx ≠ a → sp (g [.ref a] dvs zs) (L2.upd (L2.upd H1 dx (.own a)) a (.ins C dx [])) (fun v H2 => v = .non ∧ Q (.ref a) H2) (fun c d H' => W c d σ H')) := by
  obtain ⟨f, fd, F, M, hm, G⟩ := c.ex
  obtain ⟨its, hb⟩ := F.kbindsD 1 ks g hd b.rel b.bind
  refine ⟨fun pins s σ H Q I h => ?_⟩
  refine wpAny_Call_Name_kw (ld_glob I hg hm ?_ hdb)
  refine PySem.W.callWith_KW0 (h₀ := X.base) I.ok.mod.kin M.kp hall ?_ hpl
  refine thn (hkw.run pos pins s σ H _ I h) fun ws s1 ⟨zs, H1, I1, rz, l2, q⟩ => ⟨I1.kIn, ?_⟩
  rw [hks]
  have hq := q (s1.heap.objs.size + 1) s1.heap.objs.size (I1.hok.fresh (Nat.le_succ _)) (I1.hok.fresh (Nat.le_refl _)) (Nat.ne_of_lt (Nat.lt_succ_self _))
  have r2 := hb.rel (vs := [V.ref (s1.heap.objs.size + 1)]) (us := [Value.ref (s1.heap.objs.size + 1)]) (.cons rfl .nil) rz
  refine make_S (us := []) M G (hr.mono hk) ht I1 (fun s' hK => ?_) r2 hq
  exact hb.to s' [Value.ref (s1.heap.objs.size + 1)] ws hK rfl (rz.length.symm.trans l2)
/-- C(e, .., k = v, ..) -/
theorem pe_ciKS {g : {α : Type} → List α → List α → List α → List α} (c : Ci X.prog X.w X.K X.mg X.base (L2.CX X.prog X.w) k x C qual st dvs ps sp) (b : Kd qual st dvs.length (n + 1) ks ps g) (hd : dvs ≠ []) (hr : Room j X.A) (hk : k + 1 ≤ j) (ht : Takes X W) (hg : Gl X x) (ha : PA X (e :: es) t) (hkw : PK X kws tk)
    (hall : (backToKw pos (keywordEach kws X.env)).all (·.1.isSome) = true := by rfl) (hks : (backToKw pos (keywordEach kws X.env)).filterMap (·.1) = ks := by rfl) (hdb : (x == ("__debug__" : Str)) = false := by decide)
    (he : starEach (e :: es) X.env = (false, eval e X.env) :: starEach es X.env := by rfl) (hpl : ((backTo pos (starEach (e :: es) X.env)).any (·.1) || (backToKw pos (keywordEach kws X.env)).any (·.1.isNone)) = false := by rfl) :
    PE X (.Call (.Name x p) (e :: es) kws pos) (fun σ H Q => t σ H fun vs H0 => tk σ H0 fun zs H1 => vs.length = n ∧ zs.length = ks.length ∧ ∀ a dx, H1 a = none → H1 dx = none → dx ≠ a → sp (g (.ref a :: vs) dvs zs) (L2.upd (L2.upd H1 dx (.own a)) a (.ins C dx [])) (fun v H2 => v = .non ∧ Q (.ref a) H2) (fun c d H' => W c d σ H')) := by
  obtain ⟨f, fd, F, M, hm, G⟩ := c.ex
  obtain ⟨its, hb⟩ := F.kbindsD (n + 1) ks g hd b.rel b.bind
  refine ⟨fun pins s σ H Q I h => ?_⟩
  refine wpAny_Call_Name_kw (ld_glob I hg hm ?_ hdb)
  refine PySem.W.callWith_KW (h₀ := X.base) I.ok.mod.kin M.kp hall (thn (ha.run pos pins s σ H _ I h) fun us s0 ⟨vs, H0, I0, r, q0⟩ => ?_) hpl he
  refine thn (hkw.run pos pins s0 σ H0 _ I0 q0) fun ws s1 ⟨zs, H1, I1, rz, l1, l2, q⟩ => ⟨I1.kIn, ?_⟩
  rw [hks]
  have hq := q (s1.heap.objs.size + 1) s1.heap.objs.size (I1.hok.fresh (Nat.le_succ _)) (I1.hok.fresh (Nat.le_refl _)) (Nat.ne_of_lt (Nat.lt_succ_self _))
  have r2 := hb.rel (vs := V.ref (s1.heap.objs.size + 1) :: vs) (us := Value.ref (s1.heap.objs.size + 1) :: us) (.cons rfl r) rz
  refine make_S M G (hr.mono hk) ht I1 (fun s' hK => ?_) r2 hq
  exact hb.to s' (Value.ref (s1.heap.objs.size + 1) :: us) ws hK (by rw [List.length_cons, ← r.length, l1]) (rz.length.symm.trans l2)
end
end MM
namespace MM
/-! ### kept forms: maths -/
/-- q taken down to a whole part by b -/
def laF (q : Rat) (b : Int) : Rat := ((q * b).floor : Rat) / (b : Rat)
/-- the least first moon -/
def fmF (m o : Rat) : Rat := (((o * (m.den : Int)).floor % m.num : Int) : Rat) / ((m.den : Int) : Rat)
def mkF (y k : Rat) : Rat := laF k ((y / 12).den : Int)
theorem fl_le (q : Rat) : (q.floor : Rat) ≤ q := Rat.floor_le q
theorem fl_lt (q : Rat) : q < (q.floor : Rat) + 1 := by
  have := @Rat.lt_floor q
  grind
theorem le_div {a b c : Rat} (hc : 0 < c) : a ≤ b / c ↔ a * c ≤ b := by
  have h := @Rat.div_lt_iff b c a hc
  constructor
  · intro x
    exact Rat.not_lt.mp fun z => absurd (h.mpr z) (Rat.not_lt.mpr x)
  · intro x
    exact Rat.not_lt.mp fun z => absurd (h.mp z) (Rat.not_lt.mpr x)
theorem fl_of {q : Rat} {i : Int} (h1 : (i : Rat) ≤ q) (h2 : q < (i : Rat) + 1) : q.floor = i := by
  have a : q.floor ≤ i := by
    rw [floor_le_iff, cast_add1]
    exact h2
  have b : i ≤ q.floor := Rat.le_floor_iff.mpr h1
  omega
theorem fl_int (i : Int) : ((i : Rat)).floor = i := fl_of (Rat.le_refl) (by grind)
theorem fl_add (q : Rat) (i : Int) : (q + (i : Rat)).floor = q.floor + i := by
  have h1 := fl_le q
  have h2 := fl_lt q
  refine fl_of ?_ ?_
  · rw [Rat.intCast_add]
    grind
  · rw [Rat.intCast_add]
    grind
theorem den_ne (q : Rat) : (((q.den : Int)) : Rat) ≠ 0 := by
  have := den_pos q
  intro h
  have := Rat.intCast_eq_zero_iff.mp h
  omega
theorem m_den (m : Rat) : m * ((m.den : Int) : Rat) = (m.num : Rat) := by
  have h := Rat.num_divInt_den m
  rw [Rat.divInt_eq_div] at h
  have h0 := den_ne m
  generalize ((m.den : Int) : Rat) = d at *
  generalize (m.num : Rat) = n at *
  subst h
  grind
theorem m_eq (m : Rat) : m = (m.num : Rat) / ((m.den : Int) : Rat) := by
  have h := m_den m
  have h0 := den_ne m
  grind
theorem la_mul {q : Rat} {b : Int} (hb : (b : Rat) ≠ 0) : laF q b * (b : Rat) = ((q * b).floor : Rat) := by
  unfold laF
  grind
theorem la_la {q : Rat} {b : Int} (hb : (b : Rat) ≠ 0) : laF (laF q b) b = laF q b := by
  have h : (laF q b * b).floor = (q * b).floor := by rw [la_mul hb, fl_int]
  show ((laF q b * b).floor : Rat) / (b : Rat) = _
  rw [h]
  rfl
theorem la_near {q t : Rat} {b : Int} (hb : (b : Rat) ≠ 0) (t0 : 0 ≤ t) (t1 : t < 1) : laF (laF q b + t * (1 / (b : Rat))) b = laF q b := by
  have h : ((laF q b + t * (1 / (b : Rat))) * b).floor = (q * b).floor := by
    have e1 := la_mul (q := q) hb
    have e : (laF q b + t * (1 / (b : Rat))) * b = ((q * b).floor : Rat) + t := by grind
    rw [e]
    exact fl_of (by grind) (by grind)
  show (((laF q b + t * (1 / (b : Rat))) * b).floor : Rat) / (b : Rat) = _
  rw [h]
  rfl
theorem fm_of {m o o' : Rat} {j : Int} (h : (o' * (m.den : Int)).floor = (o * (m.den : Int)).floor + j * m.num) : fmF m o' = fmF m o := by
  unfold fmF
  rw [h, Int.add_mul_emod_self_right]
theorem fm_fm {m o : Rat} (hm : 0 < m) : fmF m (fmF m o) = fmF m o := by
  have hp := num_pos hm
  have h : (fmF m o * (m.den : Int)).floor = (o * (m.den : Int)).floor % m.num := by
    have hb := den_ne m
    have e : fmF m o * ((m.den : Int) : Rat) = (((o * (m.den : Int)).floor % m.num : Int) : Rat) := by
      unfold fmF
      grind
    rw [e, fl_int]
  show ((((fmF m o) * (m.den : Int)).floor % m.num : Int) : Rat) / _ = _
  rw [h, Int.emod_emod_of_dvd _ (Int.dvd_refl _)]
  rfl
theorem fm_near {m o t : Rat} {j : Int} (t0 : 0 ≤ t) (t1 : t < 1) : fmF m ((laF o (m.den : Int) + t * (1 / ((m.den : Int) : Rat))) + m * (j : Rat)) = fmF m o := by
  have hb := den_ne m
  refine fm_of (j := j) ?_
  have e1 := la_mul (q := o) hb
  have e2 := m_den m
  have e : ((laF o (m.den : Int) + t * (1 / ((m.den : Int) : Rat))) + m * (j : Rat)) * ((m.den : Int) : Rat) = (((o * (m.den : Int)).floor : Rat) + t) + ((j * m.num : Int) : Rat) := by
    rw [Rat.intCast_mul]
    grind
  rw [e, fl_add]
  congr 1
  exact fl_of (by grind) (by grind)
theorem fm_bounds {m o : Rat} (hm : 0 < m) : 0 ≤ fmF m o ∧ fmF m o < m := by
  have hp := num_pos hm
  have hd : (0 : Rat) < ((m.den : Int) : Rat) := Rat.intCast_pos.mpr (den_pos m)
  have h0 := Int.emod_nonneg ((o * (m.den : Int)).floor) (show m.num ≠ 0 by omega)
  have h1 := Int.emod_lt_of_pos ((o * (m.den : Int)).floor) hp
  unfold fmF
  generalize (o * (m.den : Int)).floor % m.num = r at *
  have r0 : (0 : Rat) ≤ (r : Rat) := Rat.intCast_nonneg.mpr h0
  have r1 : (r : Rat) < (m.num : Rat) := Rat.intCast_lt_intCast.mpr h1
  have e := m_den m
  constructor
  · rw [le_div hd]
    grind
  · rw [Rat.div_lt_iff hd]
    grind
/-- the program's way -/
theorem fm_prog {m o : Rat} (hm : 0 < m) : laF o (m.den : Int) - ((laF o (m.den : Int) / m).floor : Rat) * m = fmF m o := by
  have hb := den_ne m
  have hp := num_pos hm
  have hp' : (m.num : Rat) ≠ 0 := fun z => by
    have := Rat.intCast_eq_zero_iff.mp z
    omega
  have e1 := la_mul (q := o) hb
  have e2 := m_den m
  generalize hF : (o * (m.den : Int)).floor = F at *
  have e3 : laF o (m.den : Int) / m = Rat.divInt F m.num := by
    rw [Rat.divInt_eq_div]
    have hm0 : m ≠ 0 := by grind
    grind
  rw [e3, floor_divInt hp]
  unfold fmF
  rw [hF]
  have e4 : F % m.num = F - m.num * (F / m.num) := Int.emod_def F m.num
  rw [e4, Rat.intCast_sub, Rat.intCast_mul]
  grind
/-- the law's way -/
theorem fm_law {m o : Rat} (hm : 0 < m) : laF (o + m * ((0 - (o / m).floor : Int) : Rat)) (m.den : Int) = fmF m o := by
  have hb := den_ne m
  have hp := num_pos hm
  have e2 := m_den m
  have hd : (0 : Rat) < ((m.den : Int) : Rat) := Rat.intCast_pos.mpr (den_pos m)
  generalize hn : (o / m).floor = n at *
  have n1 : (n : Rat) ≤ o / m := by rw [← hn]; exact fl_le _
  have n2 : o / m < (n : Rat) + 1 := by rw [← hn]; exact fl_lt _
  have n1' : (n : Rat) * m ≤ o := by
    have := (le_div hm).mp n1
    exact this
  have n2' : o < ((n : Rat) + 1) * m := (Rat.div_lt_iff hm).mp n2
  have e : (o + m * ((0 - n : Int) : Rat)) * ((m.den : Int) : Rat) = o * ((m.den : Int) : Rat) + ((-(n * m.num) : Int) : Rat) := by
    rw [Rat.intCast_neg, Rat.intCast_mul, Rat.intCast_sub]
    grind
  unfold laF fmF
  rw [e, fl_add]
  have f1 := fl_le (o * ((m.den : Int) : Rat))
  have f2 := fl_lt (o * ((m.den : Int) : Rat))
  have g1 : n * m.num ≤ (o * ((m.den : Int) : Rat)).floor := by
    refine Rat.le_floor_iff.mpr ?_
    rw [Rat.intCast_mul]
    have := Rat.mul_le_mul_of_nonneg_right n1' (Rat.le_of_lt hd)
    grind
  have g2 : (o * ((m.den : Int) : Rat)).floor < (n + 1) * m.num := by
    have h := Rat.mul_lt_mul_of_pos_right n2' hd
    have h2 : o * ((m.den : Int) : Rat) < (((n + 1) * m.num : Int) : Rat) := by
      rw [Rat.intCast_mul, Rat.intCast_add]
      grind
    have h3 : (((o * ((m.den : Int) : Rat)).floor : Int) : Rat) < (((n + 1) * m.num : Int) : Rat) := by grind
    exact Rat.intCast_lt_intCast.mp h3
  generalize (o * ((m.den : Int) : Rat)).floor = F at *
  have e5 : F % m.num = F + -(n * m.num) := by
    have h6 : F = (F - n * m.num) + m.num * n := by rw [Int.mul_comm m.num n]; omega
    have h7 : 0 ≤ F - n * m.num := by omega
    have h8 : F - n * m.num < m.num := by
      have : (n + 1) * m.num = n * m.num + m.num := by rw [Int.add_mul, Int.one_mul]
      omega
    rw [h6, Int.add_mul_emod_self_left, Int.emod_eq_of_lt h7 h8]
    omega
  rw [e5]
/-- taken down as whole numbers -/
theorem la_low (q : Rat) {b : Int} (hb : 0 < b) : Rat.divInt (q.num * b / q.den) b = laF q b := by
  unfold laF
  rw [Rat.divInt_eq_div]
  congr 2
  have e : q * (b : Rat) = Rat.divInt (q.num * b) q.den := by
    rw [mul_eq]
    congr 1
    show (q.den : Int) * 1 = _
    omega
  rw [e, floor_divInt (den_pos q)]
theorem div_fl {o m : Rat} (hm : 0 < m) : o.num * m.den / (o.den * m.num) = (o / m).floor := by
  have hp := num_pos hm
  rw [div_eq o m (by grind), floor_divInt (Int.mul_pos (den_pos o) hp)]
end MM
namespace MM
open PySem PySem.Spec PySem.Calls PyProof.Rows L2
open AutoSeq1 (wpAny_loadPart')
open GQ (FinOf call_here)
/-! ### tuples of instances, != -/
section
variable {prog : Program} {w : World} {A : Around} {R : Result → Shared → Prop}
theorem tup_ne (l b : Addr) (xs ys : Array Value) (n m : Nat) (dd de : Option Addr) (sl sm : Array (Option Value)) (hz : xs.size = ys.size) (Iv : Nat → Shared → Prop)
    (turn : ∀ i (h1 : i < xs.size) (h2 : i < ys.size) s, Iv i s → wpAny (model prog w) A.in1 (eqBool xs[i] ys[i]) (fun r s' => r = true ∧ Iv (i + 1) s') (fun e s' => R (.error e) s') s)
    (fin : ∀ s, Iv xs.size s → R (.ok (.ret (.bool false))) s) {s : Shared} (ha : s.heap.get? l = some { cls := .type "tuple", dict := dd, data := .seq xs n, slots := sl }) (hb : s.heap.get? b = some { cls := .type "tuple", dict := de, data := .seq ys m, slots := sm }) (h : Iv 0 s) :
    wpAny (model prog w) A.in1 (Builtin.«tuple.__ne__» ⟨[.ref l, .ref b], []⟩) (FinOf prog w A R) (fun e s' => R (.error e) s') s := by
  have f2 := AutoSeq1.sub_tuple_tuple
  have hZ : (xs.toList.zip ys.toList).length = xs.size := by simp [hz]
  have h0 := h
  obtain ⟨hp, g, d, tk, os⟩ := s
  wp_walk using wpAny_loadPart' ha, wpAny_loadPart' hb, wpAny_forIn_list _ (fun rest b s' => b.1 = none ∧ ∃ i, rest = (xs.toList.zip ys.toList).drop i ∧ i ≤ xs.size ∧ Iv i s') _
  case turn =>
    rintro ⟨y, x⟩ rest b s' ⟨hb', i, hq, hi, hI⟩
    have hlt : i < (xs.toList.zip ys.toList).length := by
      by_cases h' : i < (xs.toList.zip ys.toList).length
      · exact h'
      · rw [List.drop_of_length_le (by omega)] at hq
        cases hq
    have h1 : i < xs.size := hZ ▸ hlt
    have h2 : i < ys.size := hz ▸ h1
    rw [List.drop_eq_getElem_cons hlt] at hq
    injection hq with hyx hrest
    have hy : y = xs[i] := by have := congrArg Prod.fst hyx; simpa using this
    have hx : x = ys[i] := by have := congrArg Prod.snd hyx; simpa using this
    subst hy hx
    refine wpAny_bind (wpAny_mono (turn i h1 h2 s' hI) (fun r s2 q2 => ?_) fun _ _ x => x)
    obtain ⟨hr, q2⟩ := q2
    subst hr
    wp_walk
    exact ⟨rfl, i + 1, hrest, h1, q2⟩
  case fin =>
    rintro ⟨b1, b2⟩ s' ⟨hb', i, hq, hi, hI⟩
    simp only at hb'
    subst hb'
    have hge : xs.size ≤ i := by
      by_cases h' : i < (xs.toList.zip ys.toList).length
      · rw [List.drop_eq_getElem_cons h'] at hq
        cases hq
      · omega
    have hi' : i = xs.size := by omega
    have hR : R (.ok (.ret (.bool false))) s' := fin s' (hi' ▸ hI)
    wp_walk
    simpa [Builtin.Tuple.tupleCompareSizes, hz] using hR
  case h =>
    exact ⟨rfl, 0, rfl, Nat.zero_le _, h0⟩
theorem rc_tup_ne {E : Value → Shared → Prop} {s : Shared} {l b : Addr} {xs ys : Array Value} {Q : Value → Shared → Prop} (hz : xs.size = ys.size) (hu : A.units < cLine) (Iv : Nat → Shared → Prop) (hl : s.heap.IsTuple l xs) (hb : s.heap.IsTuple b ys)
    (turn : ∀ i (h1 : i < xs.size) (h2 : i < ys.size) s, Iv i s → wpAny (model prog w) A.in1 (eqBool xs[i] ys[i]) (fun r s' => r = true ∧ Iv (i + 1) s') E s)
    (fin : ∀ s, Iv xs.size s → Q (.bool false) s) (h : Iv 0 s) : wpAny (model prog w) A (richCompare .NotEq (.ref l) (.ref b)) Q E s := by
  obtain ⟨⟨cls, dd, data, sl⟩, ho, hc, n, hd⟩ := id hl
  obtain ⟨⟨cls2, dd2, data2, sl2⟩, ho2, hc2, n2, hd2⟩ := id hb
  simp only at hc hd hc2 hd2
  subst hc hd hc2 hd2
  refine wpAny_richCompare_same_room (op := .NotEq) ⟨_, ho, rfl⟩ ⟨_, ho2, rfl⟩ PySem.F.slot_tuple_ne (call_here PySem.F.slot_tuple_ne ⟨_, ho, rfl⟩ PySem.F.entry_tuple_ne (PySem.F.args_tuple_ne_2 _ _) ?_) hu
  exact tup_ne (R := wants (fun v s' => v ≠ .notImplemented ∧ Q v s') E) l b xs ys n n2 dd dd2 sl sl2 hz Iv turn (fun s' q => ⟨(fun x => nomatch x), fin s' q⟩) ho ho2 h
end
/-- tuples whose things are equal one by one -/
def rNeG (D : Eqv) : R2 := fun x y H Q => D x y H ∧ ∀ H', Ext H H' → Q (.bl false) H'
theorem op_neTG {X : Cx} {n : Nat} {D : Eqv} (hD : Mon D) (h : EqG X n D) (hr : Room (n + 1) X.A) : OpR X (compareOp .NotEq) (rNeG (DTup X.K D)) := by
  intro pins s σ H x y v u Q I rx ry hq
  obtain ⟨⟨a, b, xs, ys, rfl, rfl, ha, hb, p⟩, q⟩ := hq
  cases (show v = Value.ref a from rx)
  cases (show u = Value.ref b from ry)
  have sb : L2.Sub X (n + 1) X.A := ⟨hr, rfl⟩
  obtain ⟨its, r, e, z⟩ := I.tuple ha
  obtain ⟨its2, r2, e2, z2⟩ := I.tuple hb
  have hz : its.toArray.size = its2.toArray.size := by rw [List.size_toArray, List.size_toArray, ← r.length, ← r2.length]; exact p.1
  show wpAny (model X.prog X.w) X.A (richCompare .NotEq (.ref a) (.ref b)) (EP X pins σ Q) X.xe s
  refine rc_tup_ne hz sb.room.units0 (fun _ s' => LoopI X pins σ H s') e e2 (fun i h1 h2 s' q => turnG hD h sb p r r2 i h1 h2 s' q) (fun s' q' => ?_) ⟨H, I, Ext.rfl'⟩
  obtain ⟨H', I', e'⟩ := q'
  exact ⟨.bl false, H', I', rfl, q H' e'⟩
/-- equal things of a class by its own __eq__ -/
theorem eqG_own {X : Cx} {CX : CXT} {k : Nat} {C : Addr} {qual : Str} {st : Stmt} {ps : List Str} {sp : Sp} {E : XK} {D : Eqv} (c : Cm X.prog X.w X.K X.mg X.base CX k C "__eq__" qual st ps sp) (b : Bd "__eq__" qual st ps) (hx : Passes CX X E) (hd : ∀ x y H, D x y H → DOwn X.K C sp E x y H true) : EqG X k D := by
  obtain ⟨f, fd, F, M, hc, G⟩ := c.ex
  intro A pins s σ H x y u v sb I rx ry d
  exact eqB_own G M.1 M.2 (F.bindsN b) hx A pins s σ H x y u v true sb I rx ry (hd x y H d)
end MM
namespace MM
open PySem PySem.Spec PySem.Calls PyProof.Rows L2
open AutoSeq1 (wpAny_loadPart')
open GQ (FinOf call_here)
/-! ### tuples of instances, ==, with either answer -/
section
variable {prog : Program} {w : World} {A : Around} {R : Result → Shared → Prop}
theorem tup_eqB (l b : Addr) (xs ys : Array Value) (n m : Nat) (dd de : Option Addr) (sl sm : Array (Option Value)) (hz : xs.size = ys.size) (B : Nat → Bool) (Iv : Nat → Shared → Prop)
    (turn : ∀ i (h1 : i < xs.size) (h2 : i < ys.size) s, Iv i s → wpAny (model prog w) A.in1 (eqBool xs[i] ys[i]) (fun r s' => r = B i ∧ Iv (i + 1) s') (fun e s' => R (.error e) s') s)
    (finF : ∀ i s, i < xs.size → B i = false → Iv (i + 1) s → R (.ok (.ret (.bool false))) s) (fin : (∀ i, i < xs.size → B i = true) → ∀ s, Iv xs.size s → R (.ok (.ret (.bool true))) s) {s : Shared} (ha : s.heap.get? l = some { cls := .type "tuple", dict := dd, data := .seq xs n, slots := sl }) (hb : s.heap.get? b = some { cls := .type "tuple", dict := de, data := .seq ys m, slots := sm }) (h : Iv 0 s) :
    wpAny (model prog w) A.in1 (Builtin.«tuple.__eq__» ⟨[.ref l, .ref b], []⟩) (FinOf prog w A R) (fun e s' => R (.error e) s') s := by
  have f2 := AutoSeq1.sub_tuple_tuple
  have hZ : (xs.toList.zip ys.toList).length = xs.size := by simp [hz]
  have h0 := h
  obtain ⟨hp, g, d, tk, os⟩ := s
  wp_walk using wpAny_loadPart' ha, wpAny_loadPart' hb, wpAny_forIn_list _ (fun rest b s' => (b.1 = none ∧ ∃ i, rest = (xs.toList.zip ys.toList).drop i ∧ i ≤ xs.size ∧ (∀ j, j < i → B j = true) ∧ Iv i s')) _
  case turn =>
    rintro ⟨y, x⟩ rest b s' ⟨hb', i, hq, hi, hall, hI⟩
    have hlt : i < (xs.toList.zip ys.toList).length := by
      by_cases h' : i < (xs.toList.zip ys.toList).length
      · exact h'
      · rw [List.drop_of_length_le (by omega)] at hq
        cases hq
    have h1 : i < xs.size := hZ ▸ hlt
    have h2 : i < ys.size := hz ▸ h1
    rw [List.drop_eq_getElem_cons hlt] at hq
    injection hq with hyx hrest
    have hy : y = xs[i] := by have := congrArg Prod.fst hyx; simpa using this
    have hx : x = ys[i] := by have := congrArg Prod.snd hyx; simpa using this
    subst hy hx
    refine wpAny_bind (wpAny_mono (turn i h1 h2 s' hI) (fun r s2 q2 => ?_) fun _ _ x => x)
    obtain ⟨hr, q2⟩ := q2
    cases hB : B i with
    | true =>
      rw [hB] at hr
      subst hr
      wp_walk
      refine ⟨rfl, i + 1, hrest, h1, fun j hj => ?_, q2⟩
      by_cases e : j = i
      · subst e
        exact hB
      · exact hall j (by omega)
    | false =>
      rw [hB] at hr
      subst hr
      have q3 := finF i s2 h1 hB q2
      wp_walk
      exact q3
  case fin =>
    rintro ⟨b1, b2⟩ s' ⟨hb', i, hq, hi, hall, hI⟩
    simp only at hb'
    subst hb'
    have hge : xs.size ≤ i := by
      by_cases h' : i < (xs.toList.zip ys.toList).length
      · rw [List.drop_eq_getElem_cons h'] at hq
        cases hq
      · omega
    have hi' : i = xs.size := by omega
    have hR : R (.ok (.ret (.bool true))) s' := fin (fun j hj => hall j (by omega)) s' (hi' ▸ hI)
    wp_walk
    simpa [Builtin.Tuple.tupleCompareSizes, hz] using hR
  case h =>
    exact ⟨rfl, 0, rfl, Nat.zero_le _, fun j hj => absurd hj (Nat.not_lt_zero j), h0⟩
end

/-- x == y, tuples whose i-th things are == just where B i -/
def rEqTB (K : PySem.W.Frag) (D : V → V → Hp → Bool → Prop) : R2 := fun x y H Q => ∃ (a b : Addr) (xs ys : List V) (B : Nat → Bool), x = .ref a ∧ y = .ref b ∧ SqT K H a xs ∧ SqT K H b ys ∧ xs.length = ys.length ∧ (∀ i p q, xs[i]? = some p → ys[i]? = some q → ∀ H', Ext H H' → D p q H' (B i)) ∧ ∀ H', Ext H H' → Q (.bl ((List.range xs.length).all B)) H'
theorem get_arr {xs : List V} {its : List Value} (r : Vals xs its) {i : Nat} (h1 : i < its.toArray.size) : ∃ x, xs[i]? = some x ∧ RelV x its.toArray[i] := by
  have hi : i < its.length := by simpa using h1
  have hx : i < xs.length := by rw [r.length]; exact hi
  obtain ⟨w, hw, rw'⟩ := r.get (List.getElem?_eq_getElem hx)
  refine ⟨_, List.getElem?_eq_getElem hx, ?_⟩
  have ew : its.toArray[i] = w := by
    rw [List.getElem?_eq_getElem hi] at hw
    simpa using Option.some.inj hw
  rw [ew]
  exact rw'
theorem op_eqTB {X : Cx} {n : Nat} {D : V → V → Hp → Bool → Prop} (h : EqB X n D) (hr : Room (n + 1) X.A) : OpR X (compareOp .Eq) (rEqTB X.K D) := by
  intro pins s σ H x y v u Q I rx ry hq
  obtain ⟨a, b, xs, ys, B, rfl, rfl, ha, hb, hlen, hD, q⟩ := hq
  cases (show v = Value.ref a from rx)
  cases (show u = Value.ref b from ry)
  have sb : L2.Sub X (n + 1) X.A := ⟨hr, rfl⟩
  obtain ⟨its, r, e, z⟩ := I.tuple ha
  obtain ⟨its2, r2, e2, z2⟩ := I.tuple hb
  have hz : its.toArray.size = its2.toArray.size := by rw [List.size_toArray, List.size_toArray, ← r.length, ← r2.length]; exact hlen
  have hzx : its.toArray.size = xs.length := by rw [List.size_toArray, ← r.length]
  obtain ⟨⟨cls, dd, data, sl⟩, ho, hc, m1, hd⟩ := id e
  obtain ⟨⟨cls2, dd2, data2, sl2⟩, ho2, hc2, m2, hd2⟩ := id e2
  simp only at hc hd hc2 hd2
  subst hc hd hc2 hd2
  show wpAny (model X.prog X.w) X.A (richCompare .Eq (.ref a) (.ref b)) (EP X pins σ Q) X.xe s
  refine wpAny_richCompare_same_room (op := .Eq) ⟨_, ho, rfl⟩ ⟨_, ho2, rfl⟩ PySem.F.slot_tuple_eq (call_here PySem.F.slot_tuple_eq ⟨_, ho, rfl⟩ PySem.F.entry_tuple_eq (PySem.F.args_tuple_eq_2 _ _) ?_) sb.room.units0
  refine tup_eqB (R := wants (fun v s' => v ≠ .notImplemented ∧ EP X pins σ Q v s') X.xe) a b its.toArray its2.toArray m1 m2 dd dd2 sl sl2 hz B (fun _ s' => LoopI X pins σ H s') ?_ ?_ ?_ ho ho2 ⟨H, I, Ext.rfl'⟩
  · intro i h1 h2 s' hl
    obtain ⟨H', I', x'⟩ := hl
    obtain ⟨p, hp, rp⟩ := get_arr r h1
    obtain ⟨p2, hp2, rp2⟩ := get_arr r2 h2
    refine wpAny_mono (h X.A.in1 pins s' σ H' _ _ _ _ (B i) sb.in1 I' rp rp2 (hD i p p2 hp hp2 H' x')) (fun c s2 z2 => ?_) fun _ _ y => y
    obtain ⟨hc, H2, I2, x2⟩ := z2
    exact ⟨hc, H2, I2, x'.trans x2⟩
  · rintro i s' hi hB ⟨H', I', x'⟩
    refine ⟨(fun z => nomatch z), .bl false, H', I', rfl, ?_⟩
    have z := q H' x'
    have ea : (List.range xs.length).all B = false := by
      rw [List.all_eq_false]
      exact ⟨i, List.mem_range.mpr (by omega), by rw [hB]; decide⟩
    rw [ea] at z
    exact z
  · rintro hall s' ⟨H', I', x'⟩
    refine ⟨(fun z => nomatch z), .bl true, H', I', rfl, ?_⟩
    have z := q H' x'
    have ea : (List.range xs.length).all B = true := by
      rw [List.all_eq_true]
      intro j hj
      exact hall j (by have := List.mem_range.mp hj; omega)
    rw [ea] at z
    exact z
/-! ### x not in [..] by an own __eq__ -/
section
variable {prog : Program} {w : World} {A : Around}
theorem notin_listG {E : Value → Shared → Prop} {s : Shared} {Q : Value → Shared → Prop} (l : Addr) (x : Value) (N : Nat) (B : Nat → Bool) (Iv : Nat → Shared → Prop)
    (hl : ∀ i s, Iv i s → ∃ (its : Array Value) (n : Nat), s.heap.get? l = some { cls := .type "list", data := .seq its n } ∧ its.size = N ∧ ∀ h : i < its.size, wpAny (model prog w) A.in1 (eqBool its[i] x) (fun r s' => r = B i ∧ Iv (i + 1) s') E s)
    (fT : ∀ i s, i < N → B i = true → Iv (i + 1) s → Q (.bool false) s) (fF : (∀ j, j < N → B j = false) → ∀ s, Iv N s → Q (.bool true) s) (h : Iv 0 s) : wpAny (model prog w) A (compareOp .NotIn x (.ref l)) Q E s := by
  obtain ⟨its, n, h1, _, _⟩ := hl _ _ h
  show wpAny _ A (do return .bool (!(← contains (.ref l) x))) Q E s
  refine wpAny_bind (wpAny_contains_slot ⟨_, h1, rfl⟩ PySem.F.slot_list_contains (wpAny_mono (call_here (Q := fun v s' => ∃ b, v = .bool b ∧ Q (.bool (!b)) s') PySem.F.slot_list_contains ⟨_, h1, rfl⟩ PySem.F.entry_list_contains (PySem.F.args_list_contains_2 _ _) ?_) (fun v s' hv => ?_) fun _ _ e => e))
  · have go := in_loopG (prog := prog) (w := w) (A := A) (R := wants (fun v s' => ∃ b, v = .bool b ∧ Q (.bool (!b)) s') E) l x N B Iv hl (fun i s hi hb q => ⟨true, rfl, fT i s hi hb q⟩) (fun hno s q => ⟨false, rfl, fF hno s q⟩) (N - 0) 0 rfl (Nat.zero_le _) (fun j hj => absurd hj (Nat.not_lt_zero j)) s h
    obtain ⟨hp, g, d, tk, os⟩ := s
    wp_walk
    exact ⟨plainId_quiet PySem.MeetsSeq.plain_contains_loop _, codeAny_builtin PySem.MeetsSeq.entry_contains_loop (by
      rw [Around.under_plainId PySem.MeetsSeq.plain_contains_loop _]
      exact go)⟩
  · obtain ⟨b, rfl, hq⟩ := hv
    exact wpAny_truthy_bool (wpAny_pure hq)
/-! ### [..].count(x) by an own __eq__ -/
theorem count_loopG {R : Result → Shared → Prop} (l : Addr) (x : Value) (N : Nat) (B : Nat → Bool) (Iv : Nat → Shared → Prop)
    (hl : ∀ i s, Iv i s → ∃ (its : Array Value) (n : Nat), s.heap.get? l = some { cls := .type "list", data := .seq its n } ∧ its.size = N ∧ ∀ h : i < its.size, wpAny (model prog w) A.in1 (eqBool its[i] x) (fun r s' => r = B i ∧ Iv (i + 1) s') (fun e s' => R (.error e) s') s)
    (fin : ∀ s t k, Iv N s → R (.ok (.ret (.int (((List.range N).countP B : Nat) : Int) t))) { s with toks := k }) (k : Nat) :
    ∀ i : Nat, N - i = k → i ≤ N → ∀ s, Iv i s →
      wpAny (model prog w) A.in1 (Builtin.«list.count.loop» ⟨[.ref l, x, rawInt i, rawInt ((((List.range i).countP B : Nat)) : Int)], []⟩) (FinOf prog w A R) (fun e s' => R (.error e) s') s := by
  induction k with
  | zero =>
    intro i hk hi s h
    obtain ⟨its, n, h1, hs, _⟩ := hl _ _ h
    have ei : i = N := by omega
    subst ei
    have hR := fin s
    obtain ⟨hp, g, d, tk, os⟩ := s
    wp_walk using wpAny_loadPart' h1
    have e1 : its[((i : Nat) : Int).toNat]? = none := by simp; omega
    rw [e1]
    wp_walk
    exact hR _ _ h
  | succ k ih =>
    intro i hk hi s h
    obtain ⟨its, n, h1, hs, turn⟩ := hl _ _ h
    have hlt : i < its.size := by omega
    have ht := turn hlt
    obtain ⟨hp, g, d, tk, os⟩ := s
    wp_walk using wpAny_loadPart' h1
    have e1 : its[((i : Nat) : Int).toNat]? = some its[i] := by simp [hlt]
    have hc : ((i : Int) + 1) = ((i + 1 : Nat) : Int) := by omega
    rw [e1]
    refine wpAny_bind (wpAny_mono ht (fun r s2 h2 => ?_) fun _ _ z => z)
    obtain ⟨hr, h2⟩ := h2
    subst hr
    have hrec := ih (i + 1) (by omega) (by omega) s2 h2
    have ec : (if B i = true then (((List.range i).countP B : Nat) : Int) + 1 else (((List.range i).countP B : Nat) : Int)) = (((List.range (i + 1)).countP B : Nat) : Int) := by
      rw [List.range_succ, List.countP_append]
      rw [show List.countP B [i] = if B i = true then 1 else 0 by rw [List.countP_cons]; simp]
      split <;> omega
    obtain ⟨hp2, g2, d2, tk2, os2⟩ := s2
    wp_walk
    rw [hc, ec]
    exact ⟨plainId_quiet PySem.MeetsSeq.plain_count_loop _, codeAny_builtin PySem.MeetsSeq.entry_count_loop (by
      rw [Around.under_plainId PySem.MeetsSeq.plain_count_loop _]
      exact hrec)⟩
end
def rNotInG (D : V → V → Hp → Bool → Prop) : R2 := fun x y H Q => ∃ (p : Addr) (xs : List V) (B : Nat → Bool), y = .ref p ∧ H p = some (.lst xs) ∧ (∀ i z, xs[i]? = some z → ∀ H', Ext H H' → D z x H' (B i)) ∧ ∀ H', Ext H H' → Q (.bl (!(List.range xs.length).any B)) H'
/-- the i-th thing of the list at p beside x, in whatever state came -/
theorem turn_lst {X : Cx} {n : Nat} {D : V → V → Hp → Bool → Prop} (h : EqB X n D) {A : Around} (sb : L2.Sub X n A) {pins : List (Addr × Obj)} {σ : L2.St} {H : Hp} {p : Addr} {xs : List V} {x : V} {v : Value} {B : Nat → Bool} (hp : H p = some (.lst xs)) (rx : RelV x v)
    (hD : ∀ i z, xs[i]? = some z → ∀ H', Ext H H' → D z x H' (B i)) : ∀ (i : Nat) (s' : Shared), LoopI X pins σ H s' → ∃ (its : Array Value) (k : Nat), s'.heap.get? p = some { cls := .type "list", data := .seq its k } ∧ its.size = xs.length ∧ ∀ h1 : i < its.size, wpAny (model X.prog X.w) A (eqBool its[i] v) (fun r s2 => r = B i ∧ LoopI X pins σ H s2) X.xe s' := by
  rintro i s' ⟨H', I', e⟩
  obtain ⟨z, its, k, r, ek⟩ := I'.hok p _ (e _ _ hp)
  refine ⟨its.toArray, k, ek, by rw [List.size_toArray, ← r.length], fun h1 => ?_⟩
  obtain ⟨y, hy, ry⟩ := get_arr r h1
  refine wpAny_mono (h A pins s' σ H' _ x _ v (B i) sb I' ry rx (hD i _ hy H' e)) (fun c s2 z2 => ?_) fun _ _ y => y
  obtain ⟨hc, H2, I2, e2⟩ := z2
  exact ⟨hc, H2, I2, e.trans e2⟩
theorem op_notInG {X : Cx} {n : Nat} {D : V → V → Hp → Bool → Prop} (h : EqB X n D) (hr : Room (n + 1) X.A) : OpR X (compareOp .NotIn) (rNotInG D) := by
  intro pins s σ H x y v u Q I rx ry hq
  obtain ⟨p, xs, B, rfl, hp, hD, q⟩ := hq
  cases (show u = Value.ref p from ry)
  have sb : L2.Sub X (n + 1) X.A := ⟨hr, rfl⟩
  refine notin_listG (A := X.A) p v xs.length B (fun _ s' => LoopI X pins σ H s') (fun i s' hl => turn_lst h sb.in1 hp rx hD i s' hl) ?_ ?_ ⟨H, I, Ext.rfl'⟩
  · rintro i s' hi hb ⟨H', I', e⟩
    refine ⟨.bl false, H', I', rfl, ?_⟩
    have z := q H' e
    have ea : (List.range xs.length).any B = true := List.any_eq_true.mpr ⟨i, List.mem_range.mpr hi, hb⟩
    rw [ea] at z
    exact z
  · rintro hno s' ⟨H', I', e⟩
    refine ⟨.bl true, H', I', rfl, ?_⟩
    have z := q H' e
    have ea : (List.range xs.length).any B = false := by
      rw [List.any_eq_false]
      intro j hj
      rw [hno j (List.mem_range.mp hj)]
      decide
    rw [ea] at z
    exact z
theorem op_notInO {X : Cx} {CX : CXT} {k j : Nat} {C : Addr} {qual : Str} {st : Stmt} {ps : List Str} {sp : Sp} {E : XK} (c : Cm X.prog X.w X.K X.mg X.base CX k C "__eq__" qual st ps sp) (b : Bd "__eq__" qual st ps) (hx : Passes CX X E) (hr : Room j X.A) (hk : k + 1 ≤ j) :
    OpR X (compareOp .NotIn) (rNotInG (DOwn X.K C sp E)) := by
  obtain ⟨f, fd, F, M, hc, G⟩ := c.ex
  exact op_notInG (eqB_own G M.1 M.2 (F.bindsN b) hx) (hr.mono hk)
/-- [..].count(x) -/
def rCountG (D : V → V → Hp → Bool → Prop) : V → List V → Hp → VK → Prop := fun y vs H Q => ∃ (p : Addr) (xs : List V) (x : V) (B : Nat → Bool), y = .ref p ∧ vs = [x] ∧ H p = some (.lst xs) ∧ (∀ i z, xs[i]? = some z → ∀ H', Ext H H' → D z x H' (B i)) ∧ ∀ H', Ext H H' → Q (.int (((List.range xs.length).countP B : Nat) : Int)) H'
theorem mt_countG {X : Cx} {n : Nat} {D : V → V → Hp → Bool → Prop} (h : EqB X n D) (hr : Room (n + 1) X.A) : MtR X "list.count" (rCountG D) := by
  intro pins s σ H y vs v us Q I ry rs hq
  obtain ⟨p, xs, x, B, rfl, rfl, hp, hD, q⟩ := hq
  cases (show v = Value.ref p from ry)
  obtain ⟨u, rfl, rx⟩ := vals1 rs
  have sb : L2.Sub X (n + 1) X.A := ⟨hr, rfl⟩
  obtain ⟨z, its, k, r, ek⟩ := I.hok p _ hp
  refine call_here PySem.F.slot_list_count ⟨_, ek, rfl⟩ PySem.F.entry_list_count (PySem.F.args_list_count_2 _ _) ?_
  have go := count_loopG (prog := X.prog) (w := X.w) (A := X.A) (R := wants (EP X pins σ Q) X.xe) p u xs.length B (fun _ s' => LoopI X pins σ H s') (fun i s' hl => turn_lst h sb.in1 hp rx hD i s' hl) (fun s' t k ⟨H', I', e⟩ => ⟨.int _, H', I'.tok _, ⟨t, rfl⟩, q H' e⟩) xs.length 0 rfl (Nat.zero_le _) s ⟨H, I, Ext.rfl'⟩
  obtain ⟨hp2, g, d, tk, os⟩ := s
  wp_walk
  exact ⟨plainId_quiet PySem.MeetsSeq.plain_count_loop _, codeAny_builtin PySem.MeetsSeq.entry_count_loop (by
    rw [Around.under_plainId PySem.MeetsSeq.plain_count_loop _]
    exact go)⟩
theorem mt_countO {X : Cx} {CX : CXT} {k j : Nat} {C : Addr} {qual : Str} {st : Stmt} {ps : List Str} {sp : Sp} {E : XK} (c : Cm X.prog X.w X.K X.mg X.base CX k C "__eq__" qual st ps sp) (b : Bd "__eq__" qual st ps) (hx : Passes CX X E) (hr : Room j X.A) (hk : k + 1 ≤ j) :
    MtR X "list.count" (rCountG (DOwn X.K C sp E)) := by
  obtain ⟨f, fd, F, M, hc, G⟩ := c.ex
  exact mt_countG (eqB_own G M.1 M.2 (F.bindsN b) hx) (hr.mono hk)
/-! ### {x} and {x!r} of instances with their own __str__ and __repr__ -/
def tFmtO (C : Addr) (sp : Sp) (E : XK) (te : TE) : TE := fun σ H Q => te σ H fun x H1 => ∃ (a dx : Addr) (fs : List (Str × V)), x = .ref a ∧ H1 a = some (.ins C dx fs) ∧ sp [.ref a] H1 (fun v H' => ∃ y : Str, v = .str y ∧ Q (.str y) H') E
section
variable {X : Cx} {CX : CXT} {k j : Nat} {C : Addr} {qual : Str} {st : Stmt} {ps : List Str} {sp : Sp} {E : XK} {e : Expr} {te : TE} {pos : Pos}
theorem run_own {A : Around} {n : Nat} {f : Addr} {fd : FuncData} {pins : List (Addr × Obj)} {σ : L2.St} {H : Hp} {s : Shared} {a : Addr} {Q : Str → Hp → Prop} {R : Value → Shared → Prop} (F : FnOk X.prog X.w X.K X.mg X.base CX n f fd ps sp) (hb : Binds X.K fd ps []) (hx : Passes CX X E) (sb : L2.Sub X n A) (I : Inv X pins σ H s)
    (hq : sp [.ref a] H (fun v H' => ∃ y : Str, v = .str y ∧ Q y H') E) (hR : ∀ y t s' H', Inv X pins σ H' s' → Q y H' → R (.str y t) s') : wpAny (model X.prog X.w) A (call (.ref f) [.ref a]) (PySem.W.StrBack R) X.xe s := by
  have hl : ([Value.ref a] ++ []).length = ps.length := (show ([V.ref a] : List V).length = _ from F.len _ _ _ _ hq)
  refine wpAny_call (codeAny_mono (F.run A X.stack s H ⟨[.ref a], []⟩ [.ref a] [.ref a] _ E sb.room (env_sub sb I) (hb s [.ref a] I.kIn hl) (.cons rfl .nil) hq) fun res s' hres => ?_)
  match res, hres with
  | .error er, hres => exact hx pins σ H s er s' I hres
  | .ok .next, hres => exact hres.elim
  | .ok .brk, hres => exact hres.elim
  | .ok .cont, hres => exact hres.elim
  | .ok (.ret u), hres =>
    obtain ⟨z, H', I', rz, y, rfl, q⟩ := I.after hres
    obtain ⟨t, rfl⟩ := rz
    exact hR y t s' H' I' q
theorem pe_fmtO (he : PE X e te) (c : Cm X.prog X.w X.K X.mg X.base CX k C "__str__" qual st ps sp) (b : Bd "__str__" qual st ps) (hfm : PySem.W.findIn X.K (.ref C) "__format__" = some (some (.builtin "object.__format__"))) (hm : PySem.W.mroIn X.K C (.type "object") = some true) (hr : Room j X.A) (hk : k + 1 ≤ j) (hx : Passes CX X E) :
    PE X (.FormattedValue e (-1) none pos) (tFmtO C sp E te) := by
  obtain ⟨f, fd, F, M, hc, G⟩ := c.ex
  have sb : L2.Sub X (k + 1) X.A := ⟨hr.mono hk, rfl⟩
  refine ⟨fun pins s σ H Q I h => ?_⟩
  refine wpAny_FormattedValue_plain (thn (he.run pins s σ H _ I h) fun v s1 hv => ?_)
  obtain ⟨x, H1, I1, r1, a, dx, fs, rfl, ea, q⟩ := hv
  cases (show v = Value.ref a from r1)
  obtain ⟨mA, J, _⟩ := ins_get I1.hok ea
  obtain ⟨od, J, _⟩ := J.look
  exact PySem.W.kfo_fieldS sb.in1.room.units0 I1.kIn J hfm hm M.1 M.2 (run_own G (F.bindsN b) hx sb.in1 (I1.tok _) q fun y t s' H' I' hq => ⟨.str y, H', I', ⟨t, rfl⟩, hq⟩)
theorem pe_fmtRO (he : PE X e te) (c : Cm X.prog X.w X.K X.mg X.base CX k C "__repr__" qual st ps sp) (b : Bd "__repr__" qual st ps) (hr : Room j X.A) (hk : k + 1 ≤ j) (hx : Passes CX X E) (hz : ∀ (a : Addr) H Q, sp [.ref a] H Q E → sp [.ref a] H (fun v H' => (∀ y, v = .str y → y.length ≤ sizeLine) ∧ Q v H') E) :
    PE X (.FormattedValue e 114 none pos) (tFmtO C sp E te) := by
  obtain ⟨f, fd, F, M, hc, G⟩ := c.ex
  have sb : L2.Sub X (k + 1) X.A := ⟨hr.mono hk, rfl⟩
  refine ⟨fun pins s σ H Q I h => ?_⟩
  refine wpAny_FormattedValue_repr (thn (he.run pins s σ H _ I h) fun v s1 hv => ?_)
  obtain ⟨x, H1, I1, r1, a, dx, fs, rfl, ea, q⟩ := hv
  cases (show v = Value.ref a from r1)
  obtain ⟨mA, J, _⟩ := ins_get I1.hok ea
  obtain ⟨od, J, _⟩ := J.look
  have q2 := hz _ _ _ q
  have sb0 : L2.Sub X k X.A := ⟨(hr.mono hk).mono (Nat.le_succ k), rfl⟩
  have go := run_own (Q := fun y H' => y.length ≤ sizeLine ∧ Q (.str y) H') (R := fun v s' => ∃ y t, v = .str y t ∧ y.length ≤ sizeLine ∧ ∃ H', Inv X pins σ H' s' ∧ Q (.str y) H') G (F.bindsN b) hx sb0 I1 (by
    have e : (fun v H' => (∀ y, v = V.str y → y.length ≤ sizeLine) ∧ ∃ y : Str, v = .str y ∧ Q (.str y) H') = fun v H' => ∃ y : Str, v = .str y ∧ (y.length ≤ sizeLine ∧ Q (.str y) H') := by
      funext v H'
      refine propext ⟨fun ⟨hl, y, e, hq⟩ => ⟨y, e, hl y e, hq⟩, fun ⟨y, e, hl, hq⟩ => ⟨fun z hz => ?_, y, e, hq⟩⟩
      rw [e] at hz
      cases hz
      exact hl
    rw [e] at q2
    exact q2) (fun y t s' H' I' hq => ⟨y, t, rfl, hq.1, H', I', hq.2⟩)
  unfold pyReprObj
  refine wpAny_bind (m := cRoomFor _ _) (wpAny_cRoomFor sb0.room.units0 ?_)
  refine wpAny_bind (wpAny_bind (J.type.here ((PySem.W.looks_findIn I1.kIn M.1).here ?_)))
  show wpAny _ _ (if (some (Value.ref f)).isNone = true then _ else _) _ _ _
  rw [if_neg (by simp)]
  refine wpAny_bind (m := callSpecialIfBound? (.ref a) (Str.ofString "__repr__") _) (PySem.W.ifBound_K I1.kIn J M.1 M.2 (wpAny_mono go (fun r s' hr => ?_) fun _ _ y => y))
  cases r <;> first | exact hr.elim | skip
  obtain ⟨y, t, e1, hl, H', I', hq⟩ := hr
  cases e1
  refine wpAny_bind (wpAny_isInstance (T := "str") (b := true) (typeIs_str _ _ _) isSubtype_str_str (wpAny_pure ?_))
  exact wpAny_formatField_str ⟨.str _, H', I', ⟨_, rfl⟩, hq⟩ ⟨.str _, H', I'.tok _, ⟨_, rfl⟩, hq⟩ hl
end
end MM
namespace MM
open PySem PySem.Spec PySem.Calls PyProof.Rows L2
/-! ### texts that write numbers -/
/-- the place of a sign among the figures, or -1 -/
def fv (c : Nat) : Int := Txt.find FIG ⟨#[c]⟩
theorem fv_dg {d : Nat} (h : d < 16) : fv (dg d) = (d : Int) := fig_find h
theorem fv_cases (c : Nat) : (fv c = -1 ∧ ∀ d, d < 16 → c ≠ dg d) ∨ ∃ d, d < 16 ∧ c = dg d ∧ fv c = (d : Int) := by
  rcases find_spec FIG ⟨#[c]⟩ with h | ⟨i, h1, h2, h3⟩
  · refine .inl ⟨h, fun d hd e => ?_⟩
    have := fv_dg hd
    rw [← e] at this
    unfold fv at this
    omega
  · have hl : (⟨#[c]⟩ : Str).length = 1 := rfl
    rw [hl] at h2 h3
    rw [fig_len] at h2
    have e : c = dg i := by
      have e1 : (Builtin.Str.strSub FIG i (i + 1)).cps.toList = [dg i] := by
        have : ∀ d : Fin 16, (Builtin.Str.strSub FIG d.val (d.val + 1)).cps.toList = [dg d.val] := by decide +kernel
        exact this ⟨i, by omega⟩
      rw [h3] at e1
      have e2 : [c] = [dg i] := e1
      injection e2
    exact .inr ⟨i, by omega, e, h1⟩
def ninL (b : Int) (cs : List Nat) : Int := cs.foldl (fun a c => a * b + fv c) 0
theorem ninL_app (b : Int) (cs : List Nat) (c : Nat) : ninL b (cs ++ [c]) = ninL b cs * b + fv c := by
  unfold ninL
  rw [List.foldl_append]
  rfl
def hasD (cs : List Nat) : Bool := cs.head? == some 45
/-- what stands behind a - -/
def unm (cs : List Nat) : List Nat := if hasD cs then cs.tail else cs
def nin (b : Int) (t : Str) : Int := if hasD t.cps.toList then - ninL b (unm t.cps.toList) else ninL b (unm t.cps.toList)
theorem unm_len (cs : List Nat) : (unm cs).length ≤ cs.length := by
  unfold unm
  split
  · rw [List.length_tail]
    omega
  · exact Nat.le_refl _
theorem len_cps (t : Str) : t.length = t.cps.toList.length := by simp [Str.length]
theorem sub_d (t : Str) : Builtin.Str.subAt t ("-" : Str) 0 = hasD t.cps.toList := by
  have h := sub_iff t ("-" : Str)
  rw [dash_len, dash_cps] at h
  unfold hasD
  cases hc : t.cps.toList with
  | nil =>
    rw [hc] at h
    cases hb : Builtin.Str.subAt t ("-" : Str) 0 with
    | false => rfl
    | true => exact absurd (h.mp hb) (by simp)
  | cons c cs =>
    rw [hc] at h
    simp only [List.take_succ_cons, List.take_zero] at h
    by_cases e : c = 45
    · rw [e] at h ⊢
      rw [h.mpr rfl]
      rfl
    · have : Builtin.Str.subAt t ("-" : Str) 0 = false := by
        cases hb : Builtin.Str.subAt t ("-" : Str) 0 with
        | false => rfl
        | true => exact absurd (by have := h.mp hb; simpa using this) e
      rw [this]
      simp [e]
theorem rp_gen (t : Str) : (Txt.removeprefix t ("-" : Str)).cps.toList = unm t.cps.toList := by
  unfold Txt.removeprefix unm
  rw [sub_d]
  cases h : hasD t.cps.toList with
  | false => rfl
  | true =>
    have hne : t.cps.toList ≠ [] := by
      intro z
      rw [z] at h
      cases h
    have hl := len_cps t
    have hp := List.length_pos_iff.mpr hne
    rw [dash_len]
    show (if (t.length - 1 == t.length) = true then t else Builtin.Str.strSub t 1 t.length).cps.toList = _
    rw [if_neg (by simp; omega)]
    show (t.cps.extract 1 t.length).toList = t.cps.toList.tail
    rw [Array.toList_extract, hl]
    simp
    exact List.take_of_length_le (by simp)
theorem sw_gen (t : Str) : Txt.startswith t ("-" : Str) = hasD t.cps.toList := by
  unfold Txt.startswith
  rw [sub_d, dash_len]
  cases h : hasD t.cps.toList with
  | false => rw [Bool.and_false]
  | true =>
    have hne : t.cps.toList ≠ [] := by
      intro z
      rw [z] at h
      cases h
    have hp := List.length_pos_iff.mpr hne
    have hl := len_cps t
    rw [Bool.and_true]
    exact decide_eq_true (by omega)
def valN (b : Nat) (ds : List Nat) : Nat := ds.foldl (fun a d => a * b + d) 0
theorem valN_app (b : Nat) (ds : List Nat) (d : Nat) : valN b (ds ++ [d]) = valN b ds * b + d := by
  unfold valN
  rw [List.foldl_append]
  rfl
theorem valN_lsd {b : Nat} (hb : 2 ≤ b) (n : Nat) : valN b (lsd b n).reverse = n := by
  unfold valN
  rw [List.foldl_reverse]
  exact lsd_val hb n
/-- a list, from its end -/
theorem rev_ind {P : List Nat → Prop} (h0 : P []) (h1 : ∀ es d, P es → P (es ++ [d])) (ds : List Nat) : P ds := by
  rw [← List.reverse_reverse ds]
  generalize ds.reverse = rs
  induction rs with
  | nil => exact h0
  | cons d rs ih =>
    rw [List.reverse_cons]
    exact h1 _ d ih
theorem ninL_dg (b : Nat) (ds : List Nat) : (∀ d ∈ ds, d < 16) → ninL (b : Int) (ds.map dg) = ((valN b ds : Nat) : Int) := by
  refine rev_ind (P := fun ds => (∀ d ∈ ds, d < 16) → ninL (b : Int) (ds.map dg) = ((valN b ds : Nat) : Int)) (fun _ => rfl) (fun es d ih h => ?_) ds
  rw [List.map_append]
  show ninL (b : Int) (es.map dg ++ [dg d]) = _
  rw [ninL_app, valN_app, ih fun x hx => h x (List.mem_append_left _ hx), fv_dg (h d (by simp))]
  push_cast
  rfl
theorem valN_pos {b : Nat} (hb : 1 ≤ b) (ds : List Nat) : ds ≠ [] → ds.head? ≠ some 0 → 0 < valN b ds := by
  refine rev_ind (P := fun ds => ds ≠ [] → ds.head? ≠ some 0 → 0 < valN b ds) (fun h => absurd rfl h) (fun es d ih _ h => ?_) ds
  rw [valN_app]
  by_cases he : es = []
  · subst he
    have : d ≠ 0 := fun z => h (by rw [z]; rfl)
    omega
  · have h2 : es.head? ≠ some 0 := fun z => h (by
      cases es with
      | nil => exact absurd rfl he
      | cons e es => simpa using z)
    have := Nat.mul_pos (ih he h2) hb
    omega
theorem lsd_back {b : Nat} (hb : 2 ≤ b) (ds : List Nat) : ds ≠ [] → (∀ d ∈ ds, d < b) → (ds.head? = some 0 → ds = [0]) → lsd b (valN b ds) = ds.reverse := by
  refine rev_ind (P := fun ds => ds ≠ [] → (∀ d ∈ ds, d < b) → (ds.head? = some 0 → ds = [0]) → lsd b (valN b ds) = ds.reverse) (fun h => absurd rfl h) (fun es d ih _ hs h0 => ?_) ds
  have hd : d < b := hs d (by simp)
  rw [valN_app, List.reverse_append]
  by_cases he : es = []
  · subst he
    show lsd b (0 * b + d) = [d]
    rw [Nat.zero_mul, Nat.zero_add, lsd_lt hd]
  · have h2 : es.head? ≠ some 0 := fun z => by
      have h3 : (es ++ [d]).head? = some 0 := by
        cases es with
        | nil => exact absurd rfl he
        | cons e es => simpa using z
      have h4 := h0 h3
      have h5 : es.length + 1 = 1 := by
        have := congrArg List.length h4
        simpa using this
      exact he (List.length_eq_zero_iff.mp (by omega))
    have hp := valN_pos (b := b) (by omega) es he h2
    have hge : b ≤ valN b es * b + d := by
      have := Nat.le_mul_of_pos_left b hp
      omega
    rw [lsd_ge hb hge]
    have e1 : (valN b es * b + d) % b = d := by rw [Nat.mul_comm, Nat.mul_add_mod, Nat.mod_eq_of_lt hd]
    have e2 : (valN b es * b + d) / b = valN b es := by rw [Nat.mul_comm, Nat.mul_add_div (by omega), Nat.div_eq_of_lt hd, Nat.add_zero]
    rw [e1, e2, ih he (fun x hx => hs x (List.mem_append_left _ hx)) (fun z => absurd z h2)]
    rfl
theorem numT_cps (b : Nat) (i : Int) : (numT b i).cps.toList = (if i < 0 then [45] else []) ++ (lsd b i.natAbs).reverse.map dg := by
  unfold numT
  split
  · rw [app_cps, dash_cps]
    rfl
  · rfl
theorem num_ds {b : Nat} (hb : 2 ≤ b) (h16 : b ≤ 16) (i : Int) : unm (numT b i).cps.toList = (lsd b i.natAbs).reverse.map dg ∧ hasD (numT b i).cps.toList = decide (i < 0) := by
  have hne : (lsd b i.natAbs).reverse ≠ [] := fun z => lsd_ne b i.natAbs (List.reverse_eq_nil_iff.mp z)
  have sm : ∀ d ∈ (lsd b i.natAbs).reverse, d < 16 := fun d hd => Nat.lt_of_lt_of_le (lsd_small hb _ d (List.mem_reverse.mp hd)) h16
  rw [numT_cps]
  by_cases h : i < 0
  · rw [if_pos h, decide_eq_true h]
    exact ⟨rfl, rfl⟩
  · rw [if_neg h, decide_eq_false h]
    have hd : hasD ((lsd b i.natAbs).reverse.map dg) = false := by
      cases hc : (lsd b i.natAbs).reverse with
      | nil => exact absurd hc hne
      | cons d ds =>
        have := dg_ne (sm d (by rw [hc]; simp))
        show (some (dg d) == some 45) = false
        simp [this]
    refine ⟨?_, hd⟩
    show (if hasD ((lsd b i.natAbs).reverse.map dg) = true then _ else _) = _
    rw [hd]
    rfl
theorem nin_num {b : Nat} (hb : 2 ≤ b) (h16 : b ≤ 16) (i : Int) : nin (b : Int) (numT b i) = i := by
  obtain ⟨h1, h2⟩ := num_ds hb h16 i
  unfold nin
  rw [h1, h2, ninL_dg b _ fun d hd => Nat.lt_of_lt_of_le (lsd_small hb _ d (List.mem_reverse.mp hd)) h16, valN_lsd hb]
  by_cases h : i < 0
  · rw [decide_eq_true h, if_pos rfl]
    omega
  · rw [decide_eq_false h, if_neg Bool.false_ne_true]
    omega
/-- the law's look at the signs -/
structure Wr (b : Nat) (t : Str) : Prop where
  all : ∀ c ∈ unm t.cps.toList, 0 ≤ fv c ∧ fv c < (b : Int)
  ne : unm t.cps.toList ≠ []
  no : ¬ ((unm t.cps.toList).head? = some 48 ∧ unm t.cps.toList ≠ [48])
  nd : t.cps.toList ≠ [45, 48]
theorem wr_num {b : Nat} (hb : 2 ≤ b) (h16 : b ≤ 16) (i : Int) : Wr b (numT b i) := by
  obtain ⟨h1, h2⟩ := num_ds hb h16 i
  have sm : ∀ d ∈ (lsd b i.natAbs).reverse, d < b := fun d hd => lsd_small hb _ d (List.mem_reverse.mp hd)
  have hne : (lsd b i.natAbs).reverse ≠ [] := fun z => lsd_ne b i.natAbs (List.reverse_eq_nil_iff.mp z)
  -- a nought ahead stands alone
  have lead : (lsd b i.natAbs).reverse.head? = some 0 → (lsd b i.natAbs).reverse = [0] := by
    generalize i.natAbs = n
    intro h
    rw [List.head?_reverse] at h
    induction n using Nat.strongRecOn with
    | _ n ih =>
      by_cases hn : n < b
      · rw [lsd_lt hn] at h ⊢
        have : n = 0 := by simpa using h
        rw [this]
        rfl
      · exfalso
        rw [lsd_ge hb (by omega)] at h
        have hnn := lsd_ne b (n / b)
        have h3 : (lsd b (n / b)).getLast? = some 0 := by
          cases hl : lsd b (n / b) with
          | nil => exact absurd hl hnn
          | cons x xs =>
            rw [hl] at h
            simpa using h
        have h4 := ih (n / b) (Nat.div_lt_self (by omega) (by omega)) h3
        have h5 : lsd b (n / b) = [0] := by
          have := congrArg List.reverse h4
          simpa using this
        have h6 := lsd_val hb (n / b)
        rw [h5] at h6
        have h7 : n / b = 0 := by simpa using h6.symm
        have := (Nat.div_eq_zero_iff).mp h7
        omega
  have dz : ∀ d, d < 16 → dg d = 48 → d = 0 := by decide
  refine ⟨?_, ?_, ?_, ?_⟩
  · rw [h1]
    intro c hc
    obtain ⟨d, hd, rfl⟩ := List.mem_map.mp hc
    have := sm d hd
    rw [fv_dg (by omega)]
    omega
  · rw [h1]
    intro z
    exact hne (List.map_eq_nil_iff.mp z)
  · rw [h1]
    rintro ⟨h3, h4⟩
    apply h4
    have h5 : (lsd b i.natAbs).reverse.head? = some 0 := by
      cases hc : (lsd b i.natAbs).reverse with
      | nil => exact absurd hc hne
      | cons d ds =>
        rw [hc] at h3
        have e : dg d = 48 := by simpa using h3
        have := dz d (Nat.lt_of_lt_of_le (sm d (by rw [hc]; simp)) h16) e
        rw [this]
        rfl
    rw [lead h5]
    rfl
  · intro z
    have hD : hasD (numT b i).cps.toList = true := by rw [z]; rfl
    rw [h2] at hD
    have hi : i < 0 := of_decide_eq_true hD
    have h3 : unm (numT b i).cps.toList = [48] := by rw [z]; rfl
    rw [h1] at h3
    have h4 : (lsd b i.natAbs).reverse = [0] := by
      cases hc : (lsd b i.natAbs).reverse with
      | nil => exact absurd hc hne
      | cons d ds =>
        rw [hc] at h3
        have e : dg d = 48 ∧ ds = [] := by simpa using h3
        rw [e.2, dz d (Nat.lt_of_lt_of_le (sm d (by rw [hc]; simp)) h16) e.1]
    have h5 := valN_lsd hb i.natAbs
    rw [h4] at h5
    have : i.natAbs = 0 := by
      rw [← h5]
      show 0 * b + 0 = 0
      omega
    omega
theorem num_wr {b : Nat} (hb : 2 ≤ b) (h16 : b ≤ 16) {t : Str} (w : Wr b t) : t = numT b (nin (b : Int) t) := by
  -- the signs are figures
  obtain ⟨ds, hds, sm⟩ : ∃ ds : List Nat, unm t.cps.toList = ds.map dg ∧ ∀ d ∈ ds, d < b := by
    have all := w.all
    generalize unm t.cps.toList = cs at all
    induction cs with
    | nil => exact ⟨[], rfl, fun d h => by cases h⟩
    | cons c cs ih =>
      obtain ⟨ds, h1, h2⟩ := ih fun x hx => all x (List.mem_cons_of_mem _ hx)
      have hc := all c (by simp)
      rcases fv_cases c with ⟨h3, _⟩ | ⟨d, h3, h4, h5⟩
      · omega
      · refine ⟨d :: ds, by rw [List.map_cons, h1, h4], fun x hx => ?_⟩
        rcases List.mem_cons.mp hx with rfl | hx
        · omega
        · exact h2 x hx
  have ne : ds ≠ [] := fun z => w.ne (by rw [hds, z]; rfl)
  have dz : ∀ d, d < 16 → dg d = 48 → d = 0 := by decide
  have lead : ds.head? = some 0 → ds = [0] := fun h => by
    have h3 : (unm t.cps.toList).head? = some 48 := by
      rw [hds]
      cases ds with
      | nil => exact absurd rfl ne
      | cons d ds =>
        have : d = 0 := by simpa using h
        rw [this]
        rfl
    have h4 : unm t.cps.toList = [48] := Classical.byContradiction fun z => w.no ⟨h3, z⟩
    rw [hds] at h4
    cases ds with
    | nil => exact absurd rfl ne
    | cons d ds =>
      have e : dg d = 48 ∧ ds = [] := by simpa using h4
      rw [e.2, dz d (Nat.lt_of_lt_of_le (sm d (by simp)) h16) e.1]
  have hv : ninL (b : Int) (unm t.cps.toList) = ((valN b ds : Nat) : Int) := by rw [hds, ninL_dg b ds fun d hd => Nat.lt_of_lt_of_le (sm d hd) h16]
  have hl := lsd_back hb ds ne sm lead
  refine str_ext ?_
  rw [numT_cps]
  unfold nin
  rw [hv]
  cases hD : hasD t.cps.toList with
  | true =>
    rw [if_pos rfl]
    have ht : t.cps.toList = 45 :: ds.map dg := by
      have h5 : unm t.cps.toList = t.cps.toList.tail := by unfold unm; rw [hD]; rfl
      cases hc : t.cps.toList with
      | nil =>
        rw [hc] at hD
        cases hD
      | cons c cs =>
        rw [hc] at hD h5
        have : c = 45 := by
          unfold hasD at hD
          simpa using hD
        rw [this]
        congr 1
        rw [← hds, hc, h5]
        rfl
    have hp : 0 < valN b ds := by
      by_cases h0 : ds.head? = some 0
      · exfalso
        have := lead h0
        rw [this] at ht
        exact w.nd ht
      · exact valN_pos (by omega) ds ne h0
    rw [if_pos (by omega), ht]
    have e : (-((valN b ds : Nat) : Int)).natAbs = valN b ds := by omega
    rw [e, hl, List.reverse_reverse]
    rfl
  | false =>
    rw [if_neg Bool.false_ne_true, if_neg (by omega)]
    have ht : t.cps.toList = ds.map dg := by
      rw [← hds]
      unfold unm
      rw [hD]
      rfl
    rw [ht]
    have e : (((valN b ds : Nat) : Int)).natAbs = valN b ds := by omega
    rw [e, hl, List.reverse_reverse]
    rfl
theorem ninL_sz {b : Nat} (h16 : b ≤ 16) (cs : List Nat) : (ninL (b : Int) cs).natAbs < 16 ^ (cs.length + 1) := by
  refine rev_ind (P := fun cs => (ninL (b : Int) cs).natAbs < 16 ^ (cs.length + 1)) (by show 0 < 16; decide) (fun es c ih => ?_) cs
  rw [ninL_app, List.length_append]
  have h1 : (fv c).natAbs ≤ 15 := by
    rcases fv_cases c with ⟨h, _⟩ | ⟨d, h3, h4, h5⟩ <;> omega
  have h2 : (ninL (b : Int) es * (b : Int) + fv c).natAbs ≤ (ninL (b : Int) es).natAbs * b + 15 := by
    have h3 := Int.natAbs_add_le (ninL (b : Int) es * (b : Int)) (fv c)
    rw [Int.natAbs_mul, Int.natAbs_natCast] at h3
    omega
  have h4 : (ninL (b : Int) es).natAbs * b ≤ (ninL (b : Int) es).natAbs * 16 := Nat.mul_le_mul_left _ h16
  have h5 : 16 ^ (es.length + [c].length + 1) = 16 ^ (es.length + 1) * 16 := by
    rw [show es.length + [c].length + 1 = (es.length + 1) + 1 from rfl, Nat.pow_succ]
  rw [h5]
  omega
theorem nin_sz {b : Nat} (h16 : b ≤ 16) {t : Str} {n : Nat} (hl : t.length ≤ n) : (nin (b : Int) t).natAbs < 2 ^ (4 * (n + 1)) := by
  have h1 := ninL_sz h16 (unm t.cps.toList)
  have h2 := unm_len t.cps.toList
  have h3 : 16 ^ ((unm t.cps.toList).length + 1) ≤ 16 ^ (n + 1) := Nat.pow_le_pow_right (by decide) (by rw [len_cps] at hl; omega)
  have h4 : (16 : Nat) ^ (n + 1) = 2 ^ (4 * (n + 1)) := by rw [Nat.pow_mul]
  unfold nin
  split
  · rw [Int.natAbs_neg]
    omega
  · omega
/-! ### == of flat things inside a builtin -/
theorem eqB_flat {X : Cx} : EqB X 0 (fun x y _ b => flatV x = true ∧ flatV y = true ∧ eqV x y = b) := by
  intro A pins s σ H x y u v b sb I rx ry d
  obtain ⟨fx, fy, e⟩ := d
  have q := eqAt_V (A := A) (s := s) rx ry fx fy
  rw [e] at q
  exact q X.prog X.w X.xe _ ⟨rfl, H, I, Ext.rfl'⟩
end MM
namespace MM
open PySem PySem.Spec PySem.Calls PyProof.Rows L2
/-! ### figures by ten, and texts cut at a sign -/
def TEN : Str := "0123456789"
theorem ten_cps : TEN.cps.toList = [48, 49, 50, 51, 52, 53, 54, 55, 56, 57] := by decide +kernel
theorem mem_ten (c : Nat) : c ∈ TEN.cps.toList ↔ 48 ≤ c ∧ c ≤ 57 := by
  rw [ten_cps]
  constructor
  · intro h
    simp only [List.mem_cons, List.not_mem_nil, or_false] at h
    omega
  · intro h
    obtain ⟨d, rfl⟩ : ∃ d, c = 48 + d := ⟨c - 48, by omega⟩
    have : d < 10 := by omega
    simp only [List.mem_cons, List.not_mem_nil, or_false]
    omega
theorem fv_ten {c : Nat} (h : 48 ≤ c ∧ c ≤ 57) : fv c = ((c - 48 : Nat) : Int) := by
  obtain ⟨d, rfl⟩ : ∃ d, c = 48 + d := ⟨c - 48, by omega⟩
  have hd : d < 10 := by omega
  have e : 48 + d = dg d := by
    have : ∀ d, d < 10 → 48 + d = dg d := by decide
    exact this d hd
  rw [e, fv_dg (by omega), ← e]
  omega
theorem ten_fv {c : Nat} : (0 ≤ fv c ∧ fv c < ((10 : Nat) : Int)) ↔ 48 ≤ c ∧ c ≤ 57 := by
  constructor
  · rintro ⟨h0, h1⟩
    rcases fv_cases c with ⟨h, _⟩ | ⟨d, h3, rfl, h5⟩
    · omega
    · have : ∀ d, d < 10 → 48 ≤ dg d ∧ dg d ≤ 57 := by decide
      exact this d (by omega)
  · intro h
    rw [fv_ten h]
    omega
theorem ninL_ten (cs : List Nat) : (∀ c ∈ cs, 48 ≤ c ∧ c ≤ 57) → ninL ((10 : Nat) : Int) cs = ((NumText.digitsVal cs : Nat) : Int) := by
  refine rev_ind (P := fun cs => (∀ c ∈ cs, 48 ≤ c ∧ c ≤ 57) → ninL ((10 : Nat) : Int) cs = ((NumText.digitsVal cs : Nat) : Int)) (fun _ => rfl) (fun es c ih h => ?_) cs
  rw [ninL_app, ih fun x hx => h x (List.mem_append_left _ hx), fv_ten (h c (by simp))]
  have e : NumText.digitsVal (es ++ [c]) = NumText.digitsVal es * 10 + (c - 48) := by
    unfold NumText.digitsVal
    rw [List.foldl_append]
    rfl
  rw [e]
  omega
/-- int(text) of figures -/
theorem int_fig {z : Str} (h : ∀ c ∈ z.cps.toList, 48 ≤ c ∧ c ≤ 57) (hne : z.cps.toList ≠ []) (hl : z.length ≤ 98) : PySem.intText? z = some (ninL ((10 : Nat) : Int) z.cps.toList) := by
  rw [ninL_ten _ h]
  exact intText_digits h hne (Nat.le_trans hl (by decide))
/-- a text cut at its first sign of one kind -/
theorem part_cases {y : Str} {c : Nat} (ey : TL.tl y = [c]) (t : Str) : (Txt.partition t y = (t, Str.empty, Str.empty) ∧ c ∉ t.cps.toList) ∨ ∃ a b : Str, Txt.partition t y = (a, y, b) ∧ t = a ++ y ++ b ∧ c ∉ a.cps.toList := by
  have hy : TL.tl y ≠ [] := by rw [ey]; simp
  have yl : y.length = 1 := by rw [TL.len_tl, ey]; rfl
  have no : ∀ i, i < t.length → ¬ StrLaws.At t y t.length i → t.cps.toList[i]? ≠ some c := fun i hi h e => by
    refine h ((TL.at_iff hy i).mpr ?_)
    rw [ey]
    have hi' : i < (TL.tl t).length := by rw [← TL.len_tl]; exact hi
    have e1 : (TL.tl t).drop i = (TL.tl t)[i] :: (TL.tl t).drop (i + 1) := List.drop_eq_getElem_cons hi'
    have e2 : (TL.tl t)[i] = c := by
      rw [List.getElem?_eq_getElem hi'] at e
      exact Option.some.inj e
    rw [e1, e2]
    exact TL.pre_self [c] _
  rcases PyProof.Rows.partition_whole t y with ⟨e, hn⟩ | ⟨i, e, hi, hn⟩
  · refine .inl ⟨e, fun hm => ?_⟩
    obtain ⟨i, h⟩ := List.mem_iff_getElem?.mp hm
    have hi : i < t.length := by
      rw [TL.len_tl]
      exact (List.getElem?_eq_some_iff.mp h).1
    exact no i hi (hn i) h
  · refine .inr ⟨_, _, e, ?_, ?_⟩
    · have hb : i + y.length ≤ t.length := hi.1
      have h1 := (TL.at_iff hy i).mp hi
      have h2 : ((TL.tl t).drop i).take (TL.tl y).length = TL.tl y := eq_of_beq h1
      refine TL.ext_tl ?_
      rw [TL.tl_append, TL.tl_append, TL.tl_strSub_end, TL.tl_strSub, List.drop_zero, Nat.sub_zero, TL.len_tl y]
      have h3 : (TL.tl t).drop i = TL.tl y ++ (TL.tl t).drop (i + (TL.tl y).length) := by
        rw [← TL.drop_two]
        have := (List.take_append_drop (TL.tl y).length ((TL.tl t).drop i)).symm
        rw [h2] at this
        exact this
      rw [List.append_assoc, ← h3, List.take_append_drop]
    · intro hm
      have e1 : (Builtin.Str.strSub t 0 i).cps.toList = (t.cps.toList).take i := by
        have := TL.tl_strSub t 0 i
        rw [List.drop_zero, Nat.sub_zero] at this
        exact this
      rw [e1] at hm
      obtain ⟨k, h⟩ := List.mem_iff_getElem?.mp hm
      have hk := (List.getElem?_eq_some_iff.mp h).1
      rw [List.length_take] at hk
      have hk2 : k < i := by omega
      have hlt : k < t.length := by
        rw [TL.len_tl]
        show k < t.cps.toList.length
        omega
      refine no k hlt (hn k hk2) ?_
      rw [List.getElem?_take_of_lt hk2] at h
      exact h
theorem slash_tl : TL.tl ("/" : Str) = [47] := by decide +kernel
theorem emp_tl : TL.tl Str.empty = [] := rfl
/-- no sign of a written number is a stroke -/
theorem num_noslash {b : Nat} (hb : 2 ≤ b) (h16 : b ≤ 16) (i : Int) : 47 ∉ (numT b i).cps.toList := by
  rw [numT_cps]
  intro h
  rcases List.mem_append.mp h with h | h
  · split at h
    · simp at h
    · cases h
  · obtain ⟨d, hd, e⟩ := List.mem_map.mp h
    have h1 := lsd_small hb _ d (List.mem_reverse.mp hd)
    have : ∀ d, d < 16 → dg d ≠ 47 := by decide
    exact this d (by omega) e
end MM
namespace MM
open PySem PySem.Spec PySem.Calls PyProof.Rows L2
open PySem.Sem (wp)
/-! ### zip of a list and a tuple: over any two sources -/
/-- what an iterator at `it` over the object at `l` tells, place by place -/
structure Src (P : Program) (w : World) (it l : Addr) (xs : Array Value) (St : Heap → Nat → Prop) : Prop where
  ext : ∀ {h h' : Heap} {k : Nat}, St h k → (∀ c o, c = it ∨ c = l → h.get? c = some o → h'.get? c = some o) → St h' k
  has : ∀ {h : Heap} {k : Nat}, St h k → ∃ o, h.get? it = some o ∧ ∀ v, o.data ≠ .cell v
  item : ∀ {A : Around} {E : Value → Shared → Prop} {s : Shared} {k : Nat} {x : Value} {Q : Value → Shared → Prop}, St s.heap k → xs[k]? = some x →
    (∀ h', St h' (k + 1) → Heap.SameBut it s.heap h' → Q x { s with heap := h' }) → wpAny (model P w) A (Builtin.SmallTypes.nextOf (.ref it)) Q E s
  fin : ∀ {A : Around} {E : Value → Shared → Prop} {s : Shared} {k : Nat} {Q : Value → Shared → Prop}, A.handled = none → St s.heap k → xs[k]? = none →
    (∀ h' e, Heap.ExtBut it s.heap h' → (∃ o, h'.get? e = some o ∧ o.cls = .type "StopIteration") → E (.ref e) { s with heap := h' }) → wpAny (model P w) A (Builtin.SmallTypes.nextOf (.ref it)) Q E s
def StL' (it l : Addr) (xs : Array Value) : Heap → Nat → Prop := fun h k => h.IsListIter it l k ∧ h.IsList l xs
def StT' (it l : Addr) (xs : Array Value) : Heap → Nat → Prop := fun h k => h.IsTupleIter it l k ∧ h.IsTuple l xs
theorem src_list {P : Program} {w : World} {it l : Addr} {xs : Array Value} (ne : l ≠ it) : Src P w it l xs (StL' it l xs) where
  ext := fun {h h' k} st f => by
    obtain ⟨h1, o, e, r⟩ := st
    exact ⟨h1.at fun o q => f it o (.inl rfl) q, o, f l o (.inr rfl) e, r⟩
  has := fun {h k} st => by
    obtain ⟨⟨o, e, _, d⟩, _⟩ := st
    exact ⟨o, e, fun v q => by rw [d] at q; cases q⟩
  item := fun {A E s k x Q} st hx hQ => by
    refine wpAny_nextOf_list_item st.1 st.2 hx fun h' h1 sb => hQ h' ⟨h1, st.2.extBut sb.extBut ne⟩ sb
  fin := fun {A E s k Q} hh st hx hE => wpAny_nextOf_list_end hh st.1 st.2 hx hE
theorem src_tup {P : Program} {w : World} {it l : Addr} {xs : Array Value} (ne : l ≠ it) : Src P w it l xs (StT' it l xs) where
  ext := fun {h h' k} st f => by
    obtain ⟨h1, o, e, r⟩ := st
    exact ⟨h1.at fun o q => f it o (.inl rfl) q, o, f l o (.inr rfl) e, r⟩
  has := fun {h k} st => by
    obtain ⟨⟨o, e, _, d⟩, _⟩ := st
    exact ⟨o, e, fun v q => by rw [d] at q; cases q⟩
  item := fun {A E s k x Q} st hx hQ => by
    refine RZ.nextOf_tuple_item st.1 st.2 hx fun h' h1 sb => hQ h' ⟨h1, st.2.extBut sb.extBut ne⟩ sb
  fin := fun {A E s k Q} hh st hx hE => RZ.nextOf_tuple_end hh st.1 st.2 hx hE
section
variable {P : Program} {w : World} {A : Around} {E : Value → Shared → Prop} {s : Shared}
theorem zs_item {z TI TO i1 i2 l1 l2 : Addr} {k1 k2 : Nat} {xs ys : Array Value} {S1 S2 : Heap → Nat → Prop} {x y a b : Value} {Q : Value → Shared → Prop} (D : ZipApart z TI TO i1 i2 l1 l2) (R1 : Src P w i1 l1 xs S1) (R2 : Src P w i2 l2 ys S2)
    (hz : IsZip s.heap z TI TO .none) (hTI : IsPair s.heap TI (.ref i1) (.ref i2)) (hTO : IsPair s.heap TO a b) (h1 : S1 s.heap k1) (h2 : S2 s.heap k2) (hx : xs[k1]? = some x) (hy : ys[k2]? = some y)
    (hQ : ∀ h', IsZip h' z TI TO (rawInt s.heap.objs.size) → IsPair h' TO x y → S1 h' (k1 + 1) → S2 h' (k2 + 1) → IsPair h' s.heap.objs.size x y → h'.objs.size = s.heap.objs.size + 1 →
      (∀ c o, c ≠ z → c ≠ TO → c ≠ i1 → c ≠ i2 → s.heap.get? c = some o → h'.get? c = some o) → Q (.ref s.heap.objs.size) { s with heap := h' }) :
    wpAny (model P w) A (Builtin.«zip.__next__» ⟨[.ref z], []⟩) (fun fin s' => ∃ v, fin = .done (.ret v) ∧ Q v s') E s := by
  show wpAny _ _ (field (.ref z) 2 >>= _) _ _ _
  refine wpAny_bind (wpAny_field hz rfl (x := .bool false) rfl ?_)
  show wpAny _ _ (field (.ref z) 3 >>= _) _ _ _
  refine wpAny_bind (wpAny_field hz rfl (x := .ref TI) rfl (wpAny_bind (wpAny_seqItems hTI rfl ?_)))
  show wpAny _ _ (Builtin.SmallTypes.ownedTupleIsFree (.ref z) >>= _) _ _ _
  unfold Builtin.SmallTypes.ownedTupleIsFree
  refine wpAny_bind (wpAny_bind (wpAny_field hz rfl (x := .none) rfl (wpAny_pure ?_)))
  simp only [if_true]
  refine wpAny_bind (wpAny_rule (wpAny_bind (wpAny_field hz rfl (x := .ref TO) rfl (wpAny_bind (wpAny_setField_rec hz (by simp) fun hA zA sA => ?_)))))
  have zA' : IsZip hA z TI TO .ellipsis := zA
  have kA : ∀ c o, c ≠ z → s.heap.get? c = some o → hA.get? c = some o := fun c o n e => sA.extBut _ _ n e
  refine wpAny_bind ?_
  simp only [List.zipIdx_cons, List.zipIdx_nil, List.forIn_cons, List.forIn_nil]
  -- the first source
  refine wpAny_bind (wpAny_bind (wpAny_onRaise ?_))
  show wpAny _ _ (Builtin.SmallTypes.nextOf (.ref i1) >>= _) _ _ _
  refine wpAny_bind (R1.item (R1.ext h1 fun c o hc e => kA c o (by rcases hc with rfl | rfl; exact D.i1z; exact D.l1z) e) hx fun hB h1B sB => wpAny_pure ?_)
  have TOB : IsPair hB TO a b := sB.extBut _ _ D.TOi1 (kA _ _ D.TOz hTO)
  refine wpAny_bind (wpAny_seqItems TOB rfl (wpAny_bind (wpAny_updateSeq_pair TOB fun hC TOC sC => ?_)))
  have TOC' : IsPair hC TO x b := TOC
  refine wpAny_bind (wpAny_letGo (wpAny_pure ?_))
  have kC : ∀ c o, c ≠ z → c ≠ i1 → c ≠ TO → s.heap.get? c = some o → hC.get? c = some o := fun c o n1 n2 n3 e => sC.extBut _ _ n3 (sB.extBut _ _ n2 (kA _ _ n1 e))
  -- the second one
  refine wpAny_bind (wpAny_bind (wpAny_onRaise ?_))
  show wpAny _ _ (Builtin.SmallTypes.nextOf (.ref i2) >>= _) _ _ _
  refine wpAny_bind (R2.item (R2.ext h2 fun c o hc e => kC c o (by rcases hc with rfl | rfl; exact D.i2z; exact D.l2z) (by rcases hc with rfl | rfl; exact D.i12.symm; exact D.l2i1) (by rcases hc with rfl | rfl; exact D.TOi2.symm; exact D.l2TO) e) hy fun hD h2D sD => wpAny_pure ?_)
  have TOD : IsPair hD TO x b := sD.extBut _ _ D.TOi2 TOC'
  refine wpAny_bind (wpAny_seqItems TOD rfl (wpAny_bind (wpAny_updateSeq_pair TOD fun hF TOF sF => ?_)))
  have TOF' : IsPair hF TO x y := TOF
  refine wpAny_bind (wpAny_letGo (wpAny_pure (wpAny_pure ?_)))
  refine wpAny_bind (wpAny_seqItems TOF' rfl (wpAny_bind (wpAny_newTuple ?_)))
  have size : hF.objs.size = s.heap.objs.size := by rw [sF.1, sD.1, sC.1, sB.1, sA.1]
  have zF : IsZip hF z TI TO .ellipsis := sF.extBut _ _ D.TOz.symm (sD.extBut _ _ D.i2z.symm (sC.extBut _ _ D.TOz.symm (sB.extBut _ _ D.i1z.symm zA')))
  have kF : ∀ c o, c ≠ z → c ≠ TO → c ≠ i1 → c ≠ i2 → s.heap.get? c = some o → hF.get? c = some o := fun c o c1 c2 c3 c4 e => sF.extBut _ _ c2 (sD.extBut _ _ c4 (kC _ _ c1 c3 c2 e))
  have h1F : S1 hF (k1 + 1) := R1.ext h1B fun c o hc e => sF.extBut _ _ (by rcases hc with rfl | rfl; exact D.TOi1.symm; exact D.l1TO) (sD.extBut _ _ (by rcases hc with rfl | rfl; exact D.i12; exact D.l1i2) (sC.extBut _ _ (by rcases hc with rfl | rfl; exact D.TOi1.symm; exact D.l1TO) e))
  have h2F : S2 hF (k2 + 1) := R2.ext h2D fun c o hc e => sF.extBut _ _ (by rcases hc with rfl | rfl; exact D.TOi2.symm; exact D.l2TO) e
  have zlt : z < hF.objs.size := Heap.lt_size zF
  show wpAny _ _ (Builtin.SmallTypes.ownedTupleHandOut (.ref z) (.ref hF.objs.size) >>= _) _ _ _
  unfold Builtin.SmallTypes.ownedTupleHandOut
  have zG : IsZip (hF.push { cls := .type "tuple", data := .seq #[x, y] }) z TI TO .ellipsis := Heap.get?_push_of_some _ zF
  refine wpAny_bind (wpAny_bind (wpAny_setField_rec zG (by simp) fun hI zI sI => ?_))
  have zI' : IsZip hI z TI TO (rawInt hF.objs.size) := zI
  refine wpAny_setField_rec zI' (by simp) fun hJ zJ sJ => ?_
  have zJ' : IsZip hJ z TI TO (rawInt hF.objs.size) := zJ
  have up : ∀ c o, c ≠ z → hF.get? c = some o → hJ.get? c = some o := fun c o c1 e => sJ.extBut _ _ c1 (sI.extBut _ _ c1 (Heap.get?_push_of_some _ e))
  have new : IsPair hJ hF.objs.size x y := sJ.extBut _ _ (Nat.ne_of_gt zlt) (sI.extBut _ _ (Nat.ne_of_gt zlt) (Heap.get?_push_size _ rfl))
  have szJ : hJ.objs.size = hF.objs.size + 1 := by rw [sJ.1, sI.1, Heap.size_push]
  rw [size] at zJ' new szJ
  refine wpAny_pure ⟨_, rfl, ?_⟩
  show Q (.ref hF.objs.size) _
  rw [size]
  exact hQ hJ zJ' (up _ _ D.TOz TOF') (R1.ext h1F fun c o hc e => up c o (by rcases hc with rfl | rfl; exact D.i1z; exact D.l1z) e) (R2.ext h2F fun c o hc e => up c o (by rcases hc with rfl | rfl; exact D.i2z; exact D.l2z) e) new szJ fun c o c1 c2 c3 c4 e => up c o c1 (kF c o c1 c2 c3 c4 e)
theorem zs_end {z TI TO i1 i2 l1 l2 : Addr} {k1 k2 : Nat} {xs ys : Array Value} {S1 S2 : Heap → Nat → Prop} {a b : Value} {Q : Fin → Shared → Prop} (hh : A.handled = none) (D : ZipApart z TI TO i1 i2 l1 l2) (R1 : Src P w i1 l1 xs S1) (R2 : Src P w i2 l2 ys S2)
    (hz : IsZip s.heap z TI TO .none) (hTI : IsPair s.heap TI (.ref i1) (.ref i2)) (hTO : IsPair s.heap TO a b) (h1 : S1 s.heap k1) (h2 : S2 s.heap k2) (hend : xs[k1]? = none ∨ ys[k2]? = none)
    (hE : ∀ h' e, (∀ c o, c ≠ z → c ≠ TO → c ≠ i1 → c ≠ i2 → s.heap.get? c = some o → h'.get? c = some o) → (∃ o, h'.get? e = some o ∧ o.cls = .type "StopIteration") → E (.ref e) { s with heap := h' }) :
    wpAny (model P w) A (Builtin.«zip.__next__» ⟨[.ref z], []⟩) Q E s := by
  show wpAny _ _ (field (.ref z) 2 >>= _) _ _ _
  refine wpAny_bind (wpAny_field hz rfl (x := .bool false) rfl ?_)
  show wpAny _ _ (field (.ref z) 3 >>= _) _ _ _
  refine wpAny_bind (wpAny_field hz rfl (x := .ref TI) rfl (wpAny_bind (wpAny_seqItems hTI rfl ?_)))
  show wpAny _ _ (Builtin.SmallTypes.ownedTupleIsFree (.ref z) >>= _) _ _ _
  unfold Builtin.SmallTypes.ownedTupleIsFree
  refine wpAny_bind (wpAny_bind (wpAny_field hz rfl (x := .none) rfl (wpAny_pure ?_)))
  simp only [if_true]
  refine wpAny_bind (wpAny_rule (wpAny_bind (wpAny_field hz rfl (x := .ref TO) rfl (wpAny_bind (wpAny_setField_rec hz (by simp) fun hA zA sA => ?_)))))
  have zA' : IsZip hA z TI TO .ellipsis := zA
  have kA : ∀ c o, c ≠ z → s.heap.get? c = some o → hA.get? c = some o := fun c o n e => sA.extBut _ _ n e
  have h1A : S1 hA k1 := R1.ext h1 fun c o hc e => kA c o (by rcases hc with rfl | rfl; exact D.i1z; exact D.l1z) e
  refine wpAny_bind ?_
  simp only [List.zipIdx_cons, List.zipIdx_nil, List.forIn_cons, List.forIn_nil]
  refine wpAny_bind (wpAny_bind (wpAny_onRaise ?_))
  show wpAny _ _ (Builtin.SmallTypes.nextOf (.ref i1) >>= _) _ _ _
  have last : ∀ (hM : Heap) (e : Addr), IsZip hM z TI TO .ellipsis → (∃ o, hM.get? e = some o ∧ o.cls = .type "StopIteration") → e ≠ z := fun hM e zM he q => by
    obtain ⟨o, ho, hc⟩ := he
    subst q
    rw [zM] at ho
    cases ho
    simp at hc
  by_cases hx : xs[k1]? = none
  · refine wpAny_bind (R1.fin hh h1A hx fun hM e sM he => ?_)
    have zM : IsZip hM z TI TO .ellipsis := sM _ _ D.i1z.symm zA'
    have ne := last hM e zM he
    obtain ⟨o, ho, hc⟩ := he
    exact wpAny_setField_rec zM (by simp) fun hN _ sN => hE hN e (fun c o c1 _ c3 _ q => sN.extBut _ _ c1 (sM _ _ c3 (kA _ _ c1 q))) ⟨o, sN.extBut _ _ ne ho, hc⟩
  · have hy : ys[k2]? = none := hend.resolve_left hx
    obtain ⟨x, hx'⟩ : ∃ x, xs[k1]? = some x := Option.ne_none_iff_exists'.mp hx
    refine wpAny_bind (R1.item h1A hx' fun hB h1B sB => wpAny_pure ?_)
    have TOB : IsPair hB TO a b := sB.extBut _ _ D.TOi1 (kA _ _ D.TOz hTO)
    refine wpAny_bind (wpAny_seqItems TOB rfl (wpAny_bind (wpAny_updateSeq_pair TOB fun hC TOC sC => ?_)))
    refine wpAny_bind (wpAny_letGo (wpAny_pure ?_))
    have kC : ∀ c o, c ≠ z → c ≠ i1 → c ≠ TO → s.heap.get? c = some o → hC.get? c = some o := fun c o n1 n2 n3 e => sC.extBut _ _ n3 (sB.extBut _ _ n2 (kA _ _ n1 e))
    refine wpAny_bind (wpAny_bind (wpAny_onRaise ?_))
    show wpAny _ _ (Builtin.SmallTypes.nextOf (.ref i2) >>= _) _ _ _
    refine wpAny_bind (R2.fin hh (R2.ext h2 fun c o hc e => kC c o (by rcases hc with rfl | rfl; exact D.i2z; exact D.l2z) (by rcases hc with rfl | rfl; exact D.i12.symm; exact D.l2i1) (by rcases hc with rfl | rfl; exact D.TOi2.symm; exact D.l2TO) e) hy fun hM e sM he => ?_)
    have zM : IsZip hM z TI TO .ellipsis := sM _ _ D.i2z.symm (sC.extBut _ _ D.TOz.symm (sB.extBut _ _ D.i1z.symm zA'))
    have ne := last hM e zM he
    obtain ⟨o, ho, hc⟩ := he
    exact wpAny_setField_rec zM (by simp) fun hN _ sN => hE hN e (fun c o c1 c2 c3 c4 q => sN.extBut _ _ c1 (sM _ _ c4 (kC _ _ c1 c3 c2 q))) ⟨o, sN.extBut _ _ ne ho, hc⟩
theorem zs_next {z TI TO i1 i2 l1 l2 : Addr} {k1 k2 : Nat} {xs ys : Array Value} {S1 S2 : Heap → Nat → Prop} {x y a b : Value} {Q : Option Value → Shared → Prop} (D : ZipApart z TI TO i1 i2 l1 l2) (R1 : Src P w i1 l1 xs S1) (R2 : Src P w i2 l2 ys S2)
    (hz : IsZip s.heap z TI TO .none) (hTI : IsPair s.heap TI (.ref i1) (.ref i2)) (hTO : IsPair s.heap TO a b) (h1 : S1 s.heap k1) (h2 : S2 s.heap k2) (hx : xs[k1]? = some x) (hy : ys[k2]? = some y)
    (hQ : ∀ h', IsZip h' z TI TO (rawInt s.heap.objs.size) → IsPair h' TO x y → S1 h' (k1 + 1) → S2 h' (k2 + 1) → IsPair h' s.heap.objs.size x y → h'.objs.size = s.heap.objs.size + 1 →
      (∀ c o, c ≠ z → c ≠ TO → c ≠ i1 → c ≠ i2 → s.heap.get? c = some o → h'.get? c = some o) → Q (some (.ref s.heap.objs.size)) { s with heap := h' }) : wpAny (model P w) A (pyNext (.ref z)) Q E s := by
  have hT : s.TypeIs (.ref z) "zip" := ⟨_, hz, rfl⟩
  unfold pyNext
  exact wpAny_bind (wpAny_attempt (wpAny_callSpecial?_slot (name := Str.ofString "__next__") hT F.slot_zip_next (wpAny_call_entry F.slot_zip_next hT F.entry_zip_next
    (zs_item D R1 R2 hz hTI hTO h1 h2 hx hy fun h' a1 a2 a3 a4 a5 a6 a7 => wpAny_pure (hQ h' a1 a2 a3 a4 a5 a6 a7)) (F.args_zip_next_1 _))))
theorem zs_stop {z TI TO i1 i2 l1 l2 : Addr} {k1 k2 : Nat} {xs ys : Array Value} {S1 S2 : Heap → Nat → Prop} {a b : Value} {Q : Option Value → Shared → Prop} (hh : A.handled = none) (D : ZipApart z TI TO i1 i2 l1 l2) (R1 : Src P w i1 l1 xs S1) (R2 : Src P w i2 l2 ys S2)
    (hz : IsZip s.heap z TI TO .none) (hTI : IsPair s.heap TI (.ref i1) (.ref i2)) (hTO : IsPair s.heap TO a b) (h1 : S1 s.heap k1) (h2 : S2 s.heap k2) (hend : xs[k1]? = none ∨ ys[k2]? = none)
    (hQ : ∀ h', (∀ c o, c ≠ z → c ≠ TO → c ≠ i1 → c ≠ i2 → s.heap.get? c = some o → h'.get? c = some o) → Q none { s with heap := h' }) : wpAny (model P w) A (pyNext (.ref z)) Q E s := by
  have hT : s.TypeIs (.ref z) "zip" := ⟨_, hz, rfl⟩
  unfold pyNext
  refine wpAny_bind (wpAny_attempt (wpAny_callSpecial?_slot (name := Str.ofString "__next__") hT F.slot_zip_next (wpAny_call_entry F.slot_zip_next hT F.entry_zip_next (zs_end hh D R1 R2 hz hTI hTO h1 h2 hend fun h' e hk he => ?_) (F.args_zip_next_1 _))))
  obtain ⟨o, ho, hc⟩ := he
  exact wpAny_bind (wpAny_isInstance (T := "StopIteration") (b := true) ⟨o, ho, hc⟩ isSubtype_stop (wpAny_pure (hQ _ hk)))
end
end MM
namespace MM
open PySem PySem.Spec PySem.Calls PyProof.Rows L2
/-! ### for x, y in zip(a list, a tuple) -/
def ItM (K : PySem.W.Frag) (a b : Addr) : It where
  go := fun i H => ∃ (xs ys : List V) (x y : V), (SqL K H a xs ∧ SqT K H b ys) ∧ xs[i]? = some x ∧ ys[i]? = some y
  yld := fun i H v H' => ∃ T x y, v = .ref T ∧ H T = none ∧ H' = upd H T (.tup [x, y]) ∧ (∀ xs, SqL K H a xs → xs[i]? = some x) ∧ ∀ ys, SqT K H b ys → ys[i]? = some y
  stop := fun i H => ∃ xs ys : List V, (SqL K H a xs ∧ SqT K H b ys) ∧ (xs.length ≤ i ∨ ys.length ≤ i)
/-- the five things that a zip keeps -/
theorem five {c z TI TO i1 i2 : Addr} (h : c ∈ [z, TI, TO, i1, i2]) : c = z ∨ c = TI ∨ c = TO ∨ c = i1 ∨ c = i2 := by simpa using h
theorem not5 {c z TI TO i1 i2 : Addr} (h : c ∉ [z, TI, TO, i1, i2]) : c ≠ z ∧ c ≠ TI ∧ c ≠ TO ∧ c ≠ i1 ∧ c ≠ i2 := by
  simp only [List.mem_cons, List.not_mem_nil, or_false, not_or] at h
  exact h
def TnM (a b z TI TO i1 i2 : Addr) : Nat → Heap → Prop := fun i h => IsZip h z TI TO .none ∧ IsPair h TI (.ref i1) (.ref i2) ∧ (∃ x y, IsPair h TO x y) ∧ h.IsListIter i1 a i ∧ h.IsTupleIter i2 b i
theorem turn_zipM {P : Program} {w : World} {K : PySem.W.Frag} {elts : List Expr} {kk : Nat} {tpos : Pos} {a b z TI TO i1 i2 : Addr} (D : ZipApart z TI TO i1 i2 a b) :
    Turn P w K (.Tuple elts kk tpos) (ItM K a b) [z, TI, TO, i1, i2] z (TnM a b z TI TO i1 i2) where
  mem := by simp
  obj := by
    rintro i h ⟨hz, hTI, ⟨x, y, hTO⟩, ⟨o1, e1, _, d1⟩, ⟨o2, e2, _, d2⟩⟩ c hc
    rcases five hc with rfl | rfl | rfl | rfl | rfl
    · exact ⟨_, hz, fun v q => nomatch q⟩
    · exact ⟨_, hTI, fun v q => nomatch q⟩
    · exact ⟨_, hTO, fun v q => nomatch q⟩
    · exact ⟨o1, e1, fun v q => by rw [d1] at q; cases q⟩
    · exact ⟨o2, e2, fun v q => by rw [d2] at q; cases q⟩
  keep := by
    rintro i h h' ⟨hz, hTI, ⟨x, y, hTO⟩, h1, h2⟩ k
    exact ⟨k z (by simp) _ hz, k TI (by simp) _ hTI, ⟨x, y, k TO (by simp) _ hTO⟩, h1.at fun o q => k i1 (by simp) o q, h2.at fun o q => k i2 (by simp) o q⟩
  item := by
    intro X hP hw hK hc i pins s σ H E I hf st hg
    subst hP hw hK
    obtain ⟨hz, hTI, ⟨x0, y0, hTO⟩, h1, h2⟩ := st
    obtain ⟨xs, ys, x, y, ⟨qx, qy⟩, hx, hy⟩ := hg
    obtain ⟨its, rv, p, _⟩ := I.list qx
    obtain ⟨its2, rv2, p2, _⟩ := I.tuple qy
    obtain ⟨u, hu, ru⟩ := rv.get hx
    obtain ⟨u2, hu2, ru2⟩ := rv2.get hy
    have zl : z < s.heap.objs.size := Heap.lt_size hz
    have lt5 : ∀ c, c ∈ [z, TI, TO, i1, i2] → c < s.heap.objs.size := fun c hcm => by
      rcases five hcm with rfl | rfl | rfl | rfl | rfl
      · exact zl
      · exact Heap.lt_size hTI
      · exact Heap.lt_size hTO
      · obtain ⟨_, e1, _⟩ := h1
        exact Heap.lt_size e1
      · obtain ⟨_, e2, _⟩ := h2
        exact Heap.lt_size e2
    refine zs_next D (src_list (xs := its.toArray) D.l1i1) (src_tup (xs := its2.toArray) D.l2i2) hz hTI hTO ⟨h1, p.isList⟩ ⟨h2, p2⟩ (x := u) (y := u2) (by simpa using hu) (by simpa using hu2) fun h' z' TO' h1' h2' hT hsz hk => ?_
    refine ⟨_, rfl, wpAny_letOwnedTupleGo_zip (s := { s with heap := h' }) z' fun h'' z'' sb => ?_⟩
    have hT2 : h''.get? s.heap.objs.size = some { cls := .type "tuple", data := .seq #[u, u2] } := (sb.2 _ (Nat.ne_of_gt zl)).trans hT
    have new : ObjOk X.prog X.w (upd H s.heap.objs.size (.tup [x, y])) h'' s.heap.objs.size (.tup [x, y]) := ⟨by show 2 ≤ sizeLine; decide, [u, u2], .cons ru (.cons ru2 .nil), ⟨_, hT2, rfl, _, rfl⟩⟩
    have I1 : Inv X pins σ (upd H s.heap.objs.size (.tup [x, y])) { s with heap := h'' } := by
      refine I.turnedNew (t' := s.toks) (ch := [z, TI, TO, i1, i2]) (fun c o hb q => ?_) hf (Nat.le_refl _) new
      obtain ⟨n1, _, n3, n4, n5⟩ := not5 hb
      exact (sb.2 c n1).trans (hk c o n1 n3 n4 n5 q)
    refine ⟨.ref s.heap.objs.size, _, I1, rfl, ⟨_, x, y, rfl, I.hok.fresh (Nat.le_refl _), rfl, fun l hl => by rw [I.list_inj hl qx]; exact hx, fun l hl => by rw [I.tuple_inj hl qy]; exact hy⟩, ⟨z'', ?_, ⟨u, u2, ?_⟩, ?_, ?_⟩, fun c hcm => ?_⟩
    · exact (sb.2 _ D.TIz).trans (hk _ _ D.TIz D.TITO D.TIi1 D.TIi2 hTI)
    · exact (sb.2 _ D.TOz).trans TO'
    · exact h1'.1.at fun o q => (sb.2 _ D.i1z).trans q
    · exact h2'.1.at fun o q => (sb.2 _ D.i2z).trans q
    · rw [upd_ne (Nat.ne_of_lt (lt5 c hcm))]
      exact (hf c hcm).1
  done := by
    intro X hP hw hK hc i pins s σ H E I hf st hg
    subst hP hw hK
    obtain ⟨hz, hTI, ⟨x0, y0, hTO⟩, h1, h2⟩ := st
    obtain ⟨xs, ys, ⟨qx, qy⟩, hend⟩ := hg
    obtain ⟨its, rv, p, _⟩ := I.list qx
    obtain ⟨its2, rv2, p2, _⟩ := I.tuple qy
    have l1 := rv.length
    have l2 := rv2.length
    have he : its.toArray[i]? = none ∨ its2.toArray[i]? = none := by
      rcases hend with q | q
      · exact .inl (by simp; omega)
      · exact .inr (by simp; omega)
    refine zs_stop (I.ok.hd hc) D (src_list (xs := its.toArray) D.l1i1) (src_tup (xs := its2.toArray) D.l2i2) hz hTI hTO ⟨h1, p.isList⟩ ⟨h2, p2⟩ he fun h' hk => ⟨rfl, I.turnedL (t' := s.toks) (ch := [z, TI, TO, i1, i2]) (fun c o hb q => ?_) hf⟩
    obtain ⟨n1, _, n3, n4, n5⟩ := not5 hb
    exact hk c o n1 n3 n4 n5 q
  self := fun A i s Q E st h => wpAny_pyIter_zip st.1 h
/-- the heap behind zip(a list, a tuple): two iterators, two tuples, the zip -/
abbrev zmA (h : Heap) (l : Addr) : Heap := h.push { cls := .type "list_iterator", data := .fields #[.ref l, .int 0 0] }
abbrev zmB (h : Heap) (l l2 : Addr) : Heap := (zmA h l).push { cls := .type "tuple_iterator", data := .fields #[.ref l2, .int 0 0] }
abbrev zmC (h : Heap) (l l2 : Addr) : Heap := (zmB h l l2).push { cls := .type "tuple", data := .seq #[.ref h.objs.size, .ref (zmA h l).objs.size] }
abbrev zmD (h : Heap) (l l2 : Addr) : Heap := (zmC h l l2).push { cls := .type "tuple", data := .seq #[.none, .none] }
abbrev zmE (h : Heap) (l l2 : Addr) : Heap := (zmD h l l2).push { cls := .type "zip", data := .fields #[.none, .bool false, .bool false, .ref (zmB h l l2).objs.size, .ref (zmC h l l2).objs.size] }
theorem meets_zipM (l l2 : Addr) (xs ys : Array Value) : Meets (Builtin.«zip.__new__» ⟨[.type "zip", .ref l, .ref l2], []⟩) (fun _ R s => s.heap.IsList l xs ∧ s.heap.IsTuple l2 ys ∧
      R (.ok (.ret (.ref (zmD s.heap l l2).objs.size))) { s with heap := zmE s.heap l l2 }) :=
  .of_wp fun prog w A R s h => by
    obtain ⟨hp, g, d, tk, os⟩ := s
    obtain ⟨hl1, hl2, h⟩ := h
    have hsub := sub_zip
    have q1 : Heap.IsList (Shared.heap ⟨hp, g, d, tk, os⟩) l xs := hl1
    have q2 : Heap.IsTuple (Shared.heap ⟨hp.push { cls := .type "list_iterator", data := .fields #[.ref l, .int 0 0] }, g, d, tk, os⟩) l2 ys := Heap.IsTuple.push hl2 _
    wp_walk using wpAny_pyIter_list q1, wpAny_pyIter_tuple q2
    exact ⟨_, rfl, h⟩
theorem call_zipM {P : Program} {w : World} {A : Around} {E : Value → Shared → Prop} {s : Shared} {l l2 : Addr} {xs ys : Array Value} {Q : Value → Shared → Prop} (hl1 : s.heap.IsList l xs) (hl2 : s.heap.IsTuple l2 ys)
    (h : ∀ h', TnM l l2 (s.heap.objs.size + 4) (s.heap.objs.size + 2) (s.heap.objs.size + 3) s.heap.objs.size (s.heap.objs.size + 1) 0 h' → (∀ c o, s.heap.get? c = some o → h'.get? c = some o) → Q (.ref (s.heap.objs.size + 4)) { s with heap := h' }) :
    wpAny (model P w) A (call (.type "zip") [.ref l, .ref l2]) Q E s := by
  refine callType_new F.called_zip (by decide) (F.typeCall_zip_2 _ _) (F.newCall_zip_2 _ _) (fun obj => F.args_object_init_3 obj _ _) F.entry_zip_new (meets_zipM l l2 xs ys) ⟨hl1, hl2, ?_⟩
  have nA : (zmA s.heap l).objs.size = s.heap.objs.size + 1 := Heap.size_push ..
  have nB : (zmB s.heap l l2).objs.size = s.heap.objs.size + 2 := by rw [Heap.size_push, nA]
  have nC : (zmC s.heap l l2).objs.size = s.heap.objs.size + 3 := by rw [Heap.size_push, nB]
  have nD : (zmD s.heap l l2).objs.size = s.heap.objs.size + 4 := by rw [Heap.size_push, nC]
  have up : ∀ {h : Heap} {o : Obj} {c : Addr} {o' : Obj}, h.get? c = some o' → (h.push o).get? c = some o' := fun e => Heap.get?_push_of_some _ e
  have g5 : (zmE s.heap l l2).get? (zmD s.heap l l2).objs.size = some _ := Heap.get?_push_size _ rfl
  have g4 : (zmE s.heap l l2).get? (zmC s.heap l l2).objs.size = some _ := up (Heap.get?_push_size _ rfl)
  have g3 : (zmE s.heap l l2).get? (zmB s.heap l l2).objs.size = some _ := up (up (Heap.get?_push_size _ rfl))
  have g2 : (zmE s.heap l l2).get? (zmA s.heap l).objs.size = some _ := up (up (up (Heap.get?_push_size _ rfl)))
  have g1 : (zmE s.heap l l2).get? s.heap.objs.size = some _ := up (up (up (up (Heap.get?_push_size _ rfl))))
  show _ ∧ _
  rw [nB, nC, nD] at g5
  rw [nA, nB] at g3
  rw [nC] at g4
  rw [nA] at g2
  rw [nD]
  exact ⟨⟨_, g5, rfl⟩, h _ ⟨g5, g3, ⟨_, _, g4⟩, ⟨_, g1, rfl, rfl⟩, ⟨_, g2, rfl, rfl⟩⟩ fun c o x => up (up (up (up (up x))))⟩
def iZipM (K : PySem.W.Frag) (ta : TA) : TI := fun σ H R => ta σ H fun vs H1 => ∃ a b xs ys, vs = [.ref a, .ref b] ∧ SqL K H1 a xs ∧ SqT K H1 b ys ∧ R (ItM K a b) H1
theorem pi_zipM {X : Cx} {e e2 : Expr} {ta : TA} {p pos tpos : Pos} {elts : List Expr} {kk : Nat} (hg : Gl X "zip") (hm : X.mg "zip" = none) (ha : PA X [e, e2] ta)
    (hs : starEach [e, e2] X.env = (false, eval e X.env) :: starEach [e2] X.env := by rfl) (hpl : (backTo pos (starEach [e2] X.env)).any (·.1) = false := by rfl) :
    PI X (.Tuple elts kk tpos) (.Call (.Name "zip" p) [e, e2] [] pos) (iZipM X.K ta) := by
  refine ⟨fun pins s σ H R I h => ?_⟩
  refine Call_ (ld_blt I hg hm PyProof.Rows.boot_zip (PyProof.Rows.callWith_type1 (thn (ha.run pos pins s σ H _ I h) fun us s1 ⟨vs, H1, I1, r1, q1⟩ => ?_) hs hpl))
  obtain ⟨a, b, xs, ys, rfl, qx, qy, q⟩ := q1
  obtain ⟨u, u', rfl, r, r'⟩ := vals2 r1
  cases r
  cases r'
  obtain ⟨its, rv, p1, _⟩ := I1.list qx
  obtain ⟨its2, rv2, p2, _⟩ := I1.tuple qy
  obtain ⟨o2, ho2, _⟩ := id p2
  refine call_zipM (xs := its.toArray) (ys := its2.toArray) p1.isList p2 fun h' tn hk => wpAny_pyIter_zip tn.1 ?_
  have I2 : Inv X pins σ H1 { s1 with heap := h' } := I1.kept (t' := s1.toks) hk
  refine ⟨s1.heap.objs.size + 4, [s1.heap.objs.size + 4, s1.heap.objs.size + 2, s1.heap.objs.size + 3, s1.heap.objs.size, s1.heap.objs.size + 1], _, _, H1, rfl, I2, turn_zipM (PySem.W.ktu_apart s1.heap.objs.size a b p1.lt (Heap.lt_size ho2)), tn, fun c hcm => ?_, q⟩
  have hle : s1.heap.objs.size ≤ c := by
    rcases five hcm with z | z | z | z | z
    · rw [z]; exact Nat.le_add_right _ _
    · rw [z]; exact Nat.le_add_right _ _
    · rw [z]; exact Nat.le_add_right _ _
    · rw [z]; exact Nat.le_refl _
    · rw [z]; exact Nat.le_add_right _ _
  exact I1.fpOk hle (I1.hok.fresh hle)
/-- a new pair of the i-th of a list and the i-th of a tuple -/
def YM (xs ys : List V) : Nat → Hp → V → Hp → Prop := fun i H v H' => ∃ T x y, v = .ref T ∧ H T = none ∧ H' = upd H T (.tup [x, y]) ∧ xs[i]? = some x ∧ ys[i]? = some y
theorem walk_zipM {K : PySem.W.Frag} {a b : Addr} {xs ys : List V} {n : Nat} (hx : xs.length = n) (hy : ys.length = n) : Walk (ItM K a b) n (fun H => SqL K H a xs ∧ SqT K H b ys) (YM xs ys) := by
  refine ⟨fun i _ hi q => ?_, fun _ q => ⟨xs, ys, q, by omega⟩, fun i H v H' _ q y => ?_⟩
  · exact ⟨xs, ys, xs[i], ys[i], q, List.getElem?_eq_getElem _, List.getElem?_eq_getElem _⟩
  · obtain ⟨T, x, z, h1, h2, h3, h4, h5⟩ := y
    exact ⟨T, x, z, h1, h2, h3, h4 xs q.1, h5 ys q.2⟩
theorem ym_same {xs ys : List V} (i : Nat) (H : Hp) (v : V) (H' : Hp) (h : YM xs ys i H v H') : Same H H' := by
  obtain ⟨T, x, y, rfl, hT, rfl, _⟩ := h
  exact upd_keep hT (Same.refl H)
end MM
namespace MM
open PySem PySem.Spec PyProof.Rows L2
/-- the text by places -/
def top (i : Nat) : Stmt := PySem.Challenge.pw_meanmoon_k76_texts_of_no_calendar.main.body.getD i (.Pass ⟨0, 0, 0, 0⟩)
abbrev s__wall : Stmt := top 0
theorem c__wall : FnScope ["k"] ["k"] (defScope s__wall) := ⟨rfl, rfl, rfl, by decide +kernel, rfl, by decide +kernel, by decide +kernel⟩
theorem b__wall : Bd "_wall" "_wall" s__wall ["k"] := fun _ _ _ _ _ _ us hl => match us, hl with | [_], _ => rfl
abbrev s_NoShare_init : Stmt := inClass (top 2) 0
theorem c_NoShare_init : FnScope ["self", "top"] ["self", "top"] (defScope s_NoShare_init) := ⟨rfl, rfl, rfl, by decide +kernel, rfl, by decide +kernel, by decide +kernel⟩
theorem b_NoShare_init : Bd "__init__" "NoShare.__init__" s_NoShare_init ["self", "top"] := fun _ _ _ _ _ _ us hl => match us, hl with | [_, _], _ => rfl
abbrev s_NoCalendar_init : Stmt := inClass (top 3) 0
theorem c_NoCalendar_init : FnScope ["self", "why"] ["self", "why"] (defScope s_NoCalendar_init) := ⟨rfl, rfl, rfl, by decide +kernel, rfl, by decide +kernel, by decide +kernel⟩
theorem b_NoCalendar_init : Bd "__init__" "NoCalendar.__init__" s_NoCalendar_init ["self", "why"] := fun _ _ _ _ _ _ us hl => match us, hl with | [_, _], _ => rfl
abbrev s_NoDate_init : Stmt := inClass (top 4) 0
theorem c_NoDate_init : FnScope ["self", "date", "why"] ["self", "date", "why"] (defScope s_NoDate_init) := ⟨rfl, rfl, rfl, by decide +kernel, rfl, by decide +kernel, by decide +kernel⟩
theorem b_NoDate_init : Bd "__init__" "NoDate.__init__" s_NoDate_init ["self", "date", "why"] := fun _ _ _ _ _ _ us hl => match us, hl with | [_, _, _], _ => rfl
abbrev s_NoWheel_init : Stmt := inClass (top 5) 0
theorem c_NoWheel_init : FnScope ["self", "names"] ["self", "names"] (defScope s_NoWheel_init) := ⟨rfl, rfl, rfl, by decide +kernel, rfl, by decide +kernel, by decide +kernel⟩
theorem b_NoWheel_init : Bd "__init__" "NoWheel.__init__" s_NoWheel_init ["self", "names"] := fun _ _ _ _ _ _ us hl => match us, hl with | [_, _], _ => rfl
abbrev s_NoName_init : Stmt := inClass (top 6) 0
theorem c_NoName_init : FnScope ["self", "name"] ["self", "name"] (defScope s_NoName_init) := ⟨rfl, rfl, rfl, by decide +kernel, rfl, by decide +kernel, by decide +kernel⟩
theorem b_NoName_init : Bd "__init__" "NoName.__init__" s_NoName_init ["self", "name"] := fun _ _ _ _ _ _ us hl => match us, hl with | [_, _], _ => rfl
abbrev s_NoDay_init : Stmt := inClass (top 7) 0
theorem c_NoDay_init : FnScope ["self", "one", "two"] ["self", "one", "two"] (defScope s_NoDay_init) := ⟨rfl, rfl, rfl, by decide +kernel, rfl, by decide +kernel, by decide +kernel⟩
theorem b_NoDay_init : Bd "__init__" "NoDay.__init__" s_NoDay_init ["self", "one", "two"] := fun _ _ _ _ _ _ us hl => match us, hl with | [_, _, _], _ => rfl
abbrev s_Taken_init : Stmt := inClass (top 8) 0
theorem c_Taken_init : FnScope ["self", "name"] ["self", "name"] (defScope s_Taken_init) := ⟨rfl, rfl, rfl, by decide +kernel, rfl, by decide +kernel, by decide +kernel⟩
theorem b_Taken_init : Bd "__init__" "Taken.__init__" s_Taken_init ["self", "name"] := fun _ _ _ _ _ _ us hl => match us, hl with | [_, _], _ => rfl
abbrev s_NoText_init : Stmt := inClass (top 9) 0
theorem c_NoText_init : FnScope ["self", "at"] ["self", "at"] (defScope s_NoText_init) := ⟨rfl, rfl, rfl, by decide +kernel, rfl, by decide +kernel, by decide +kernel⟩
theorem b_NoText_init : Bd "__init__" "NoText.__init__" s_NoText_init ["self", "at"] := fun _ _ _ _ _ _ us hl => match us, hl with | [_, _], _ => rfl
abbrev s_NoNote_init : Stmt := inClass (top 10) 0
theorem c_NoNote_init : FnScope ["self", "at"] ["self", "at"] (defScope s_NoNote_init) := ⟨rfl, rfl, rfl, by decide +kernel, rfl, by decide +kernel, by decide +kernel⟩
theorem b_NoNote_init : Bd "__init__" "NoNote.__init__" s_NoNote_init ["self", "at"] := fun _ _ _ _ _ _ us hl => match us, hl with | [_, _], _ => rfl
abbrev s_NoDeed_init : Stmt := inClass (top 11) 0
theorem c_NoDeed_init : FnScope ["self"] ["self"] (defScope s_NoDeed_init) := ⟨rfl, rfl, rfl, by decide +kernel, rfl, by decide +kernel, by decide +kernel⟩
theorem b_NoDeed_init : Bd "__init__" "NoDeed.__init__" s_NoDeed_init ["self"] := fun _ _ _ _ _ _ us hl => match us, hl with | [_], _ => rfl
abbrev s_numeral : Stmt := top 14
theorem c_numeral : FnScope ["number", "base", "rest", "signs"] ["number", "base"] (defScope s_numeral) := ⟨rfl, rfl, rfl, by decide +kernel, rfl, by decide +kernel, by decide +kernel⟩
abbrev s_Share_init : Stmt := inClass (top 16) 0
theorem c_Share_init : FnScope ["self", "top", "bottom", "common"] ["self", "top", "bottom"] (defScope s_Share_init) := ⟨rfl, rfl, rfl, by decide +kernel, rfl, by decide +kernel, by decide +kernel⟩
abbrev s_Share_eq : Stmt := inClass (top 16) 1
theorem c_Share_eq : FnScope ["self", "other"] ["self", "other"] (defScope s_Share_eq) := ⟨rfl, rfl, rfl, by decide +kernel, rfl, by decide +kernel, by decide +kernel⟩
theorem b_Share_eq : Bd "__eq__" "Share.__eq__" s_Share_eq ["self", "other"] := fun _ _ _ _ _ _ us hl => match us, hl with | [_, _], _ => rfl
abbrev s_Share_str : Stmt := inClass (top 16) 2
theorem c_Share_str : FnScope ["self"] ["self"] (defScope s_Share_str) := ⟨rfl, rfl, rfl, by decide +kernel, rfl, by decide +kernel, by decide +kernel⟩
theorem b_Share_str : Bd "__str__" "Share.__str__" s_Share_str ["self"] := fun _ _ _ _ _ _ us hl => match us, hl with | [_], _ => rfl
abbrev s_Share_repr : Stmt := inClass (top 16) 3
theorem c_Share_repr : FnScope ["self"] ["self"] (defScope s_Share_repr) := ⟨rfl, rfl, rfl, by decide +kernel, rfl, by decide +kernel, by decide +kernel⟩
theorem b_Share_repr : Bd "__repr__" "Share.__repr__" s_Share_repr ["self"] := fun _ _ _ _ _ _ us hl => match us, hl with | [_], _ => rfl
abbrev s_common_divisor : Stmt := top 17
theorem c_common_divisor : FnScope ["one", "two"] ["one", "two"] (defScope s_common_divisor) := ⟨rfl, rfl, rfl, by decide +kernel, rfl, by decide +kernel, by decide +kernel⟩
theorem b_common_divisor : Bd "common_divisor" "common_divisor" s_common_divisor ["one", "two"] := fun _ _ _ _ _ _ us hl => match us, hl with | [_, _], _ => rfl
abbrev s_as_share : Stmt := top 18
theorem c_as_share : FnScope ["number"] ["number"] (defScope s_as_share) := ⟨rfl, rfl, rfl, by decide +kernel, rfl, by decide +kernel, by decide +kernel⟩
theorem b_as_share : Bd "as_share" "as_share" s_as_share ["number"] := fun _ _ _ _ _ _ us hl => match us, hl with | [_], _ => rfl
abbrev s_plus : Stmt := top 19
theorem c_plus : FnScope ["one", "two", "first", "second"] ["one", "two"] (defScope s_plus) := ⟨rfl, rfl, rfl, by decide +kernel, rfl, by decide +kernel, by decide +kernel⟩
theorem b_plus : Bd "plus" "plus" s_plus ["one", "two"] := fun _ _ _ _ _ _ us hl => match us, hl with | [_, _], _ => rfl
abbrev s_minus : Stmt := top 20
theorem c_minus : FnScope ["one", "two", "first", "second"] ["one", "two"] (defScope s_minus) := ⟨rfl, rfl, rfl, by decide +kernel, rfl, by decide +kernel, by decide +kernel⟩
theorem b_minus : Bd "minus" "minus" s_minus ["one", "two"] := fun _ _ _ _ _ _ us hl => match us, hl with | [_, _], _ => rfl
abbrev s_times : Stmt := top 21
theorem c_times : FnScope ["one", "two", "first", "second"] ["one", "two"] (defScope s_times) := ⟨rfl, rfl, rfl, by decide +kernel, rfl, by decide +kernel, by decide +kernel⟩
theorem b_times : Bd "times" "times" s_times ["one", "two"] := fun _ _ _ _ _ _ us hl => match us, hl with | [_, _], _ => rfl
abbrev s_over : Stmt := top 22
theorem c_over : FnScope ["one", "two", "first", "second"] ["one", "two"] (defScope s_over) := ⟨rfl, rfl, rfl, by decide +kernel, rfl, by decide +kernel, by decide +kernel⟩
theorem b_over : Bd "over" "over" s_over ["one", "two"] := fun _ _ _ _ _ _ us hl => match us, hl with | [_, _], _ => rfl
abbrev s_before : Stmt := top 23
theorem c_before : FnScope ["one", "two", "first", "second"] ["one", "two"] (defScope s_before) := ⟨rfl, rfl, rfl, by decide +kernel, rfl, by decide +kernel, by decide +kernel⟩
theorem b_before : Bd "before" "before" s_before ["one", "two"] := fun _ _ _ _ _ _ us hl => match us, hl with | [_, _], _ => rfl
abbrev s_whole : Stmt := top 24
theorem c_whole : FnScope ["share", "number"] ["share"] (defScope s_whole) := ⟨rfl, rfl, rfl, by decide +kernel, rfl, by decide +kernel, by decide +kernel⟩
theorem b_whole : Bd "whole" "whole" s_whole ["share"] := fun _ _ _ _ _ _ us hl => match us, hl with | [_], _ => rfl
abbrev s_rounded_up : Stmt := top 25
theorem c_rounded_up : FnScope ["share", "number"] ["share"] (defScope s_rounded_up) := ⟨rfl, rfl, rfl, by decide +kernel, rfl, by decide +kernel, by decide +kernel⟩
theorem b_rounded_up : Bd "rounded_up" "rounded_up" s_rounded_up ["share"] := fun _ _ _ _ _ _ us hl => match us, hl with | [_], _ => rfl
abbrev s_Calendar_init : Stmt := inClass (top 28) 0
theorem c_Calendar_init : FnScope ["self", "month", "year", "moon", "mark"] ["self", "month", "year", "moon", "mark"] (defScope s_Calendar_init) := ⟨rfl, rfl, rfl, by decide +kernel, rfl, by decide +kernel, by decide +kernel⟩
abbrev s_Calendar_start : Stmt := inClass (top 28) 1
theorem c_Calendar_start : FnScope ["self", "k"] ["self", "k"] (defScope s_Calendar_start) := ⟨rfl, rfl, rfl, by decide +kernel, rfl, by decide +kernel, by decide +kernel⟩
theorem b_Calendar_start : Bd "start" "Calendar.start" s_Calendar_start ["self", "k"] := fun _ _ _ _ _ _ us hl => match us, hl with | [_, _], _ => rfl
abbrev s_Calendar_month_at : Stmt := inClass (top 28) 2
theorem c_Calendar_month_at : FnScope ["self", "day"] ["self", "day"] (defScope s_Calendar_month_at) := ⟨rfl, rfl, rfl, by decide +kernel, rfl, by decide +kernel, by decide +kernel⟩
theorem b_Calendar_month_at : Bd "month_at" "Calendar.month_at" s_Calendar_month_at ["self", "day"] := fun _ _ _ _ _ _ us hl => match us, hl with | [_, _], _ => rfl
abbrev s_Calendar_mark_day : Stmt := inClass (top 28) 3
theorem c_Calendar_mark_day : FnScope ["self", "j"] ["self", "j"] (defScope s_Calendar_mark_day) := ⟨rfl, rfl, rfl, by decide +kernel, rfl, by decide +kernel, by decide +kernel⟩
theorem b_Calendar_mark_day : Bd "mark_day" "Calendar.mark_day" s_Calendar_mark_day ["self", "j"] := fun _ _ _ _ _ _ us hl => match us, hl with | [_, _], _ => rfl
abbrev s_Calendar_month_with : Stmt := inClass (top 28) 4
theorem c_Calendar_month_with : FnScope ["self", "j"] ["self", "j"] (defScope s_Calendar_month_with) := ⟨rfl, rfl, rfl, by decide +kernel, rfl, by decide +kernel, by decide +kernel⟩
theorem b_Calendar_month_with : Bd "month_with" "Calendar.month_with" s_Calendar_month_with ["self", "j"] := fun _ _ _ _ _ _ us hl => match us, hl with | [_, _], _ => rfl
abbrev s_Calendar_mark_in : Stmt := inClass (top 28) 5
theorem c_Calendar_mark_in : FnScope ["self", "k"] ["self", "k"] (defScope s_Calendar_mark_in) := ⟨rfl, rfl, rfl, by decide +kernel, rfl, by decide +kernel, by decide +kernel⟩
theorem b_Calendar_mark_in : Bd "mark_in" "Calendar.mark_in" s_Calendar_mark_in ["self", "k"] := fun _ _ _ _ _ _ us hl => match us, hl with | [_, _], _ => rfl
abbrev s_Calendar_name_of : Stmt := inClass (top 28) 6
theorem c_Calendar_name_of : FnScope ["self", "k"] ["self", "k"] (defScope s_Calendar_name_of) := ⟨rfl, rfl, rfl, by decide +kernel, rfl, by decide +kernel, by decide +kernel⟩
theorem b_Calendar_name_of : Bd "name_of" "Calendar.name_of" s_Calendar_name_of ["self", "k"] := fun _ _ _ _ _ _ us hl => match us, hl with | [_, _], _ => rfl
abbrev s_Calendar_eq : Stmt := inClass (top 28) 7
theorem c_Calendar_eq : FnScope ["self", "other"] ["self", "other"] (defScope s_Calendar_eq) := ⟨rfl, rfl, rfl, by decide +kernel, rfl, by decide +kernel, by decide +kernel⟩
theorem b_Calendar_eq : Bd "__eq__" "Calendar.__eq__" s_Calendar_eq ["self", "other"] := fun _ _ _ _ _ _ us hl => match us, hl with | [_, _], _ => rfl
abbrev s_Calendar_str : Stmt := inClass (top 28) 8
theorem c_Calendar_str : FnScope ["self"] ["self"] (defScope s_Calendar_str) := ⟨rfl, rfl, rfl, by decide +kernel, rfl, by decide +kernel, by decide +kernel⟩
theorem b_Calendar_str : Bd "__str__" "Calendar.__str__" s_Calendar_str ["self"] := fun _ _ _ _ _ _ us hl => match us, hl with | [_], _ => rfl
abbrev s_Calendar_repr : Stmt := inClass (top 28) 9
theorem c_Calendar_repr : FnScope ["self"] ["self"] (defScope s_Calendar_repr) := ⟨rfl, rfl, rfl, by decide +kernel, rfl, by decide +kernel, by decide +kernel⟩
theorem b_Calendar_repr : Bd "__repr__" "Calendar.__repr__" s_Calendar_repr ["self"] := fun _ _ _ _ _ _ us hl => match us, hl with | [_], _ => rfl
abbrev s_refuse_unfit : Stmt := top 29
theorem c_refuse_unfit : FnScope ["month", "year"] ["month", "year"] (defScope s_refuse_unfit) := ⟨rfl, rfl, rfl, by decide +kernel, rfl, by decide +kernel, by decide +kernel⟩
theorem b_refuse_unfit : Bd "refuse_unfit" "refuse_unfit" s_refuse_unfit ["month", "year"] := fun _ _ _ _ _ _ us hl => match us, hl with | [_, _], _ => rfl
abbrev s_moment_or_nought : Stmt := top 30
theorem c_moment_or_nought : FnScope ["moment"] ["moment"] (defScope s_moment_or_nought) := ⟨rfl, rfl, rfl, by decide +kernel, rfl, by decide +kernel, by decide +kernel⟩
theorem b_moment_or_nought : Bd "moment_or_nought" "moment_or_nought" s_moment_or_nought ["moment"] := fun _ _ _ _ _ _ us hl => match us, hl with | [_], _ => rfl
abbrev s_twelfth : Stmt := top 31
theorem c_twelfth : FnScope ["year"] ["year"] (defScope s_twelfth) := ⟨rfl, rfl, rfl, by decide +kernel, rfl, by decide +kernel, by decide +kernel⟩
theorem b_twelfth : Bd "twelfth" "twelfth" s_twelfth ["year"] := fun _ _ _ _ _ _ us hl => match us, hl with | [_], _ => rfl
abbrev s_kept_form : Stmt := top 32
theorem c_kept_form : FnScope ["calendar", "month", "moon", "first_moon", "mark"] ["calendar"] (defScope s_kept_form) := ⟨rfl, rfl, rfl, by decide +kernel, rfl, by decide +kernel, by decide +kernel⟩
theorem b_kept_form : Bd "kept_form" "kept_form" s_kept_form ["calendar"] := fun _ _ _ _ _ _ us hl => match us, hl with | [_], _ => rfl
abbrev s_least_alike : Stmt := top 33
theorem c_least_alike : FnScope ["first", "step"] ["first", "step"] (defScope s_least_alike) := ⟨rfl, rfl, rfl, by decide +kernel, rfl, by decide +kernel, by decide +kernel⟩
theorem b_least_alike : Bd "least_alike" "least_alike" s_least_alike ["first", "step"] := fun _ _ _ _ _ _ us hl => match us, hl with | [_, _], _ => rfl
abbrev s_number_in : Stmt := top 36
theorem c_number_in : FnScope ["text", "base", "number", "sign"] ["text", "base"] (defScope s_number_in) := ⟨rfl, rfl, rfl, by decide +kernel, rfl, by decide +kernel, by decide +kernel⟩
abbrev s_share_in : Stmt := top 37
theorem c_share_in : FnScope ["text", "upper", "stroke", "lower", "bottom", "share"] ["text"] (defScope s_share_in) := ⟨rfl, rfl, rfl, by decide +kernel, rfl, by decide +kernel, by decide +kernel⟩
theorem b_share_in : Bd "share_in" "share_in" s_share_in ["text"] := fun _ _ _ _ _ _ us hl => match us, hl with | [_], _ => rfl
abbrev s_read_calendar : Stmt := top 38
theorem c_read_calendar : FnScope ["text", "texts", "word", "shares", "behind", "share"] ["text"] (defScope s_read_calendar) := ⟨rfl, rfl, rfl, by decide +kernel, rfl, by decide +kernel, by decide +kernel⟩
theorem b_read_calendar : Bd "read_calendar" "read_calendar" s_read_calendar ["text"] := fun _ _ _ _ _ _ us hl => match us, hl with | [_], _ => rfl
abbrev s_texts_by_word : Stmt := top 39
theorem c_texts_by_word : FnScope ["text", "texts", "line", "word", "blank", "behind"] ["text"] (defScope s_texts_by_word) := ⟨rfl, rfl, rfl, by decide +kernel, rfl, by decide +kernel, by decide +kernel⟩
theorem b_texts_by_word : Bd "texts_by_word" "texts_by_word" s_texts_by_word ["text"] := fun _ _ _ _ _ _ us hl => match us, hl with | [_], _ => rfl
abbrev s_l_draws : Stmt := top 41
theorem c_l_draws : FnScope ["_law_cell", "_law_cut", "_law_k"] ["_law_cell"] (defScope s_l_draws) := ⟨rfl, rfl, rfl, by decide +kernel, rfl, by decide +kernel, by decide +kernel⟩
theorem b_l_draws : Bd "_law_draws" "_law_draws" s_l_draws ["_law_cell"] := fun _ _ _ _ _ _ us hl => match us, hl with | [_], _ => rfl
abbrev s_l_next : Stmt := top 42
theorem c_l_next : FnScope ["_law_draws_here", "_law_k", "_law_number"] ["_law_draws_here"] (defScope s_l_next) := ⟨rfl, rfl, rfl, by decide +kernel, rfl, by decide +kernel, by decide +kernel⟩
theorem b_l_next : Bd "_law_next" "_law_next" s_l_next ["_law_draws_here"] := fun _ _ _ _ _ _ us hl => match us, hl with | [_], _ => rfl
abbrev s_l_low : Stmt := top 43
theorem c_l_low : FnScope ["_law_top", "_law_bottom", "_law_one", "_law_two"] ["_law_top", "_law_bottom"] (defScope s_l_low) := ⟨rfl, rfl, rfl, by decide +kernel, rfl, by decide +kernel, by decide +kernel⟩
theorem b_l_low : Bd "_law_low" "_law_low" s_l_low ["_law_top", "_law_bottom"] := fun _ _ _ _ _ _ us hl => match us, hl with | [_, _], _ => rfl
abbrev s_l_plus : Stmt := top 44
theorem c_l_plus : FnScope ["_law_one", "_law_two"] ["_law_one", "_law_two"] (defScope s_l_plus) := ⟨rfl, rfl, rfl, by decide +kernel, rfl, by decide +kernel, by decide +kernel⟩
theorem b_l_plus : Bd "_law_plus" "_law_plus" s_l_plus ["_law_one", "_law_two"] := fun _ _ _ _ _ _ us hl => match us, hl with | [_, _], _ => rfl
abbrev s_l_by : Stmt := top 45
theorem c_l_by : FnScope ["_law_one", "_law_two"] ["_law_one", "_law_two"] (defScope s_l_by) := ⟨rfl, rfl, rfl, by decide +kernel, rfl, by decide +kernel, by decide +kernel⟩
theorem b_l_by : Bd "_law_by" "_law_by" s_l_by ["_law_one", "_law_two"] := fun _ _ _ _ _ _ us hl => match us, hl with | [_, _], _ => rfl
abbrev s_l_part : Stmt := top 46
theorem c_l_part : FnScope ["_law_draws_here", "_law_pick", "_law_bottom"] ["_law_draws_here"] (defScope s_l_part) := ⟨rfl, rfl, rfl, by decide +kernel, rfl, by decide +kernel, by decide +kernel⟩
theorem b_l_part : Bd "_law_part" "_law_part" s_l_part ["_law_draws_here"] := fun _ _ _ _ _ _ us hl => match us, hl with | [_], _ => rfl
abbrev s_l_moment : Stmt := top 47
theorem c_l_moment : FnScope ["_law_draws_here", "_law_part_here", "_law_pick", "_law_far"] ["_law_draws_here"] (defScope s_l_moment) := ⟨rfl, rfl, rfl, by decide +kernel, rfl, by decide +kernel, by decide +kernel⟩
theorem b_l_moment : Bd "_law_moment" "_law_moment" s_l_moment ["_law_draws_here"] := fun _ _ _ _ _ _ us hl => match us, hl with | [_], _ => rfl
abbrev s_l_four : Stmt := top 48
theorem c_l_four : FnScope ["_law_draws_here", "_law_pick", "_law_told", "_law_month", "_law_year", "_law_w", "_law_s", "_law_r"] ["_law_draws_here"] (defScope s_l_four) := ⟨rfl, rfl, rfl, by decide +kernel, rfl, by decide +kernel, by decide +kernel⟩
theorem b_l_four : Bd "_law_four" "_law_four" s_l_four ["_law_draws_here"] := fun _ _ _ _ _ _ us hl => match us, hl with | [_], _ => rfl
abbrev s_l_kinds : Stmt := top 49
theorem c_l_kinds : FnScope ["_law_kept", "_law_told"] ["_law_kept"] (defScope s_l_kinds) := ⟨rfl, rfl, rfl, by decide +kernel, rfl, by decide +kernel, by decide +kernel⟩
theorem b_l_kinds : Bd "_law_kinds" "_law_kinds" s_l_kinds ["_law_kept"] := fun _ _ _ _ _ _ us hl => match us, hl with | [_], _ => rfl
abbrev s_l_value : Stmt := top 50
theorem c_l_value : FnScope ["_law_text", "_law_rest", "_law_sign"] ["_law_text"] (defScope s_l_value) := ⟨rfl, rfl, rfl, by decide +kernel, rfl, by decide +kernel, by decide +kernel⟩
theorem b_l_value : Bd "_law_value" "_law_value" s_l_value ["_law_text"] := fun _ _ _ _ _ _ us hl => match us, hl with | [_], _ => rfl
abbrev s_l_share_text : Stmt := top 51
theorem c_l_share_text : FnScope ["_law_fraction"] ["_law_fraction"] (defScope s_l_share_text) := ⟨rfl, rfl, rfl, by decide +kernel, rfl, by decide +kernel, by decide +kernel⟩
theorem b_l_share_text : Bd "_law_share_text" "_law_share_text" s_l_share_text ["_law_fraction"] := fun _ _ _ _ _ _ us hl => match us, hl with | [_], _ => rfl
abbrev s_l_share_in : Stmt := top 52
theorem c_l_share_in : FnScope ["_law_text", "_law_first", "_law_stroke", "_law_rest", "_law_top", "_law_bottom"] ["_law_text"] (defScope s_l_share_in) := ⟨rfl, rfl, rfl, by decide +kernel, rfl, by decide +kernel, by decide +kernel⟩
theorem b_l_share_in : Bd "_law_share_in" "_law_share_in" s_l_share_in ["_law_text"] := fun _ _ _ _ _ _ us hl => match us, hl with | [_], _ => rfl
abbrev s_l_no_share : Stmt := top 53
theorem c_l_no_share : FnScope ["_law_draws_here", "_law_word", "_law_some"] ["_law_draws_here", "_law_word"] (defScope s_l_no_share) := ⟨rfl, rfl, rfl, by decide +kernel, rfl, by decide +kernel, by decide +kernel⟩
theorem b_l_no_share : Bd "_law_no_share" "_law_no_share" s_l_no_share ["_law_draws_here", "_law_word"] := fun _ _ _ _ _ _ us hl => match us, hl with | [_, _], _ => rfl
abbrev s_l_four_bent : Stmt := top 54
theorem c_l_four_bent : FnScope ["_law_draws_here", "_law_four_here", "_law_pick", "_law_some", "_law_month", "_law_year"] ["_law_draws_here", "_law_four_here"] (defScope s_l_four_bent) := ⟨rfl, rfl, rfl, by decide +kernel, rfl, by decide +kernel, by decide +kernel⟩
theorem b_l_four_bent : Bd "_law_four_bent" "_law_four_bent" s_l_four_bent ["_law_draws_here", "_law_four_here"] := fun _ _ _ _ _ _ us hl => match us, hl with | [_, _], _ => rfl
abbrev s_l_lines : Stmt := top 55
theorem c_l_lines : FnScope ["_law_draws_here", "_law_four_here", "_law_told", "_law_word", "_law_one"] ["_law_draws_here"] (defScope s_l_lines) := ⟨rfl, rfl, rfl, by decide +kernel, rfl, by decide +kernel, by decide +kernel⟩
theorem b_l_lines : Bd "_law_lines" "_law_lines" s_l_lines ["_law_draws_here"] := fun _ _ _ _ _ _ us hl => match us, hl with | [_], _ => rfl
abbrev s_l_bent : Stmt := top 56
theorem c_l_bent : FnScope ["_law_draws_here", "_law_lines_here", "_law_pick", "_law_at", "_law_word", "_law_blank", "_law_rest", "_law_way", "_law_again", "_law_some"] ["_law_draws_here", "_law_lines_here"] (defScope s_l_bent) := ⟨rfl, rfl, rfl, by decide +kernel, rfl, by decide +kernel, by decide +kernel⟩
theorem b_l_bent : Bd "_law_bent" "_law_bent" s_l_bent ["_law_draws_here", "_law_lines_here"] := fun _ _ _ _ _ _ us hl => match us, hl with | [_, _], _ => rfl
abbrev s_l_why : Stmt := top 57
theorem c_l_why : FnScope ["_law_four_here", "_law_month", "_law_year", "_law_w"] ["_law_four_here"] (defScope s_l_why) := ⟨rfl, rfl, rfl, by decide +kernel, rfl, by decide +kernel, by decide +kernel⟩
theorem b_l_why : Bd "_law_why" "_law_why" s_l_why ["_law_four_here"] := fun _ _ _ _ _ _ us hl => match us, hl with | [_], _ => rfl
abbrev s_l_due : Stmt := top 58
theorem c_l_due : FnScope ["_law_text", "_law_words", "_law_rests", "_law_line", "_law_word", "_law_blank", "_law_rest", "_law_why_here"] ["_law_text"] (defScope s_l_due) := ⟨rfl, rfl, rfl, by decide +kernel, rfl, by decide +kernel, by decide +kernel⟩
theorem b_l_due : Bd "_law_due" "_law_due" s_l_due ["_law_text"] := fun _ _ _ _ _ _ us hl => match us, hl with | [_], _ => rfl
abbrev s_l_asked : Stmt := top 59
theorem c_l_asked : FnScope ["_law_text", "_law_kept", "_law_told", "e", "_law_sorts"] ["_law_text"] (defScope s_l_asked) := ⟨rfl, rfl, rfl, by decide +kernel, rfl, by decide +kernel, by decide +kernel⟩
theorem b_l_asked : Bd "_law_asked" "_law_asked" s_l_asked ["_law_text"] := fun _ _ _ _ _ _ us hl => match us, hl with | [_], _ => rfl
abbrev s_law : Stmt := top 60
theorem c_law : FnScope ["_law_script", "_law_cell", "_law_draws_here", "_law_lines_here", "_law_k", "_law_text", "_law_turn"] ["_law_script"] (defScope s_law) := ⟨rfl, rfl, rfl, by decide +kernel, rfl, by decide +kernel, by decide +kernel⟩
theorem b_law : Bd "law" "law" s_law ["_law_script"] := fun _ _ _ _ _ _ us hl => match us, hl with | [_], _ => rfl
/-! ### the greatest common divisor -/
def spGcd : Sp := fun vs H Q _ => ∃ a b : Int, vs = [.int a, .int b] ∧ Q (.int (Int.gcd a b)) H
def mu2 (i : Nat) : L2.St → Hp → Nat := fun σ _ => match σ[i]? with
  | some (some (.int b)) => b.natAbs
  | _ => 0
theorem abs_gcd {a : Int} (c : Int) (h : Int.gcd a 0 = c) : (if a < 0 then -a else a) = c := by
  rw [Int.gcd_zero_right] at h
  split <;> omega
section
variable {P : Program} {w : World} {K : PySem.W.Frag} {mg : Str → Option Value} {base : Heap}
theorem ok_gcd (D : Df K mg "common_divisor" s_common_divisor []) (hab : mg "abs" = none) : Ca P w K mg base CX0 1 "common_divisor" s_common_divisor [] ["one", "two"] spGcd := by
  refine ca0 (k := 0) D c_common_divisor (fun vs H Q E h => ?_) fun f cdv A outer s H vs Q E hr h => ?_
  · obtain ⟨a, b, rfl, _⟩ := h
    rfl
  · obtain ⟨a, b, rfl, q⟩ := h
    refine ⟨_, pss_cons (ps_while PassesOwn.never (pt_cmpR op_ne (pv 1) pe_int (nomark _)) (pss_one (ps_par (i := 0) (j := 1) rfl c_common_divisor.nd rfl rfl (by decide) rfl rfl (pa_cons (pv 1) (pa_cons (pe_op op_modN (pv 0) (pv 1)) pa_nil)) rfl)))
      (pss_one (ps_ret (pe_callB call_abs rfl hab (by decide +kernel) (pa_cons (pv 0) pa_nil)))), ?_⟩
    refine while_by (fun σ H' => ∃ a' b' : Int, σ = [some (.int a'), some (.int b')] ∧ Int.gcd a' b' = Int.gcd a b ∧ H' = H) (mu2 1) ⟨a, b, rfl, rfl, rfl⟩ ?_ (fun σ H' R R' hq ⟨v, h1, h2, k, h3, h4⟩ => ⟨v, h1, h2, k, h3, hq _ _ h4⟩)
    rintro σ H' ⟨a', b', rfl, hg, rfl⟩
    refine ⟨_, rfl, rfl, _, rfl, ?_⟩
    by_cases hb : b' = 0
    · subst hb
      refine iteF ?_
      refine ⟨_, rfl, a', rfl, ?_⟩
      rw [abs_gcd _ (congrArg _ hg)]
      exact q
    · rw [show (!decide (V.int b' = V.int 0)) = true by simpa using hb]
      refine iteT ?_
      refine ⟨_, rfl, _, rfl, _, rfl, _, _, rfl, rfl, hb, _, _, rfl, ⟨b', a'.fmod b', rfl, ?_, rfl⟩, ?_⟩
      · rw [gcd_fmod]
        exact hg
      · exact fmod_lt a' hb
end
/-! ### lowest terms, as the law makes them -/
def spLow : Sp := fun vs H Q _ => ∃ t b : Int, vs = [.int t, .int b] ∧ b ≠ 0 ∧ Sz 8800 t ∧ Sz 8800 b ∧ ∀ p, H p = none → Q (.ref p) (upd H p (.tup [.int (Rat.divInt t b).num, .int (Rat.divInt t b).den]))
theorem gcd_sz {t b : Int} (h : b ≠ 0) (hb : Sz 8800 b) : Sz 8800 (Int.gcd t b : Int) := by
  unfold Sz
  rw [Int.natAbs_natCast]
  exact Nat.lt_of_le_of_lt (Nat.le_of_dvd (by omega) (Int.gcd_dvd_natAbs_right t b)) hb
theorem gs_sz {t b : Int} (h : b ≠ 0) (hb : Sz 8800 b) : Sz 8900 (gs t b) := by
  unfold gs
  split
  · exact (gcd_sz h hb).neg.mono (by decide)
  · exact (gcd_sz h hb).mono (by decide)
section
variable {P : Program} {w : World} {K : PySem.W.Frag} {mg : Str → Option Value} {base : Heap}
theorem ok_low (D : Df K mg "_law_low" s_l_low []) (hab : mg "abs" = none) : Ca P w K mg base CX0 1 "_law_low" s_l_low [] ["_law_top", "_law_bottom"] spLow := by
  refine ca0 (k := 0) D c_l_low (fun vs H Q E h => ?_) fun f cdv A outer s H vs Q E hr h => ?_
  · obtain ⟨t, b, rfl, _⟩ := h
    rfl
  · obtain ⟨t, b, rfl, hb, zt, zb, q⟩ := h
    refine ⟨_, pss_cons (ps_par (i := 2) (j := 3) rfl c_l_low.nd rfl rfl (by decide) rfl rfl (pa_cons (pe_callB call_abs rfl hab (by decide +kernel) (pa_cons (pv 0) pa_nil)) (pa_cons (pe_callB call_abs rfl hab (by decide +kernel) (pa_cons (pv 1) pa_nil)) pa_nil)) rfl)
      (pss_cons (ps_while PassesOwn.never (pt_cmpR op_gt (pv 3) pe_int (nomark _)) (pss_one (ps_par (i := 2) (j := 3) rfl c_l_low.nd rfl rfl (by decide) rfl rfl (pa_cons (pv 3) (pa_cons (pe_op op_mod (pv 2) (pv 3)) pa_nil)) rfl)))
      (pss_cons (ps_if (pt_cmpR op_lt (pv 1) pe_int (nomark _)) (pss_one (ps_set (i := 2) c_l_low.nd rfl (.inl rfl) (pe_op op_sub pe_int (pv 2)))) pss_nil)
      (pss_one (ps_ret (pe_tup (pa_cons (pe_op op_fdivA (pv 0) (pv 2)) (pa_cons (pe_op op_fdivA (pv 1) (pv 2)) pa_nil))))))), ?_⟩
    refine ⟨_, rfl, t, rfl, _, rfl, b, rfl, _, _, rfl, ?_⟩
    refine while_by (fun σ H' => ∃ c d : Int, σ = [some (.int t), some (.int b), some (.int c), some (.int d)] ∧ 0 ≤ c ∧ 0 ≤ d ∧ Int.gcd c d = Int.gcd t b ∧ H' = H) (mu2 3) ⟨_, _, rfl, ?_, ?_, ?_, rfl⟩ ?_ (fun σ H' R R' hq ⟨v, h1, i, j, h2, h3, k, h4, h5⟩ => ⟨v, h1, i, j, h2, h3, k, h4, hq _ _ h5⟩)
    · split <;> omega
    · split <;> omega
    · have e : ∀ x : Int, (if x < 0 then -x else x) = (x.natAbs : Int) := fun x => by split <;> omega
      rw [e, e]
      show Nat.gcd _ _ = Nat.gcd _ _
      rw [Int.natAbs_natCast, Int.natAbs_natCast]
    rintro σ H' ⟨c, d, rfl, hc, hd, hg, rfl⟩
    refine ⟨_, rfl, _, _, rfl, rfl, _, rfl, ?_⟩
    by_cases h0 : 0 < d
    · rw [decide_eq_true h0]
      refine iteT ?_
      refine ⟨_, rfl, _, rfl, _, rfl, _, _, rfl, rfl, h0, _, _, rfl, ⟨d, c % d, rfl, hd, Int.emod_nonneg _ (by omega), ?_, rfl⟩, ?_⟩
      · rw [gcd_emod']
        exact hg
      · have h1 := Int.emod_nonneg c (show d ≠ 0 by omega)
        have h2 := Int.emod_lt_of_pos c h0
        show (c % d).natAbs < d.natAbs
        omega
    · rw [decide_eq_false h0]
      refine iteF ?_
      have d0 : d = 0 := by omega
      subst d0
      have ec : c = (Int.gcd t b : Int) := by
        rw [← hg, Int.gcd_zero_right]
        omega
      subst ec
      have fin : ∀ σ' : L2.St, σ' = [some (.int t), some (.int b), some (.int (gs t b)), some (.int 0)] → (tRet (tTup (tCons (tOp (rI CDivA fun i j => .int (i.fdiv j)) (tVar 0) (tVar 2)) (tCons (tOp (rI CDivA fun i j => .int (i.fdiv j)) (tVar 1) (tVar 2)) tNil)))) { nx := fun _ H' => Q .non H', rt := Q } σ' H' := by
        rintro σ' rfl
        refine ⟨_, rfl, _, rfl, _, _, rfl, rfl, ⟨gs_ne hb, gs_sz hb zb⟩, _, rfl, _, rfl, _, _, rfl, rfl, ⟨gs_ne hb, gs_sz hb zb⟩, (by show 2 ≤ sizeLine; decide), fun p hp => ?_⟩
        have z := q p hp
        rw [← low_num hb, ← low_den hb] at z
        exact z
      refine ⟨_, rfl, _, _, rfl, rfl, _, rfl, ?_⟩
      by_cases hn : b < 0
      · rw [decide_eq_true hn]
        refine iteT ?_
        refine ⟨_, rfl, _, _, rfl, rfl, fin _ ?_⟩
        show [some (V.int t), some (V.int b), some (V.int (0 - (Int.gcd t b : Int))), some (V.int 0)] = _
        unfold gs
        rw [if_pos hn, Int.zero_sub]
      · rw [decide_eq_false hn]
        refine iteF (fin _ ?_)
        unfold gs
        rw [if_neg hn]
end
/-! ### the law's draws -/
theorem md {j : Int} (h : 0 < j := by decide) : 0 < j := h
/-- at l stand draws, of which at most n were taken -/
def Dr (H : Hp) (l : Addr) (n : Nat) : Prop := ∃ (d k : Int) (f : Bool), H l = some (.lst [.int d, .int k, .bl f]) ∧ 0 ≤ k ∧ k ≤ n
/-- all but what stands at l is as it was -/
def But (l : Addr) (H H' : Hp) : Prop := ∀ b o, b ≠ l → H b = some o → H' b = some o
theorem But.refl {l : Addr} {H : Hp} : But l H H := fun _ _ _ h => h
theorem But.trans {l : Addr} {H H1 H2 : Hp} (a : But l H H1) (b : But l H1 H2) : But l H H2 := fun c o hc h => b c o hc (a c o hc h)
theorem But.same {l : Addr} {H H1 : Hp} (a : Same H H1) : But l H H1 := fun c o _ h => a c o h
theorem But.upd {l : Addr} {H H1 : Hp} {p : Addr} {o : HO} (a : But l H H1) (h : H1 p = none) : But l H (upd H1 p o) := fun c u hc e => by
  rw [upd_ne (ne_of_none (a c u hc e) h)]
  exact a c u hc e
theorem But.tup {l p : Addr} {H H1 : Hp} {n : Nat} {xs : List V} (a : But l H H1) (d : Dr H l n) (h : H p = some (.tup xs)) : H1 p = some (.tup xs) := by
  obtain ⟨_, _, _, hl, _⟩ := d
  exact a _ _ (ne_of h hl (by intro z; cases z)) h
theorem But.ins {l p C dx : Addr} {H H1 : Hp} {n : Nat} {fs : List (Str × V)} (a : But l H H1) (d : Dr H l n) (h : H p = some (.ins C dx fs)) : H1 p = some (.ins C dx fs) := by
  obtain ⟨_, _, _, hl, _⟩ := d
  exact a _ _ (ne_of h hl (by intro z; cases z)) h
theorem Same.upd {H H1 : Hp} {p : Addr} {o : HO} (a : Same H H1) (h : H1 p = none) : Same H (upd H1 p o) := fun c u e => by
  rw [upd_ne (ne_of_none (a c u e) h)]
  exact a c u e
theorem Same.new {H : Hp} {p : Addr} {o : HO} (h : H p = none) : Same H (L2.upd H p o) := Same.upd (Same.refl H) h
theorem Dr.same {H H1 : Hp} {l : Addr} {n m : Nat} (d : Dr H l n) (s : Same H H1) (h : n ≤ m) : Dr H1 l m := by
  obtain ⟨d, k, f, hl, h1, h2⟩ := d
  exact ⟨d, k, f, s _ _ hl, h1, by omega⟩
theorem Dr.mono {H : Hp} {l : Addr} {n m : Nat} (d : Dr H l n) (h : n ≤ m) : Dr H l m := d.same (Same.refl H) h
theorem Dr.new {H : Hp} {l p : Addr} {n : Nat} {o : HO} (d : Dr H l n) (h : H p = none) : Dr (L2.upd H p o) l n := d.same (Same.new h) (Nat.le_refl _)
def spDraws : Sp := fun vs H Q _ => ∃ c : Int, vs = [.int c] ∧ ∀ p H', H p = none → Same H H' → Dr H' p 0 → Q (.ref p) H'
def spNext : Sp := fun vs H Q _ => ∃ (l : Addr) (n : Nat), vs = [.ref l] ∧ Dr H l n ∧ n ≤ 1000000 ∧ ∀ v H', 0 ≤ v → v < 306783369 → But l H H' → Dr H' l (n + 1) → Q (.int v) H'
section
variable {P : Program} {w : World} {K : PySem.W.Frag} {mg : Str → Option Value} {base : Heap}
theorem ok_draws (D : Df K mg "_law_draws" s_l_draws []) (hra : mg "range" = none) : Ca P w K mg base CX0 1 "_law_draws" s_l_draws [] ["_law_cell"] spDraws := by
  refine ca0 (k := 0) D c_l_draws (fun vs H Q E h => ?_) fun f cdv A outer s H vs Q E hr h => ?_
  · obtain ⟨c, rfl, _⟩ := h
    rfl
  · obtain ⟨c, rfl, q⟩ := h
    refine ⟨_, pss_cons (ps_set (i := 1) c_l_draws.nd rfl (.inl rfl) (pe_op op_pow pe_int pe_int))
      (pss_cons (ps_for PassesOwn.never rfl (pi_range1 rfl hra (pa_cons pe_int pa_nil)) (pg_name (i := 2) c_l_draws.nd rfl (.inl rfl)) (pss_one (ps_set (i := 1) c_l_draws.nd rfl (.inl rfl) (pe_op op_mulA (pv 1) (pv 1)))))
      (pss_one (ps_ret (pe_lst (pa_cons (pe_op op_mod (pv 0) (pv 1)) (pa_cons pe_int (pa_cons (pe_cmpR op_ge (pv 0) (pe_op op_pow pe_int pe_int) (nomark _)) pa_nil))))))), ?_⟩
    refine ⟨_, _, rfl, rfl, ⟨by decide, by decide, by decide⟩, 7, rfl, by decide, by decide, ?_⟩
    refine for_range (n := 7) (fun i σ H' => ∃ (z : Int) (v : Option V), σ = [some (.int c), some (.int z), v] ∧ 0 < z ∧ Sz (200 * 2 ^ i) z ∧ H' = H) ⟨_, _, rfl, by decide, (by show (10 ^ 60 : Int).natAbs < 2 ^ (200 * 2 ^ 0); decide), rfl⟩ ?_ ?_
    · rintro i σ H' hi ⟨z, v, rfl, h0, hz, rfl⟩
      have l1 : 2 ^ i ≤ 2 ^ 6 := Nat.pow_le_pow_right (by decide) (by omega)
      have hz' : Sz 100000 z := hz.mono (Nat.le_trans (Nat.mul_le_mul_left 200 l1) (by decide))
      refine ⟨_, rfl, _, rfl, _, _, rfl, rfl, ⟨hz', hz'⟩, ⟨z * z, _, rfl, Int.mul_pos h0 h0, ?_, rfl⟩⟩
      exact (hz.mul hz).mono (by rw [Nat.pow_succ]; omega)
    · rintro σ H' ⟨z, v, rfl, h0, hz, rfl⟩
      refine ⟨_, rfl, _, rfl, _, _, rfl, rfl, h0, _, rfl, _, _, rfl, rfl, ⟨by decide, by decide, by decide⟩, _, _, rfl, rfl, (by show 3 ≤ sizeLine; decide), fun p hp => ?_⟩
      exact q p _ hp (Same.new hp) ⟨_, _, _, upd_same, by decide, by decide⟩
theorem ok_next (D : Df K mg "_law_next" s_l_next []) : Ca P w K mg base CX0 1 "_law_next" s_l_next [] ["_law_draws_here"] spNext := by
  refine ca0 (k := 0) D c_l_next (fun vs H Q E h => ?_) fun f cdv A outer s H vs Q E hr h => ?_
  · obtain ⟨l, n, rfl, _⟩ := h
    rfl
  · obtain ⟨l, n, rfl, ⟨d, k, fl, hl, k0, k1⟩, hn, q⟩ := h
    refine ⟨_, pss_cons (ps_asg (pe_op op_add (pe_ix ix_list (pv 0) pe_int (fun _ _ => rfl)) pe_int) (pg_sub (pv 0) pe_int set_list))
      (pss_cons (ps_set (i := 1) c_l_next.nd rfl (.inl rfl) (pe_ix ix_list (pv 0) pe_int (fun _ _ => rfl)))
      (pss_cons (ps_if (pt_val (pe_ix ix_list (pv 0) pe_int (fun _ _ => rfl)))
        (pss_cons (ps_set (i := 2) c_l_next.nd rfl (.inl rfl) (pe_op op_mod (pe_ix ix_list (pv 0) pe_int (fun _ _ => rfl)) (pe_op op_pow pe_int pe_int)))
        (pss_cons (ps_asg (pe_op op_fdiv (pe_ix ix_list (pv 0) pe_int (fun _ _ => rfl)) (pe_op op_pow pe_int pe_int)) (pg_sub (pv 0) pe_int set_list))
        (pss_one (ps_ret (pv 2))))) pss_nil)
      (pss_cons (ps_set (i := 2) c_l_next.nd rfl (.inl rfl) (pe_op op_mod (pe_op op_mul (pe_op op_add (pe_op op_add (pe_op op_mod (pe_ix ix_list (pv 0) pe_int (fun _ _ => rfl)) pe_int) (pe_op op_mul (pe_op op_mul (pv 1) (pv 1)) pe_int)) (pv 1)) pe_int) pe_int))
      (pss_cons (ps_set (i := 2) c_l_next.nd rfl (.inl rfl) (pe_op op_mod (pe_op op_mul (pv 2) (pv 2)) pe_int))
      (pss_one (ps_ret (pe_op op_fdiv (pe_op op_mod (pe_op op_mul (pv 2) (pe_op op_add (pv 2) pe_int)) pe_int) pe_int))))))), ?_⟩
    refine ⟨_, rfl, l, _, _, _, rfl, rfl, SqL.of hl, rfl, _, _, rfl, rfl, _, rfl, l, _, _, _, rfl, rfl, hl, rfl, ?_⟩
    refine ⟨_, rfl, l, _, _, _, rfl, rfl, SqL.of upd_same, rfl, ?_⟩
    refine ⟨_, rfl, l, _, _, _, rfl, rfl, SqL.of upd_same, rfl, _, rfl, ?_⟩
    cases fl with
    | true =>
      refine iteT ?_
      refine ⟨_, rfl, l, _, _, _, rfl, rfl, SqL.of upd_same, rfl, _, _, rfl, rfl, ⟨by decide, by decide, by decide⟩, _, _, rfl, rfl, md, ?_⟩
      refine ⟨_, rfl, l, _, _, _, rfl, rfl, SqL.of upd_same, rfl, _, _, rfl, rfl, ⟨by decide, by decide, by decide⟩, _, _, rfl, rfl, ⟨by decide, by decide⟩, _, rfl, l, _, _, _, rfl, rfl, upd_same, rfl, ?_⟩
      refine ⟨_, rfl, ?_⟩
      have h1 := Int.emod_nonneg d (show (1000000 : Int) ≠ 0 by decide)
      have h2 := Int.emod_lt_of_pos d (show (0 : Int) < 1000000 by decide)
      refine q (d % 1000000) _ h1 (by omega) (fun b o hb e => ?_) ⟨_, _, _, upd_same, by omega, by omega⟩
      rw [upd_ne hb, upd_ne hb]
      exact e
    | false =>
      refine iteF ?_
      have g1 := Int.emod_nonneg ((d % 1000003 + (k + 1) * (k + 1) * 7919 + (k + 1)) * 48271) (show (2147483629 : Int) ≠ 0 by decide)
      have g2 := Int.emod_lt_of_pos ((d % 1000003 + (k + 1) * (k + 1) * 7919 + (k + 1)) * 48271) (show (0 : Int) < 2147483629 by decide)
      refine ⟨_, rfl, l, _, _, _, rfl, rfl, SqL.of upd_same, rfl, _, _, rfl, rfl, md, _, rfl, _, rfl, _, _, rfl, rfl, .inl ⟨by omega, by omega⟩, _, _, rfl, rfl, .inr ⟨by decide, by decide⟩, _, _, rfl, rfl, _, rfl, _, _, rfl, rfl, _, _, rfl, rfl, .inr ⟨by decide, by decide⟩, _, _, rfl, rfl, md, ?_⟩
      refine ⟨_, rfl, _, rfl, _, _, rfl, rfl, .inl ⟨Int.lt_of_lt_of_le (by decide) g1, Int.lt_trans g2 (by decide)⟩, _, _, rfl, rfl, md, ?_⟩
      generalize hz : ((d % 1000003 + (k + 1) * (k + 1) * 7919 + (k + 1)) * 48271 % 2147483629) * ((d % 1000003 + (k + 1) * (k + 1) * 7919 + (k + 1)) * 48271 % 2147483629) = z
      have i1 := Int.emod_nonneg z (show (2147483587 : Int) ≠ 0 by decide)
      have i2 := Int.emod_lt_of_pos z (show (0 : Int) < 2147483587 by decide)
      refine ⟨_, rfl, _, rfl, _, _, rfl, rfl, _, _, rfl, rfl, .inl ⟨Int.lt_of_lt_of_le (by decide) i1, Int.lt_trans i2 (by decide)⟩, _, _, rfl, rfl, md, _, _, rfl, rfl, ⟨by decide, by decide⟩, ?_⟩
      have j1 := Int.emod_nonneg (z % 2147483587 * (z % 2147483587 + 2)) (show (2147483579 : Int) ≠ 0 by decide)
      have j2 := Int.emod_lt_of_pos (z % 2147483587 * (z % 2147483587 + 2)) (show (0 : Int) < 2147483579 by decide)
      refine q (z % 2147483587 * (z % 2147483587 + 2) % 2147483579 / 7) _ (by omega) (by omega) (fun b o hb e => ?_) ⟨_, _, _, upd_same, by omega, by omega⟩
      rw [upd_ne hb]
      exact e
end
/-! ### Share -/
def sf (t b : Int) : List (Str × V) := putF "bottom" (.int b) (putF "top" (.int t) [])
theorem tb_ : ¬ (("top" : Str) = "bottom") := by decide +kernel
theorem sf_eq (t b : Int) : sf t b = ([("top", V.int t), ("bottom", V.int b)] : List (Str × V)) := by
  show (if ("top" : Str) = "bottom" then [(("top" : Str), V.int b)] else (("top" : Str), V.int t) :: putF "bottom" (V.int b) []) = _
  rw [if_neg tb_]
  rfl
theorem sf_top (t b : Int) : (sf t b).lookup ("top" : Str) = some (.int t) := by
  unfold sf
  rw [lookup_putF, if_neg tb_, lookup_putF, if_pos rfl]
theorem sf_bottom (t b : Int) : (sf t b).lookup ("bottom" : Str) = some (.int b) := by
  unfold sf
  rw [lookup_putF, if_pos rfl]
/-- what the top says of the class -/
structure ShT (K : PySem.W.Frag) (C : Addr) : Prop where
  cl : Cls K C
  nT : NoAttr K C "top"
  nB : NoAttr K C "bottom"
/-- at p a Share of q -/
def Sh (C : Addr) (H : Hp) (p : Addr) (q : Rat) : Prop := ∃ dx, H p = some (.ins C dx (sf q.num q.den))
theorem Sh.same {C p : Addr} {H H1 : Hp} {q : Rat} (h : Sh C H p q) (s : Same H H1) : Sh C H1 p q := by
  obtain ⟨dx, e⟩ := h
  exact ⟨dx, s _ _ e⟩
/-- Share's __init__, with no bottom of 0 -/
def spShI (C : Addr) : Sp := fun vs H Q _ => ∃ (p dx : Addr) (t b : Int), vs = [.ref p, .int t, .int b] ∧ H p = some (.ins C dx []) ∧ b ≠ 0 ∧ Sz 8800 t ∧ Sz 8800 b ∧
  Q .non (upd H p (.ins C dx (sf (Rat.divInt t b).num (Rat.divInt t b).den)))
section
variable {P : Program} {w : World} {K : PySem.W.Frag} {mg : Str → Option Value} {base : Heap} {C : Addr}
theorem ok_shI (D : Di K mg "Share" C "Share.__init__" s_Share_init [.int 1]) (T : ShT K C) (g : Ca P w K mg base CX0 1 "common_divisor" s_common_divisor [] ["one", "two"] spGcd) : Ci P w K mg base CX0 2 "Share" C "Share.__init__" s_Share_init [.int 1] ["self", "top", "bottom"] (spShI C) := by
  refine ci0 (k := 1) D c_Share_init (fun vs H Q E h => ?_) fun f cdv A outer s H vs Q E hr h => ?_
  · obtain ⟨p, dx, t, b, rfl, _⟩ := h
    rfl
  · obtain ⟨p, dx, t, b, rfl, hp, hb, zt, zb, q⟩ := h
    refine ⟨_, pss_cons (ps_if (pt_cmpR op_eq (pv 2) pe_int (nomark _)) (pss_one ps_never) pss_nil)
      (pss_cons (ps_set (i := 3) c_Share_init.nd rfl (.inl rfl) (pe_ca g b_common_divisor hr (by decide) pass0 rfl (pa_cons (pv 1) (pa_cons (pv 2) pa_nil))))
      (pss_cons (ps_if (pt_cmpR op_lt (pv 2) pe_int (nomark _)) (pss_one (ps_set (i := 3) c_Share_init.nd rfl (.inl rfl) (pe_un un_neg (pv 3)))) pss_nil)
      (pss_cons (ps_fld (pv 0) (pe_op op_fdivA (pv 1) (pv 3)) rfl) (pss_one (ps_fld (pv 0) (pe_op op_fdivA (pv 2) (pv 3)) rfl))))), ?_⟩
    refine ⟨_, rfl, rfl, _, rfl, ?_⟩
    rw [decide_eq_false (show ¬ V.int b = V.int 0 from fun z => hb (V.int.inj z))]
    refine iteF ?_
    refine ⟨_, rfl, _, rfl, t, b, rfl, ?_⟩
    have fin : ∀ σ' : L2.St, σ' = [some (.ref p), some (.int t), some (.int b), some (.int (gs t b))] →
        tSeq (sFld K (tVar 0) (tOp (rI CDivA fun i j => .int (i.fdiv j)) (tVar 1) (tVar 3)) "top") (sFld K (tVar 0) (tOp (rI CDivA fun i j => .int (i.fdiv j)) (tVar 2) (tVar 3)) "bottom") { nx := fun _ H' => Q .non H', rt := Q } σ' H := by
      rintro σ' rfl
      refine ⟨_, rfl, _, rfl, _, _, rfl, rfl, ⟨gs_ne hb, gs_sz hb zb⟩, _, rfl, p, C, dx, _, rfl, hp, T.cl, T.nT, (by show 0 < 1000; decide), ?_⟩
      refine ⟨_, rfl, _, rfl, _, _, rfl, rfl, ⟨gs_ne hb, gs_sz hb zb⟩, _, rfl, p, C, dx, _, rfl, upd_same, T.cl, T.nB, (by show 1 < 1000; decide), ?_⟩
      rw [upd_upd]
      rw [← low_num hb, ← low_den hb] at q
      exact q
    refine ⟨_, rfl, _, _, rfl, rfl, _, rfl, ?_⟩
    by_cases hn : b < 0
    · rw [decide_eq_true hn]
      refine iteT ?_
      refine ⟨_, rfl, _, rfl, fin _ ?_⟩
      unfold gs
      rw [if_pos hn]
      rfl
    · rw [decide_eq_false hn]
      refine iteF (fin _ ?_)
      unfold gs
      rw [if_neg hn]
      rfl
theorem bd_Share2 : Bd1 "__init__" "Share.__init__" s_Share_init ["self", "top", "bottom"] 3 1 1 := fun _ _ _ _ _ _ _ us its hu hi => match us, hu, its, hi with | [_, _, _], _, [_], _ => ⟨_, rfl, rfl⟩
theorem bd_Share1 : Bd1 "__init__" "Share.__init__" s_Share_init ["self", "top", "bottom"] 2 0 1 := fun _ _ _ _ _ _ _ us its hu hi => match us, hu, its, hi with | [_, _], _, [_], _ => ⟨_, rfl, rfl⟩
end
/-- a new Share, read as its maker's caller wants it -/
theorem made_sh {C : Addr} {H : Hp} {R : Addr → Hp → Prop} {E : XK} {t b : Int} (hb : b ≠ 0) (zt : Sz 8800 t) (zb : Sz 8800 b) (h : ∀ p H', H p = none → Same H H' → Sh C H' p (Rat.divInt t b) → R p H') :
    ∀ x dx, H x = none → H dx = none → dx ≠ x → spShI C [.ref x, .int t, .int b] (upd (upd H dx (.own x)) x (.ins C dx [])) (fun v H2 => v = .non ∧ R x H2) E := by
  intro x dx hx hd ne
  refine ⟨x, dx, t, b, rfl, upd_same, hb, zt, zb, rfl, ?_⟩
  rw [upd_upd]
  refine h x _ hx (Same.upd (Same.new hd) ?_) ⟨dx, upd_same⟩
  rw [upd_ne ne.symm]
  exact hx
/-! ### the module's functions over Shares and whole numbers -/
structure ShX (K : PySem.W.Frag) (C : Addr) : Prop extends ShT K C where
  ty : ∀ (H : Hp) (a dx : Addr) (fs : List (Str × V)), H a = some (.ins C dx fs) → TyX K H (.ref a) (.ref C)
  nInt : PySem.W.kitOne K (.type "int") (.ref C) = some false
theorem kit_self {K : PySem.W.Frag} {C : Addr} : PySem.W.kitOne K (.ref C) (.ref C) = some true := by
  unfold PySem.W.kitOne
  rw [if_pos (by simp)]
/-- v stands for q: a whole number, or a Share -/
def Rv (C : Addr) (H : Hp) (v : V) (q : Rat) : Prop := (∃ i : Int, v = .int i ∧ q = (i : Rat)) ∨ ∃ p, v = .ref p ∧ Sh C H p q
theorem Rv.same {C : Addr} {H H1 : Hp} {v : V} {q : Rat} (h : Rv C H v q) (s : Same H H1) : Rv C H1 v q := by
  rcases h with h | ⟨p, e, h⟩
  · exact .inl h
  · exact .inr ⟨p, e, h.same s⟩
theorem Rv.int {C : Addr} {H : Hp} {i : Int} : Rv C H (.int i) (i : Rat) := .inl ⟨i, rfl, rfl⟩
theorem Sh.rv {C p : Addr} {H : Hp} {q : Rat} (h : Sh C H p q) : Rv C H (.ref p) q := .inr ⟨p, rfl, h⟩
def spAs (C : Addr) : Sp := fun vs H Q _ => ∃ (v : V) (q : Rat), vs = [v] ∧ Rv C H v q ∧ Rz 8700 q ∧ ∀ p H', Same H H' → Sh C H' p q → Q (.ref p) H'
/-- a function of two that tells a Share -/
def spTwo (C : Addr) (ok : Rat → Rat → Prop) (g : Rat → Rat → Rat) : Sp := fun vs H Q _ => ∃ (v u : V) (a b : Rat), vs = [v, u] ∧ Rv C H v a ∧ Rv C H u b ∧ Rz 4300 a ∧ Rz 4300 b ∧ ok a b ∧ ∀ p H', H p = none → Same H H' → Sh C H' p (g a b) → Q (.ref p) H'
def spBefore (C : Addr) : Sp := fun vs H Q _ => ∃ (v u : V) (a b : Rat), vs = [v, u] ∧ Rv C H v a ∧ Rv C H u b ∧ Rz 4300 a ∧ Rz 4300 b ∧ ∀ H', Same H H' → Q (.bl (decide (a < b))) H'
def spOne (C : Addr) (g : Rat → Int) : Sp := fun vs H Q _ => ∃ (v : V) (a : Rat), vs = [v] ∧ Rv C H v a ∧ Rz 8700 a ∧ ∀ H', Same H H' → Q (.int (g a)) H'
theorem divInt_one (i : Int) : Rat.divInt i 1 = (i : Rat) := by
  have := Rat.num_divInt_den (i : Rat)
  exact this
section
variable {P : Program} {w : World} {K : PySem.W.Frag} {mg : Str → Option Value} {base : Heap} {C : Addr}
theorem ok_as (D : Df K mg "as_share" s_as_share []) (T : ShX K C) (his : mg "isinstance" = none) (hC : mg "Share" = some (.ref C)) (m : Ci P w K mg base CX0 2 "Share" C "Share.__init__" s_Share_init [.int 1] ["self", "top", "bottom"] (spShI C)) :
    Ca P w K mg base CX0 4 "as_share" s_as_share [] ["number"] (spAs C) := by
  refine ca0 (k := 3) D c_as_share (fun vs H Q E h => ?_) fun f cdv A outer s H vs Q E hr h => ?_
  · obtain ⟨v, q, rfl, _⟩ := h
    rfl
  · obtain ⟨v, a, rfl, hv, za, q⟩ := h
    refine ⟨_, pss_cons (ps_if (pt_val (pe_callB call_isi rfl his (by decide +kernel) (pa_cons (pv 0) (pa_cons (pe_glob (v := .ref C) rfl hC rfl) pa_nil)))) (pss_one (ps_ret (pv 0))) pss_nil)
      (pss_one (ps_ret (pe_ci m bd_Share1 (by decide) rfl hr (by decide) pass0 rfl (pa_cons (pv 0) pa_nil)))), ?_⟩
    rcases hv with ⟨i, rfl, rfl⟩ | ⟨p, rfl, hp⟩
    · refine ⟨_, rfl, _, _, _, _, _, rfl, .own C, .base (.int i), T.nInt, _, rfl, iteF ?_⟩
      refine ⟨_, rfl, ?_⟩
      refine made_sh (by decide) (za.1.mono (by decide)) (by show 1 < 2 ^ 8800; exact Nat.one_lt_two_pow (by decide)) fun p H' _ hs hp => ?_
      rw [divInt_one] at hp
      exact q p H' hs hp
    · obtain ⟨dx, e⟩ := id hp
      refine ⟨_, rfl, _, _, _, _, _, rfl, .own C, T.ty _ _ _ _ e, kit_self, _, rfl, iteT ?_⟩
      exact ⟨_, rfl, q p H (Same.refl H) hp⟩
/-- the fields of a Share at p -/
theorem rd_top {i : Nat} {σ : L2.St} {H : Hp} {p : Addr} {a : Rat} {Q : VK} (T : ShT K C) (hp : Sh C H p a) (e : σ[i]? = some (some (.ref p))) (q : Q (.int a.num) H) : tFld K (tVar i) "top" σ H Q := by
  obtain ⟨dx, h⟩ := hp
  exact ⟨_, e, p, C, dx, _, _, rfl, h, T.cl, T.nT, sf_top _ _, q⟩
theorem rd_bottom {i : Nat} {σ : L2.St} {H : Hp} {p : Addr} {a : Rat} {Q : VK} (T : ShT K C) (hp : Sh C H p a) (e : σ[i]? = some (some (.ref p))) (q : Q (.int a.den) H) : tFld K (tVar i) "bottom" σ H Q := by
  obtain ⟨dx, h⟩ := hp
  exact ⟨_, e, p, C, dx, _, _, rfl, h, T.cl, T.nB, sf_bottom _ _, q⟩
end
section
variable {P : Program} {w : World} {K : PySem.W.Frag} {mg : Str → Option Value} {base : Heap} {C : Addr}

theorem ok_plus (D : Df K mg "plus" s_plus []) (T : ShX K C) (a : Ca P w K mg base CX0 4 "as_share" s_as_share [] ["number"] (spAs C)) (m : Ci P w K mg base CX0 2 "Share" C "Share.__init__" s_Share_init [.int 1] ["self", "top", "bottom"] (spShI C)) :
    Ca P w K mg base CX0 5 "plus" s_plus [] ["one", "two"] (spTwo C (fun _ _ => True) (fun a b => a + b)) := by
  refine ca0 (k := 4) D c_plus (fun vs H Q E h => ?_) fun f cdv A outer s H vs Q E hr h => ?_
  · obtain ⟨v, u, x, y, rfl, _⟩ := h
    rfl
  · obtain ⟨v, u, x, y, rfl, hv, hu, zx, zy, ok, q⟩ := h
    refine ⟨_, pss_cons (ps_set (i := 2) c_plus.nd rfl (.inl rfl) (pe_ca a b_as_share hr (by decide) pass0 rfl (pa_cons (pv 0) pa_nil)))
      (pss_cons (ps_set (i := 3) c_plus.nd rfl (.inl rfl) (pe_ca a b_as_share hr (by decide) pass0 rfl (pa_cons (pv 1) pa_nil)))
      (pss_one (ps_ret (pe_ci m bd_Share2 (by decide) rfl hr (by decide) pass0 rfl (pa_cons (pe_op op_add (pe_op op_mulA (pe_fld (pv 2) rfl) (pe_fld (pv 3) rfl)) (pe_op op_mulA (pe_fld (pv 3) rfl) (pe_fld (pv 2) rfl))) (pa_cons (pe_op op_mulA (pe_fld (pv 2) rfl) (pe_fld (pv 3) rfl)) pa_nil)))))), ?_⟩
    refine ⟨_, rfl, v, x, rfl, hv, zx.mono (by decide), fun p1 H1 s1 h1 => ?_⟩
    refine ⟨_, rfl, u, y, rfl, hu.same s1, zy.mono (by decide), fun p2 H2 s2 h2 => ?_⟩
    obtain ⟨d1, e1⟩ := h1.same s2
    obtain ⟨d2, e2⟩ := h2
    have mz : ∀ i j : Int, Sz 4300 i → Sz 4300 j → CMulA i j := fun i j hi hj => ⟨hi.mono (by decide), hj.mono (by decide)⟩
    refine ⟨_, rfl, p1, C, d1, _, _, rfl, e1, T.cl, T.nT, sf_top _ _, _, rfl, p2, C, d2, _, _, rfl, e2, T.cl, T.nB, sf_bottom _ _, _, _, rfl, rfl, mz _ _ zx.1 zy.2, _, rfl, p2, C, d2, _, _, rfl, e2, T.cl, T.nT, sf_top _ _, _, rfl, p1, C, d1, _, _, rfl, e1, T.cl, T.nB, sf_bottom _ _, _, _, rfl, rfl, mz _ _ zy.1 zx.2, _, _, rfl, rfl, _, rfl, p1, C, d1, _, _, rfl, e1, T.cl, T.nB, sf_bottom _ _, _, rfl, p2, C, d2, _, _, rfl, e2, T.cl, T.nB, sf_bottom _ _, _, _, rfl, rfl, mz _ _ zx.2 zy.2, ?_⟩
    refine made_sh (Int.ne_of_gt (Int.mul_pos (den_pos x) (den_pos y))) (Sz.add (n := 8600) ((zx.1.mul zy.2).mono (by decide)) ((zy.1.mul zx.2).mono (by decide)) (by decide)) ((zx.2.mul zy.2).mono (by decide)) fun p H' hp hs hq => ?_
    refine q p H' ((s1.trans s2).free hp) (s1.trans (s2.trans hs)) ?_
    exact (congrArg (Sh C H' p) (add_eq x y)).mpr hq


theorem ok_minus (D : Df K mg "minus" s_minus []) (T : ShX K C) (a : Ca P w K mg base CX0 4 "as_share" s_as_share [] ["number"] (spAs C)) (m : Ci P w K mg base CX0 2 "Share" C "Share.__init__" s_Share_init [.int 1] ["self", "top", "bottom"] (spShI C)) :
    Ca P w K mg base CX0 5 "minus" s_minus [] ["one", "two"] (spTwo C (fun _ _ => True) (fun a b => a - b)) := by
  refine ca0 (k := 4) D c_minus (fun vs H Q E h => ?_) fun f cdv A outer s H vs Q E hr h => ?_
  · obtain ⟨v, u, x, y, rfl, _⟩ := h
    rfl
  · obtain ⟨v, u, x, y, rfl, hv, hu, zx, zy, ok, q⟩ := h
    refine ⟨_, pss_cons (ps_set (i := 2) c_minus.nd rfl (.inl rfl) (pe_ca a b_as_share hr (by decide) pass0 rfl (pa_cons (pv 0) pa_nil)))
      (pss_cons (ps_set (i := 3) c_minus.nd rfl (.inl rfl) (pe_ca a b_as_share hr (by decide) pass0 rfl (pa_cons (pv 1) pa_nil)))
      (pss_one (ps_ret (pe_ci m bd_Share2 (by decide) rfl hr (by decide) pass0 rfl (pa_cons (pe_op op_sub (pe_op op_mulA (pe_fld (pv 2) rfl) (pe_fld (pv 3) rfl)) (pe_op op_mulA (pe_fld (pv 3) rfl) (pe_fld (pv 2) rfl))) (pa_cons (pe_op op_mulA (pe_fld (pv 2) rfl) (pe_fld (pv 3) rfl)) pa_nil)))))), ?_⟩
    refine ⟨_, rfl, v, x, rfl, hv, zx.mono (by decide), fun p1 H1 s1 h1 => ?_⟩
    refine ⟨_, rfl, u, y, rfl, hu.same s1, zy.mono (by decide), fun p2 H2 s2 h2 => ?_⟩
    obtain ⟨d1, e1⟩ := h1.same s2
    obtain ⟨d2, e2⟩ := h2
    have mz : ∀ i j : Int, Sz 4300 i → Sz 4300 j → CMulA i j := fun i j hi hj => ⟨hi.mono (by decide), hj.mono (by decide)⟩
    refine ⟨_, rfl, p1, C, d1, _, _, rfl, e1, T.cl, T.nT, sf_top _ _, _, rfl, p2, C, d2, _, _, rfl, e2, T.cl, T.nB, sf_bottom _ _, _, _, rfl, rfl, mz _ _ zx.1 zy.2, _, rfl, p2, C, d2, _, _, rfl, e2, T.cl, T.nT, sf_top _ _, _, rfl, p1, C, d1, _, _, rfl, e1, T.cl, T.nB, sf_bottom _ _, _, _, rfl, rfl, mz _ _ zy.1 zx.2, _, _, rfl, rfl, _, rfl, p1, C, d1, _, _, rfl, e1, T.cl, T.nB, sf_bottom _ _, _, rfl, p2, C, d2, _, _, rfl, e2, T.cl, T.nB, sf_bottom _ _, _, _, rfl, rfl, mz _ _ zx.2 zy.2, ?_⟩
    refine made_sh (Int.ne_of_gt (Int.mul_pos (den_pos x) (den_pos y))) (Sz.sub (n := 8600) ((zx.1.mul zy.2).mono (by decide)) ((zy.1.mul zx.2).mono (by decide)) (by decide)) ((zx.2.mul zy.2).mono (by decide)) fun p H' hp hs hq => ?_
    refine q p H' ((s1.trans s2).free hp) (s1.trans (s2.trans hs)) ?_
    exact (congrArg (Sh C H' p) (sub_eq x y)).mpr hq


theorem ok_times (D : Df K mg "times" s_times []) (T : ShX K C) (a : Ca P w K mg base CX0 4 "as_share" s_as_share [] ["number"] (spAs C)) (m : Ci P w K mg base CX0 2 "Share" C "Share.__init__" s_Share_init [.int 1] ["self", "top", "bottom"] (spShI C)) :
    Ca P w K mg base CX0 5 "times" s_times [] ["one", "two"] (spTwo C (fun _ _ => True) (fun a b => a * b)) := by
  refine ca0 (k := 4) D c_times (fun vs H Q E h => ?_) fun f cdv A outer s H vs Q E hr h => ?_
  · obtain ⟨v, u, x, y, rfl, _⟩ := h
    rfl
  · obtain ⟨v, u, x, y, rfl, hv, hu, zx, zy, ok, q⟩ := h
    refine ⟨_, pss_cons (ps_set (i := 2) c_times.nd rfl (.inl rfl) (pe_ca a b_as_share hr (by decide) pass0 rfl (pa_cons (pv 0) pa_nil)))
      (pss_cons (ps_set (i := 3) c_times.nd rfl (.inl rfl) (pe_ca a b_as_share hr (by decide) pass0 rfl (pa_cons (pv 1) pa_nil)))
      (pss_one (ps_ret (pe_ci m bd_Share2 (by decide) rfl hr (by decide) pass0 rfl (pa_cons (pe_op op_mulA (pe_fld (pv 2) rfl) (pe_fld (pv 3) rfl)) (pa_cons (pe_op op_mulA (pe_fld (pv 2) rfl) (pe_fld (pv 3) rfl)) pa_nil)))))), ?_⟩
    refine ⟨_, rfl, v, x, rfl, hv, zx.mono (by decide), fun p1 H1 s1 h1 => ?_⟩
    refine ⟨_, rfl, u, y, rfl, hu.same s1, zy.mono (by decide), fun p2 H2 s2 h2 => ?_⟩
    obtain ⟨d1, e1⟩ := h1.same s2
    obtain ⟨d2, e2⟩ := h2
    have mz : ∀ i j : Int, Sz 4300 i → Sz 4300 j → CMulA i j := fun i j hi hj => ⟨hi.mono (by decide), hj.mono (by decide)⟩
    refine ⟨_, rfl, p1, C, d1, _, _, rfl, e1, T.cl, T.nT, sf_top _ _, _, rfl, p2, C, d2, _, _, rfl, e2, T.cl, T.nT, sf_top _ _, _, _, rfl, rfl, mz _ _ zx.1 zy.1, _, rfl, p1, C, d1, _, _, rfl, e1, T.cl, T.nB, sf_bottom _ _, _, rfl, p2, C, d2, _, _, rfl, e2, T.cl, T.nB, sf_bottom _ _, _, _, rfl, rfl, mz _ _ zx.2 zy.2, ?_⟩
    refine made_sh (Int.ne_of_gt (Int.mul_pos (den_pos x) (den_pos y))) ((zx.1.mul zy.1).mono (by decide)) ((zx.2.mul zy.2).mono (by decide)) fun p H' hp hs hq => ?_
    refine q p H' ((s1.trans s2).free hp) (s1.trans (s2.trans hs)) ?_
    exact (congrArg (Sh C H' p) (mul_eq x y)).mpr hq


theorem ok_over (D : Df K mg "over" s_over []) (T : ShX K C) (a : Ca P w K mg base CX0 4 "as_share" s_as_share [] ["number"] (spAs C)) (m : Ci P w K mg base CX0 2 "Share" C "Share.__init__" s_Share_init [.int 1] ["self", "top", "bottom"] (spShI C)) :
    Ca P w K mg base CX0 5 "over" s_over [] ["one", "two"] (spTwo C (fun _ b => b ≠ 0) (fun a b => a / b)) := by
  refine ca0 (k := 4) D c_over (fun vs H Q E h => ?_) fun f cdv A outer s H vs Q E hr h => ?_
  · obtain ⟨v, u, x, y, rfl, _⟩ := h
    rfl
  · obtain ⟨v, u, x, y, rfl, hv, hu, zx, zy, ok, q⟩ := h
    refine ⟨_, pss_cons (ps_set (i := 2) c_over.nd rfl (.inl rfl) (pe_ca a b_as_share hr (by decide) pass0 rfl (pa_cons (pv 0) pa_nil)))
      (pss_cons (ps_set (i := 3) c_over.nd rfl (.inl rfl) (pe_ca a b_as_share hr (by decide) pass0 rfl (pa_cons (pv 1) pa_nil)))
      (pss_one (ps_ret (pe_ci m bd_Share2 (by decide) rfl hr (by decide) pass0 rfl (pa_cons (pe_op op_mulA (pe_fld (pv 2) rfl) (pe_fld (pv 3) rfl)) (pa_cons (pe_op op_mulA (pe_fld (pv 2) rfl) (pe_fld (pv 3) rfl)) pa_nil)))))), ?_⟩
    refine ⟨_, rfl, v, x, rfl, hv, zx.mono (by decide), fun p1 H1 s1 h1 => ?_⟩
    refine ⟨_, rfl, u, y, rfl, hu.same s1, zy.mono (by decide), fun p2 H2 s2 h2 => ?_⟩
    obtain ⟨d1, e1⟩ := h1.same s2
    obtain ⟨d2, e2⟩ := h2
    have mz : ∀ i j : Int, Sz 4300 i → Sz 4300 j → CMulA i j := fun i j hi hj => ⟨hi.mono (by decide), hj.mono (by decide)⟩
    refine ⟨_, rfl, p1, C, d1, _, _, rfl, e1, T.cl, T.nT, sf_top _ _, _, rfl, p2, C, d2, _, _, rfl, e2, T.cl, T.nB, sf_bottom _ _, _, _, rfl, rfl, mz _ _ zx.1 zy.2, _, rfl, p1, C, d1, _, _, rfl, e1, T.cl, T.nB, sf_bottom _ _, _, rfl, p2, C, d2, _, _, rfl, e2, T.cl, T.nT, sf_top _ _, _, _, rfl, rfl, mz _ _ zx.2 zy.1, ?_⟩
    refine made_sh (Int.mul_ne_zero (Int.ne_of_gt (den_pos x)) (fun z => ok (Rat.num_eq_zero.mp z))) ((zx.1.mul zy.2).mono (by decide)) ((zx.2.mul zy.1).mono (by decide)) fun p H' hp hs hq => ?_
    refine q p H' ((s1.trans s2).free hp) (s1.trans (s2.trans hs)) ?_
    exact (congrArg (Sh C H' p) (div_eq x y ok)).mpr hq


theorem ok_before (D : Df K mg "before" s_before []) (T : ShX K C) (a : Ca P w K mg base CX0 4 "as_share" s_as_share [] ["number"] (spAs C)) : Ca P w K mg base CX0 5 "before" s_before [] ["one", "two"] (spBefore C) := by
  refine ca0 (k := 4) D c_before (fun vs H Q E h => ?_) fun f cdv A outer s H vs Q E hr h => ?_
  · obtain ⟨v, u, x, y, rfl, _⟩ := h
    rfl
  · obtain ⟨v, u, x, y, rfl, hv, hu, zx, zy, q⟩ := h
    refine ⟨_, pss_cons (ps_set (i := 2) c_before.nd rfl (.inl rfl) (pe_ca a b_as_share hr (by decide) pass0 rfl (pa_cons (pv 0) pa_nil)))
      (pss_cons (ps_set (i := 3) c_before.nd rfl (.inl rfl) (pe_ca a b_as_share hr (by decide) pass0 rfl (pa_cons (pv 1) pa_nil)))
      (pss_one (ps_ret (pe_cmpR op_lt (pe_op op_mulA (pe_fld (pv 2) rfl) (pe_fld (pv 3) rfl)) (pe_op op_mulA (pe_fld (pv 3) rfl) (pe_fld (pv 2) rfl)) (nomark _))))), ?_⟩
    refine ⟨_, rfl, v, x, rfl, hv, zx.mono (by decide), fun p1 H1 s1 h1 => ?_⟩
    refine ⟨_, rfl, u, y, rfl, hu.same s1, zy.mono (by decide), fun p2 H2 s2 h2 => ?_⟩
    obtain ⟨d1, e1⟩ := h1.same s2
    obtain ⟨d2, e2⟩ := h2
    have mz : ∀ i j : Int, Sz 4300 i → Sz 4300 j → CMulA i j := fun i j hi hj => ⟨hi.mono (by decide), hj.mono (by decide)⟩
    refine ⟨_, rfl, p1, C, d1, _, _, rfl, e1, T.cl, T.nT, sf_top _ _, _, rfl, p2, C, d2, _, _, rfl, e2, T.cl, T.nB, sf_bottom _ _, _, _, rfl, rfl, mz _ _ zx.1 zy.2, _, rfl, p2, C, d2, _, _, rfl, e2, T.cl, T.nT, sf_top _ _, _, rfl, p1, C, d1, _, _, rfl, e1, T.cl, T.nB, sf_bottom _ _, _, _, rfl, rfl, mz _ _ zy.1 zx.2, _, _, rfl, rfl, ?_⟩
    have e : decide (x.num * (y.den : Int) < y.num * (x.den : Int)) = decide (x < y) := by
      rw [decide_eq_decide]
      exact (lt_iff' x y).symm
    show Q (V.bl (decide (x.num * (y.den : Int) < y.num * (x.den : Int)))) _
    rw [e]
    exact q H2 (s1.trans s2)


theorem ok_whole (D : Df K mg "whole" s_whole []) (T : ShX K C) (a : Ca P w K mg base CX0 4 "as_share" s_as_share [] ["number"] (spAs C)) : Ca P w K mg base CX0 5 "whole" s_whole [] ["share"] (spOne C Rat.floor) := by
  refine ca0 (k := 4) D c_whole (fun vs H Q E h => ?_) fun f cdv A outer s H vs Q E hr h => ?_
  · obtain ⟨v, x, rfl, _⟩ := h
    rfl
  · obtain ⟨v, x, rfl, hv, zx, q⟩ := h
    refine ⟨_, pss_cons (ps_set (i := 1) c_whole.nd rfl (.inl rfl) (pe_ca a b_as_share hr (by decide) pass0 rfl (pa_cons (pv 0) pa_nil)))
      (pss_one (ps_ret (pe_op op_fdivA (pe_fld (pv 1) rfl) (pe_fld (pv 1) rfl)))), ?_⟩
    refine ⟨_, rfl, v, x, rfl, hv, zx, fun p1 H1 s1 h1 => ?_⟩
    obtain ⟨d1, e1⟩ := h1
    refine ⟨_, rfl, p1, C, d1, _, _, rfl, e1, T.cl, T.nT, sf_top _ _, _, rfl, p1, C, d1, _, _, rfl, e1, T.cl, T.nB, sf_bottom _ _, _, _, rfl, rfl, ⟨Int.ne_of_gt (den_pos x), zx.2.mono (by decide)⟩, ?_⟩
    have e : x.num.fdiv (x.den : Int) = x.floor := by rw [Rat.floor_def, Int.fdiv_eq_ediv_of_nonneg _ (Int.le_of_lt (den_pos x))]
    show Q (V.int (x.num.fdiv (x.den : Int))) _
    rw [e]
    exact q H1 s1
end
section
variable {P : Program} {w : World} {K : PySem.W.Frag} {mg : Str → Option Value} {base : Heap} {C : Addr}
theorem ok_rounded (D : Df K mg "rounded_up" s_rounded_up []) (T : ShX K C) (a : Ca P w K mg base CX0 4 "as_share" s_as_share [] ["number"] (spAs C)) : Ca P w K mg base CX0 5 "rounded_up" s_rounded_up [] ["share"] (spOne C Rat.ceil) := by
  refine ca0 (k := 4) D c_rounded_up (fun vs H Q E h => ?_) fun f cdv A outer s H vs Q E hr h => ?_
  · obtain ⟨v, x, rfl, _⟩ := h
    rfl
  · obtain ⟨v, x, rfl, hv, zx, q⟩ := h
    refine ⟨_, pss_cons (ps_set (i := 1) c_rounded_up.nd rfl (.inl rfl) (pe_ca a b_as_share hr (by decide) pass0 rfl (pa_cons (pv 0) pa_nil)))
      (pss_one (ps_ret (pe_un un_neg (pe_op op_fdivA (pe_un un_neg (pe_fld (pv 1) rfl)) (pe_fld (pv 1) rfl))))), ?_⟩
    refine ⟨_, rfl, v, x, rfl, hv, zx, fun p1 H1 s1 h1 => ?_⟩
    obtain ⟨d1, e1⟩ := h1
    refine ⟨_, rfl, p1, C, d1, _, _, rfl, e1, T.cl, T.nT, sf_top _ _, _, rfl, _, rfl, p1, C, d1, _, _, rfl, e1, T.cl, T.nB, sf_bottom _ _, _, _, rfl, rfl, ⟨Int.ne_of_gt (den_pos x), zx.2.mono (by decide)⟩, _, rfl, ?_⟩
    have e : -((-x.num).fdiv (x.den : Int)) = x.ceil := by rw [Int.fdiv_eq_ediv_of_nonneg _ (Int.le_of_lt (den_pos x)), neg_div_ceil]
    show Q (V.int (-((-x.num).fdiv (x.den : Int)))) _
    rw [e]
    exact q H1 s1
end
/-! ### Calendar's helpers -/
theorem twelve_ne : ((12 : Int) : Rat) ≠ 0 := by decide
theorem szi {n : Nat} (i : Int) (h : i.natAbs < 2 ^ n := by decide) : Sz n i := h
def spTw (C : Addr) : Sp := fun vs H Q _ => ∃ (v : V) (a : Rat), vs = [v] ∧ Rv C H v a ∧ Rz 4000 a ∧ ∀ p H', H p = none → Same H H' → Sh C H' p (a / 12) → Q (.ref p) H'
def spNth (C : Addr) : Sp := fun vs H Q _ => ∃ (v u : V) (a b : Rat) (n : Int), vs = [v, u, .int n] ∧ Rv C H v a ∧ Rv C H u b ∧ Rz 600 a ∧ Rz 600 b ∧ Sz 3000 n ∧ ∀ H', Same H H' → Q (.int (a + n * b).floor) H'
def spFrom (C : Addr) : Sp := fun vs H Q _ => ∃ (v u : V) (a b : Rat) (n : Int), vs = [v, u, .int n] ∧ Rv C H v a ∧ Rv C H u b ∧ Rz 600 a ∧ Rz 600 b ∧ Sz 3000 n ∧ b ≠ 0 ∧ ∀ H', Same H H' → Q (.int (((n : Rat) - a) / b).ceil) H'
def spUnfit (C : Addr) : Sp := fun vs H Q _ => ∃ (v u : V) (m y : Rat), vs = [v, u] ∧ Rv C H v m ∧ Rv C H u y ∧ Rz 600 m ∧ Rz 600 y ∧ Fit m y ∧ ∀ H', Same H H' → Q .non H'
/-- a moment that may not be told -/
def Mv (C : Addr) (H : Hp) (v : V) (q : Rat) : Prop := (v = .non ∧ q = 0) ∨ Rv C H v q
theorem Mv.same {C : Addr} {H H1 : Hp} {v : V} {q : Rat} (h : Mv C H v q) (s : Same H H1) : Mv C H1 v q := by
  rcases h with h | h
  · exact .inl h
  · exact .inr (h.same s)
def spMoment (C : Addr) : Sp := fun vs H Q _ => ∃ (v : V) (q : Rat), vs = [v] ∧ Mv C H v q ∧ Rz 1810 q ∧ ∀ p H', Same H H' → Sh C H' p q → Q (.ref p) H'
/-- the functions over Shares that Calendar uses -/
structure ShF (P : Program) (w : World) (K : PySem.W.Frag) (mg : Str → Option Value) (base : Heap) (C : Addr) : Prop where
  T : ShX K C
  mkS : Ci P w K mg base CX0 2 "Share" C "Share.__init__" s_Share_init [.int 1] ["self", "top", "bottom"] (spShI C)
  asS : Ca P w K mg base CX0 4 "as_share" s_as_share [] ["number"] (spAs C)
  plus : Ca P w K mg base CX0 5 "plus" s_plus [] ["one", "two"] (spTwo C (fun _ _ => True) (fun a b => a + b))
  minus : Ca P w K mg base CX0 5 "minus" s_minus [] ["one", "two"] (spTwo C (fun _ _ => True) (fun a b => a - b))
  times : Ca P w K mg base CX0 5 "times" s_times [] ["one", "two"] (spTwo C (fun _ _ => True) (fun a b => a * b))
  over : Ca P w K mg base CX0 5 "over" s_over [] ["one", "two"] (spTwo C (fun _ b => b ≠ 0) (fun a b => a / b))
  before : Ca P w K mg base CX0 5 "before" s_before [] ["one", "two"] (spBefore C)
  whole : Ca P w K mg base CX0 5 "whole" s_whole [] ["share"] (spOne C Rat.floor)
  up : Ca P w K mg base CX0 5 "rounded_up" s_rounded_up [] ["share"] (spOne C Rat.ceil)
  marks : ∃ t, mg "MARKS" = some (.int 12 t)
section
variable {P : Program} {w : World} {K : PySem.W.Frag} {mg : Str → Option Value} {base : Heap} {C : Addr}
theorem ok_tw (D : Df K mg "twelfth" s_twelfth []) (F : ShF P w K mg base C) : Ca P w K mg base CX0 6 "twelfth" s_twelfth [] ["year"] (spTw C) := by
  refine ca0 (k := 5) D c_twelfth (fun vs H Q E h => ?_) fun f cdv A outer s H vs Q E hr h => ?_
  · obtain ⟨v, q, rfl, _⟩ := h
    rfl
  · obtain ⟨v, a, rfl, hv, za, q⟩ := h
    obtain ⟨tk, hM⟩ := F.marks
    refine ⟨_, pss_one (ps_ret (pe_ca F.over b_over hr (by decide) pass0 rfl (pa_cons (pv 0) (pa_cons (pe_glob (v := .int 12) rfl hM ⟨_, rfl⟩) pa_nil)))), ?_⟩
    exact ⟨_, rfl, v, .int 12, a, _, rfl, hv, Rv.int, za.mono (by decide), Rz.int (szi 12) (by decide), twelve_ne, q⟩
end
section
variable {P : Program} {w : World} {K : PySem.W.Frag} {mg : Str → Option Value} {base : Heap} {C : Addr}
theorem ok_moment (D : Df K mg "moment_or_nought" s_moment_or_nought []) (F : ShF P w K mg base C) : Ca P w K mg base CX0 6 "moment_or_nought" s_moment_or_nought [] ["moment"] (spMoment C) := by
  refine ca0 (k := 5) D c_moment_or_nought (fun vs H Q E h => ?_) fun f cdv A outer s H vs Q E hr h => ?_
  · obtain ⟨v, q, rfl, _⟩ := h
    rfl
  · obtain ⟨v, a, rfl, hv, za, q⟩ := h
    refine ⟨_, pss_cons (ps_if (pt_cmp (pc_isN (pv 0))) (pss_one (ps_ret (pe_ci F.mkS bd_Share1 (by decide) rfl hr (by decide) pass0 rfl (pa_cons pe_int pa_nil)))) pss_nil)
      (pss_one (ps_ret (pe_ca F.asS b_as_share hr (by decide) pass0 rfl (pa_cons (pv 0) pa_nil)))), ?_⟩
    rcases hv with ⟨rfl, rfl⟩ | hv
    · refine ⟨_, rfl, _, rfl, iteT ?_⟩
      refine made_sh (by decide) (szi 0) (szi 1) fun p H' _ hs hp => ?_
      rw [divInt_one] at hp
      exact q p H' hs hp
    · have hn : v ≠ .non := by
        rcases hv with ⟨i, rfl, _⟩ | ⟨p, rfl, _⟩ <;> exact fun z => nomatch z
      refine ⟨_, rfl, _, rfl, ?_⟩
      rw [decide_eq_false hn]
      refine iteF ?_
      exact ⟨_, rfl, v, a, rfl, hv, za.mono (by decide), q⟩
end
/-! ### Calendar -/
def cfs (a b c d : Addr) : List (Str × V) := putF "mark" (.ref d) (putF "moon" (.ref c) (putF "year" (.ref b) (putF "month" (.ref a) [])))
theorem my_ : ¬ (("month" : Str) = "year") := by decide +kernel
theorem mm_ : ¬ (("month" : Str) = "moon") := by decide +kernel
theorem mk_ : ¬ (("month" : Str) = "mark") := by decide +kernel
theorem ym_ : ¬ (("year" : Str) = "moon") := by decide +kernel
theorem yk_ : ¬ (("year" : Str) = "mark") := by decide +kernel
theorem ok_ : ¬ (("moon" : Str) = "mark") := by decide +kernel
theorem cf_month (a b c d : Addr) : (cfs a b c d).lookup ("month" : Str) = some (.ref a) := by
  unfold cfs
  rw [lookup_putF, if_neg mk_, lookup_putF, if_neg mm_, lookup_putF, if_neg my_, lookup_putF, if_pos rfl]
theorem cf_year (a b c d : Addr) : (cfs a b c d).lookup ("year" : Str) = some (.ref b) := by
  unfold cfs
  rw [lookup_putF, if_neg yk_, lookup_putF, if_neg ym_, lookup_putF, if_pos rfl]
theorem cf_moon (a b c d : Addr) : (cfs a b c d).lookup ("moon" : Str) = some (.ref c) := by
  unfold cfs
  rw [lookup_putF, if_neg ok_, lookup_putF, if_pos rfl]
theorem cf_mark (a b c d : Addr) : (cfs a b c d).lookup ("mark" : Str) = some (.ref d) := by
  unfold cfs
  rw [lookup_putF, if_pos rfl]
theorem cf_no (a b c d : Addr) {m : Str} (h1 : ¬ m = "mark" := by decide +kernel) (h2 : ¬ m = "moon" := by decide +kernel) (h3 : ¬ m = "year" := by decide +kernel) (h4 : ¬ m = "month" := by decide +kernel) : (cfs a b c d).lookup m = none := by
  unfold cfs
  rw [lookup_putF, if_neg h1, lookup_putF, if_neg h2, lookup_putF, if_neg h3, lookup_putF, if_neg h4]
  rfl
structure CaT (K : PySem.W.Frag) (C Cc : Addr) : Prop where
  cl : Cls K Cc
  n1 : NoAttr K Cc "month"
  n2 : NoAttr K Cc "year"
  n3 : NoAttr K Cc "moon"
  n4 : NoAttr K Cc "mark"
  ne : Cc ≠ C
/-- at p a Calendar of these four -/
def Cl (C Cc : Addr) (H : Hp) (p : Addr) (m y o k : Rat) : Prop := ∃ dx a b c d, H p = some (.ins Cc dx (cfs a b c d)) ∧ Sh C H a m ∧ Sh C H b y ∧ Sh C H c o ∧ Sh C H d k
theorem Cl.same {C Cc : Addr} {H H1 : Hp} {p : Addr} {m y o k : Rat} (h : Cl C Cc H p m y o k) (s : Same H H1) : Cl C Cc H1 p m y o k := by
  obtain ⟨dx, a, b, c, d, e, h1, h2, h3, h4⟩ := h
  exact ⟨dx, a, b, c, d, s _ _ e, h1.same s, h2.same s, h3.same s, h4.same s⟩
/-- one that can be reckoned with -/
structure Good (m y o k : Rat) : Prop where
  fit : Fit m y
  zm : Rz 70 m
  zy : Rz 70 y
  zo : Rz 70 o
  zk : Rz 70 k
/-- one of a kept form, or one that is alike -/
structure GoodW (m y o k : Rat) : Prop where
  fit : Fit m y
  zm : Rz 100 m
  zy : Rz 100 y
  zo : Rz 500 o
  zk : Rz 500 k
theorem Good.w {m y o k : Rat} (g : Good m y o k) : GoodW m y o k := ⟨g.fit, g.zm.mono (by decide), g.zy.mono (by decide), g.zo.mono (by decide), g.zk.mono (by decide)⟩
theorem Sh.put {C Cc : Addr} {H : Hp} {p dx a : Addr} {fs gs : List (Str × V)} {q : Rat} (ne : Cc ≠ C) (hp : H p = some (.ins Cc dx fs)) (h : Sh C H a q) : Sh C (upd H p (.ins Cc dx gs)) a q := by
  obtain ⟨d, e⟩ := h
  refine ⟨d, ?_⟩
  rw [upd_ne (ne_of e hp fun z => ne (by injection z with z1 z2 z3; exact z1.symm))]
  exact e
theorem Rv.put {C Cc : Addr} {H : Hp} {p dx : Addr} {v : V} {fs gs : List (Str × V)} {q : Rat} (ne : Cc ≠ C) (hp : H p = some (.ins Cc dx fs)) (h : Rv C H v q) : Rv C (upd H p (.ins Cc dx gs)) v q := by
  rcases h with h | ⟨a, e, h⟩
  · exact .inl h
  · exact .inr ⟨a, e, h.put ne hp⟩
theorem Mv.put {C Cc : Addr} {H : Hp} {p dx : Addr} {v : V} {fs gs : List (Str × V)} {q : Rat} (ne : Cc ≠ C) (hp : H p = some (.ins Cc dx fs)) (h : Mv C H v q) : Mv C (upd H p (.ins Cc dx gs)) v q := by
  rcases h with h | h
  · exact .inl h
  · exact .inr (h.put ne hp)
theorem But.put {l : Addr} {H H1 : Hp} {o : HO} (a : But l H H1) : But l H (L2.upd H1 l o) := fun c u hc e => by
  rw [upd_ne hc]
  exact a c u hc e
/-! the methods -/
def spM1 (C Cc : Addr) (n : Nat) (g : Rat → Rat → Rat → Rat → Int → V) : Sp := fun vs H Q _ => ∃ (p : Addr) (i : Int) (m y o k : Rat), vs = [.ref p, .int i] ∧ Cl C Cc H p m y o k ∧ Good m y o k ∧ Sz n i ∧ ∀ H', Same H H' → Q (g m y o k i) H'
def miF (m y o k : Rat) (i : Int) : V := if mdF y k (jF y k (stF m o i)) < stF m o (i + 1) then .int (jF y k (stF m o i)) else .non
theorem Good.ztw {m y o k : Rat} (g : Good m y o k) : Rz 80 (y / 12) := g.zy.div (l := 4) (Rz.int (szi 12) (by decide)) twelve_ne (by decide)
theorem Good.zst {m y o k : Rat} (g : Good m y o k) {n l : Nat} {i : Int} (h : Sz n i) (h0 : 0 < n) (hl : n + 150 < l) : Sz l (stF m o i) := (Sz.floor (Rz.add (m := n + 150) g.zo (Rz.mul (m := n + 75) (Rz.int h h0) g.zm (by omega)) (by omega))).mono (by omega)
theorem Good.zmd {m y o k : Rat} (g : Good m y o k) {n l : Nat} {i : Int} (h : Sz n i) (h0 : 0 < n) (hl : n + 160 < l) : Sz l (mdF y k i) := (Sz.floor (Rz.add (m := n + 160) g.zk (Rz.mul (m := n + 85) (Rz.int h h0) g.ztw (by omega)) (by omega))).mono (by omega)
theorem Good.zj {m y o k : Rat} (g : Good m y o k) {n l : Nat} {i : Int} (h : Sz n i) (h0 : 0 < n) (hl : n + 160 < l) : Sz l (jF y k i) := (Sz.ceil (Rz.div (m := n + 160) (Rz.sub (m := n + 75) (Rz.int h h0) g.zk (by omega)) g.ztw (by have := g.fit.ypos; grind) (by omega))).mono (by omega)
/-! ### the __init__ of own errors -/
/-- a def of a class that is an exception's -/
structure Dx (K : PySem.W.Frag) (C : Addr) (qual : Str) (st : Stmt) : Prop where
  ex : ∃ (f : Addr) (fd : FuncData), FunD K "__init__" qual (defArgs st) (defBody st) (defScope st) [] [] f fd ∧ PySem.W.findIn K (.ref C) "__init__" = some (some (.ref f)) ∧ PySem.W.typeIn K (.ref f) = some (.type "function")
structure Cx1 (P : Program) (w : World) (K : PySem.W.Frag) (mg : Str → Option Value) (base : Heap) (k : Nat) (C : Addr) (qual : Str) (st : Stmt) (ps : List Str) (sp : Sp) : Prop where
  ex : ∃ (f : Addr) (fd : FuncData), FunD K "__init__" qual (defArgs st) (defBody st) (defScope st) [] [] f fd ∧ PySem.W.findIn K (.ref C) "__init__" = some (some (.ref f)) ∧ PySem.W.typeIn K (.ref f) = some (.type "function") ∧ FnOk P w K mg base CX0 k f fd ps sp
theorem str_app_len (a b : Str) : (a ++ b).length = a.length + b.length := by
  show (a.cps ++ b.cps).size = a.cps.size + b.cps.size
  exact Array.size_append
/-! ### NoText -/
abbrev bmV : List Value := [.type "ValueError", .type "Exception", .type "BaseException", .type "object"]
abbrev OxV (K : PySem.W.Frag) (C : Addr) : Prop := OxG K C "ValueError" "ValueError.__new__" "ValueError.__init__" bmV
theorem typ_V : typeOf (.type "ValueError") = pure (.type "type") := by kernel_rfl
structure NtT (K : PySem.W.Frag) (mg : Str → Option Value) (CN : Addr) : Prop where
  ox : OxV K CN
  no : PySem.W.findIn K (.ref CN) "at" = some none
  vV : PySem.W.findCls K (.type "ValueError") (.type "type") "__init__" = some (.val (.builtin "ValueError.__init__"))
  gV : mg "ValueError" = none
  mN : mg "NoText" = some (.ref CN)
def spNt (CN : Addr) : Sp := fun vs H Q _ => ∃ (a : Addr) (x : Str), vs = [.ref a, .str x] ∧ x.length ≤ 1000 ∧ H a = some (exo a CN none) ∧ ∀ dx, H dx = none → dx ≠ a → Q .non (L2.upd (L2.upd H dx (exd dx [("at", .str x)])) a (exo a CN (some dx)))
/-- an error of NoText that tells x -/
def NtE (CN : Addr) (E : XK) (H : Hp) (x : Str) : Prop := ∀ (d : Addr) (H' : Hp), H d = none → Same H H' → H' d = some (.xd [("at", .str x)]) → E (.ref CN) (some d) H'
theorem NtE.same {CN : Addr} {E : XK} {H H1 : Hp} {x : Str} (k : NtE CN E H x) (s : Same H H1) : NtE CN E H1 x := fun d H' nd hs e => k d H' (s.free nd) (s.trans hs) e
section
variable {P : Program} {w : World} {K : PySem.W.Frag} {mg : Str → Option Value} {base : Heap} {CN : Addr}
theorem ok_nt (D : Dx K CN "NoText.__init__" s_NoText_init) (T : NtT K mg CN) : Cx1 P w K mg base 1 CN "NoText.__init__" s_NoText_init ["self", "at"] (spNt CN) := by
  obtain ⟨f, fd, F, h1, h2⟩ := D.ex
  refine ⟨f, fd, F, h1, h2, F.ok c_NoText_init (fun vs H Q E h => ?_) fun cdv A outer s H vs Q E hr h => ?_⟩
  · obtain ⟨a, x, rfl, _⟩ := h
    rfl
  · obtain ⟨a, x, rfl, hx, ha, q⟩ := h
    refine ⟨_, PSs.nox (pss_cons (ps_expr (pe_bini (newId := "ValueError.__new__") (bm := bmV) rfl T.gV (by decide +kernel) typ_V T.vV (pa_cons (pv 0) (pa_cons (pe_joined (.cons pe_str (.cons (pe_fmt (pv 1)) .nil))) pa_nil)))) (pss_one (ps_gst (B := "ValueError") (newId := "ValueError.__new__") (initId := "ValueError.__init__") (bm := bmV) (f := "at") (pv 0) (pv 1)))), ?_⟩
    refine ⟨_, rfl, _, rfl, (by decide), _, rfl, .inl ⟨x, rfl, Nat.le_trans hx (by decide), x, rfl, ?_, a, CN, _, rfl, (by show 1 ≤ 1000; decide), T.ox, ha, ?_⟩⟩
    · rw [str_app_len, str_app_len]
      exact Nat.le_trans (Nat.add_le_add_left hx _) (by decide)
    · exact ⟨_, rfl, _, rfl, a, CN, rfl, T.ox, T.no, .inl ⟨ha, q⟩⟩
/-- raise NoText(x) -/
theorem mk_nt {X : Cx} {e : Expr} {te : TE} {p pos : Pos} (T : NtT X.K X.mg CN) (c : Cx1 X.prog X.w X.K X.mg X.base 1 CN "NoText.__init__" s_NoText_init ["self", "at"] (spNt CN)) (hr : Room 2 X.A) (hg : Gl X "NoText") (ha : PA X [e] (tCons te tNil))
    (he : starEach (e :: []) X.env = (false, eval e X.env) :: starEach [] X.env := by rfl) (hpl : (backTo pos (starEach [] X.env)).any (·.1) = false := by rfl) : PMk X (.Call (.Name "NoText" p) [e] [] pos) (tMkO CN (spNt CN) [] (tCons te tNil)) := by
  obtain ⟨f, fd, F, h1, h2, G⟩ := c.ex
  exact pmk_g T.ox h1 h2 G hr (F.bindsN fun _ _ _ _ _ _ us hl => match us, hl with | [_, _], _ => rfl) .nil pass0 hg T.mN ha (by decide) he hpl
theorem rd_nt {H : Hp} {E : XK} {x : Str} (hx : x.length ≤ 1000) (k : NtE CN E H x) {H1 : Hp} (s : Same H H1) : ([V.str x] : List V).length ≤ 1000 ∧ ∀ a, H1 a = none → spNt CN (.ref a :: ([V.str x] ++ [])) (L2.upd H1 a (exo a CN none))
    (fun v H2 => v = .non ∧ ∃ (d : Addr) (fs : List (Str × V)), H2 a = some (exo a CN (some d)) ∧ H2 d = some (exd d fs) ∧ H1 d = none ∧ E (.ref CN) (some d) (L2.upd (del H2 a) d (.xd fs))) (fun _ _ _ => False) := by
  refine ⟨(by show 1 ≤ 1000; decide), fun a na => ⟨a, x, rfl, hx, upd_same, fun dx nd ne => ⟨rfl, dx, [("at", .str x)], upd_same, ?_, ?_, ?_⟩⟩⟩
  · rw [upd_ne ne, upd_same]
  · rw [upd_ne ne] at nd
    exact nd
  · rw [upd_ne ne] at nd
    refine k dx _ (s.free nd) (fun b o e => ?_) upd_same
    have e1 := s b o e
    rw [upd_ne (ne_of_none e1 nd), del_ne (ne_of_none e1 na), upd_ne (ne_of_none e1 na), upd_ne (ne_of_none e1 nd), upd_ne (ne_of_none e1 na)]
    exact e1
end
/-! ### NoCalendar -/
structure NcT (K : PySem.W.Frag) (mg : Str → Option Value) (CV : Addr) : Prop where
  ox : OxV K CV
  no : PySem.W.findIn K (.ref CV) "why" = some none
  vV : PySem.W.findCls K (.type "ValueError") (.type "type") "__init__" = some (.val (.builtin "ValueError.__init__"))
  gV : mg "ValueError" = none
  mN : mg "NoCalendar" = some (.ref CV)
def spNc (CV : Addr) : Sp := fun vs H Q _ => ∃ (a : Addr) (x : Str), vs = [.ref a, .str x] ∧ x.length ≤ 1000 ∧ H a = some (exo a CV none) ∧ ∀ dx, H dx = none → dx ≠ a → Q .non (L2.upd (L2.upd H dx (exd dx [("why", .str x)])) a (exo a CV (some dx)))
/-- an error of NoCalendar that tells x -/
def NcE (CV : Addr) (E : XK) (H : Hp) (x : Str) : Prop := ∀ (d : Addr) (H' : Hp), H d = none → Same H H' → H' d = some (.xd [("why", .str x)]) → E (.ref CV) (some d) H'
theorem NcE.same {CV : Addr} {E : XK} {H H1 : Hp} {x : Str} (k : NcE CV E H x) (s : Same H H1) : NcE CV E H1 x := fun d H' nd hs e => k d H' (s.free nd) (s.trans hs) e
section
variable {P : Program} {w : World} {K : PySem.W.Frag} {mg : Str → Option Value} {base : Heap} {CV : Addr}
theorem ok_nc (D : Dx K CV "NoCalendar.__init__" s_NoCalendar_init) (T : NcT K mg CV) : Cx1 P w K mg base 1 CV "NoCalendar.__init__" s_NoCalendar_init ["self", "why"] (spNc CV) := by
  obtain ⟨f, fd, F, h1, h2⟩ := D.ex
  refine ⟨f, fd, F, h1, h2, F.ok c_NoCalendar_init (fun vs H Q E h => ?_) fun cdv A outer s H vs Q E hr h => ?_⟩
  · obtain ⟨a, x, rfl, _⟩ := h
    rfl
  · obtain ⟨a, x, rfl, hx, ha, q⟩ := h
    refine ⟨_, PSs.nox (pss_cons (ps_expr (pe_bini (newId := "ValueError.__new__") (bm := bmV) rfl T.gV (by decide +kernel) typ_V T.vV (pa_cons (pv 0) (pa_cons (pe_joined (.cons pe_str (.cons (pe_fmt (pv 1)) .nil))) pa_nil)))) (pss_one (ps_gst (B := "ValueError") (newId := "ValueError.__new__") (initId := "ValueError.__init__") (bm := bmV) (f := "why") (pv 0) (pv 1)))), ?_⟩
    refine ⟨_, rfl, _, rfl, (by decide), _, rfl, .inl ⟨x, rfl, Nat.le_trans hx (by decide), x, rfl, ?_, a, CV, _, rfl, (by show 1 ≤ 1000; decide), T.ox, ha, ?_⟩⟩
    · rw [str_app_len, str_app_len]
      exact Nat.le_trans (Nat.add_le_add_left hx _) (by decide)
    · exact ⟨_, rfl, _, rfl, a, CV, rfl, T.ox, T.no, .inl ⟨ha, q⟩⟩
/-- raise NoCalendar(x) -/
theorem mk_nc {X : Cx} {e : Expr} {te : TE} {p pos : Pos} (T : NcT X.K X.mg CV) (c : Cx1 X.prog X.w X.K X.mg X.base 1 CV "NoCalendar.__init__" s_NoCalendar_init ["self", "why"] (spNc CV)) (hr : Room 2 X.A) (hg : Gl X "NoCalendar") (ha : PA X [e] (tCons te tNil))
    (he : starEach (e :: []) X.env = (false, eval e X.env) :: starEach [] X.env := by rfl) (hpl : (backTo pos (starEach [] X.env)).any (·.1) = false := by rfl) : PMk X (.Call (.Name "NoCalendar" p) [e] [] pos) (tMkO CV (spNc CV) [] (tCons te tNil)) := by
  obtain ⟨f, fd, F, h1, h2, G⟩ := c.ex
  exact pmk_g T.ox h1 h2 G hr (F.bindsN fun _ _ _ _ _ _ us hl => match us, hl with | [_, _], _ => rfl) .nil pass0 hg T.mN ha (by decide) he hpl
theorem rd_nc {H : Hp} {E : XK} {x : Str} (hx : x.length ≤ 1000) (k : NcE CV E H x) {H1 : Hp} (s : Same H H1) : ([V.str x] : List V).length ≤ 1000 ∧ ∀ a, H1 a = none → spNc CV (.ref a :: ([V.str x] ++ [])) (L2.upd H1 a (exo a CV none))
    (fun v H2 => v = .non ∧ ∃ (d : Addr) (fs : List (Str × V)), H2 a = some (exo a CV (some d)) ∧ H2 d = some (exd d fs) ∧ H1 d = none ∧ E (.ref CV) (some d) (L2.upd (del H2 a) d (.xd fs))) (fun _ _ _ => False) := by
  refine ⟨(by show 1 ≤ 1000; decide), fun a na => ⟨a, x, rfl, hx, upd_same, fun dx nd ne => ⟨rfl, dx, [("why", .str x)], upd_same, ?_, ?_, ?_⟩⟩⟩
  · rw [upd_ne ne, upd_same]
  · rw [upd_ne ne] at nd
    exact nd
  · rw [upd_ne ne] at nd
    refine k dx _ (s.free nd) (fun b o e => ?_) upd_same
    have e1 := s b o e
    rw [upd_ne (ne_of_none e1 nd), del_ne (ne_of_none e1 na), upd_ne (ne_of_none e1 na), upd_ne (ne_of_none e1 nd), upd_ne (ne_of_none e1 na)]
    exact e1
end
/-- the first that fails -/
def faultS (m y : Rat) : Str := if m < 1 then "month" else if y / 12 < (m.ceil : Rat) then "between" else if 13 * m < y + 1 then "thirteen" else ""
theorem fault_fit {m y : Rat} (h1 : ¬ m < 1) (h2 : ¬ y / 12 < (m.ceil : Rat)) (h3 : ¬ 13 * m < y + 1) : Fit m y := ⟨Rat.not_lt.mp h1, Rat.not_lt.mp h2, Rat.not_lt.mp h3⟩
def spUnX (C CV : Addr) : Sp := fun vs H Q E => ∃ (v u : V) (m y : Rat), vs = [v, u] ∧ Rv C H v m ∧ Rv C H u y ∧ Rz 1810 m ∧ Rz 1810 y ∧ (Fit m y → ∀ H', Same H H' → Q .non H') ∧ (¬ Fit m y → NcE CV E H (faultS m y))
section
variable {P : Program} {w : World} {K : PySem.W.Frag} {mg : Str → Option Value} {base : Heap} {C Cc CV : Addr}
theorem ok_unX (D : Df K mg "refuse_unfit" s_refuse_unfit []) (F : ShF P w K mg base C) (tw : Ca P w K mg base CX0 6 "twelfth" s_twelfth [] ["year"] (spTw C)) (T : NcT K mg CV) (nc : Cx1 P w K mg base 1 CV "NoCalendar.__init__" s_NoCalendar_init ["self", "why"] (spNc CV)) :
    Ca P w K mg base (L2.CX P w) 7 "refuse_unfit" s_refuse_unfit [] ["month", "year"] (spUnX C CV) := by
  refine caX (k := 6) D c_refuse_unfit (fun vs H Q E h => ?_) fun f cdv A outer s H vs Q E hr h => ?_
  · obtain ⟨v, u, m, y, rfl, _⟩ := h
    rfl
  · obtain ⟨v, u, m, y, rfl, hv, hu, zm, zy, kq, ke⟩ := h
    obtain ⟨tk, hM⟩ := F.marks
    have hr2 : Room 2 _ := hr.mono (by decide)
    refine ⟨_, pss_cons (ps_if (pt_val (pe_ca F.before b_before hr (by decide) pass0 rfl (pa_cons (pv 0) (pa_cons pe_int pa_nil)))) (pss_one (ps_raise rfl (takes_of (E := E) rfl rfl rfl rfl) (mk_nc T nc hr2 rfl (pa_cons pe_str pa_nil)))) pss_nil)
      (pss_cons (ps_if (pt_val (pe_ca F.before b_before hr (by decide) pass0 rfl (pa_cons (pe_ca tw b_twelfth hr (by decide) pass0 rfl (pa_cons (pv 1) pa_nil)) (pa_cons (pe_ca F.up b_rounded_up hr (by decide) pass0 rfl (pa_cons (pv 0) pa_nil)) pa_nil)))) (pss_one (ps_raise rfl (takes_of (E := E) rfl rfl rfl rfl) (mk_nc T nc hr2 rfl (pa_cons pe_str pa_nil)))) pss_nil)
      (pss_one (ps_if (pt_val (pe_ca F.before b_before hr (by decide) pass0 rfl (pa_cons (pe_ca F.times b_times hr (by decide) pass0 rfl (pa_cons (pe_op op_add (pe_glob (v := .int 12) rfl hM ⟨_, rfl⟩) pe_int) (pa_cons (pv 0) pa_nil)))
        (pa_cons (pe_ca F.plus b_plus hr (by decide) pass0 rfl (pa_cons (pv 1) (pa_cons pe_int pa_nil))) pa_nil)))) (pss_one (ps_raise rfl (takes_of (E := E) rfl rfl rfl rfl) (mk_nc T nc hr2 rfl (pa_cons pe_str pa_nil)))) pss_nil))), ?_⟩
    refine ⟨_, rfl, v, .int 1, m, _, rfl, hv, Rv.int, zm.mono (by decide), Rz.int (szi 1) (by decide), fun H1 s1 => ⟨_, rfl, ?_⟩⟩
    by_cases c1 : m < 1
    · rw [decide_eq_true (show m < ((1 : Int) : Rat) from c1)]
      refine iteT ?_
      have k1 := ke fun f => Rat.not_lt.mpr f.one c1
      have e1 : faultS m y = "month" := if_pos c1
      rw [e1] at k1
      exact rd_nc (by decide) k1 s1
    rw [decide_eq_false (show ¬ m < ((1 : Int) : Rat) from c1)]
    refine iteF ?_
    refine ⟨_, rfl, u, y, rfl, hu.same s1, zy.mono (by decide), fun p2 H2 n2 s2 h2 => ?_⟩
    refine ⟨_, rfl, v, m, rfl, hv.same (s1.trans s2), zm.mono (by decide), fun H3 s3 => ?_⟩
    have z2 : Rz 1900 (y / 12) := zy.div (l := 4) (Rz.int (szi 12) (by decide)) twelve_ne (by decide)
    refine ⟨.ref p2, .int m.ceil, _, _, rfl, (h2.same s3).rv, Rv.int, z2.mono (by decide), Rz.int ((Sz.ceil zm).mono (by decide)) (by decide), fun H4 s4 => ⟨_, rfl, ?_⟩⟩
    have s14 : Same H H4 := s1.trans (s2.trans (s3.trans s4))
    by_cases c2 : y / 12 < (m.ceil : Rat)
    · rw [decide_eq_true c2]
      refine iteT ?_
      have k1 := ke fun f => Rat.not_lt.mpr f.between c2
      have e1 : faultS m y = "between" := by
        unfold faultS
        rw [if_neg c1, if_pos c2]
      rw [e1] at k1
      exact rd_nc (by decide) k1 s14
    rw [decide_eq_false c2]
    refine iteF ?_
    refine ⟨_, _, rfl, rfl, _, rfl, .int 13, v, _, m, rfl, Rv.int, hv.same s14, Rz.int (szi 13) (by decide), zm.mono (by decide), trivial, fun p5 H5 n5 s5 h5 => ?_⟩
    refine ⟨_, rfl, u, .int 1, y, _, rfl, hu.same (s14.trans s5), Rv.int, zy.mono (by decide), Rz.int (szi 1) (by decide), trivial, fun p6 H6 n6 s6 h6 => ?_⟩
    have z5 : Rz 1900 (((13 : Int) : Rat) * m) := Rz.mul (n := 4) (Rz.int (szi 13) (by decide)) zm (by decide)
    have z6 : Rz 1900 (y + ((1 : Int) : Rat)) := zy.add (l := 1) (Rz.int (szi 1) (by decide)) (by decide)
    refine ⟨.ref p5, .ref p6, _, _, rfl, (h5.same s6).rv, h6.rv, z5.mono (by decide), z6.mono (by decide), fun H7 s7 => ⟨_, rfl, ?_⟩⟩
    have s17 : Same H H7 := s14.trans (s5.trans (s6.trans s7))
    by_cases c3 : 13 * m < y + 1
    · rw [decide_eq_true (show ((13 : Int) : Rat) * m < y + ((1 : Int) : Rat) from c3)]
      refine iteT ?_
      have k1 := ke fun f => Rat.not_lt.mpr f.thirteen c3
      have e1 : faultS m y = "thirteen" := by
        unfold faultS
        rw [if_neg c1, if_neg c2, if_pos c3]
      rw [e1] at k1
      exact rd_nc (by decide) k1 s17
    rw [decide_eq_false (show ¬ ((13 : Int) : Rat) * m < y + ((1 : Int) : Rat) from c3)]
    refine iteF ?_
    exact kq (fault_fit c1 c2 c3) H7 s17
end
/-! ### Calendar made, or refused -/
/-- four that may make a calendar -/
structure Rz4 (m y o k : Rat) : Prop where
  zm : Rz 1810 m
  zy : Rz 1810 y
  zo : Rz 1810 o
  zk : Rz 1810 k
def spCaX (C Cc CV : Addr) : Sp := fun vs H Q E => ∃ (p dx : Addr) (v u x z : V) (m y o k : Rat), vs = [.ref p, v, u, x, z] ∧ H p = some (.ins Cc dx []) ∧ Rv C H v m ∧ Rv C H u y ∧ Mv C H x o ∧ Mv C H z k ∧ Rz4 m y o k ∧
  (Fit m y → ∀ H', But p H H' → Cl C Cc H' p m y o k → Q .non H') ∧ (¬ Fit m y → NcE CV E H (faultS m y))
theorem But.put' {l : Addr} {H H1 : Hp} {o : HO} (a : But l H H1) : But l H (L2.upd H1 l o) := fun c u hc e => by
  rw [upd_ne hc]
  exact a c u hc e
section
variable {P : Program} {w : World} {K : PySem.W.Frag} {mg : Str → Option Value} {base : Heap} {C Cc CV : Addr}
theorem ok_caX (D : Di K mg "Calendar" Cc "Calendar.__init__" s_Calendar_init [.non, .non]) (T : CaT K C Cc) (F : ShF P w K mg base C) (un : Ca P w K mg base (L2.CX P w) 7 "refuse_unfit" s_refuse_unfit [] ["month", "year"] (spUnX C CV))
    (mo : Ca P w K mg base CX0 6 "moment_or_nought" s_moment_or_nought [] ["moment"] (spMoment C)) :
    Ci P w K mg base (L2.CX P w) 8 "Calendar" Cc "Calendar.__init__" s_Calendar_init [.non, .non] ["self", "month", "year", "moon", "mark"] (spCaX C Cc CV) := by
  refine ciX (k := 7) D c_Calendar_init (fun vs H Q E h => ?_) fun f cdv A outer s H vs Q E hr h => ?_
  · obtain ⟨p, dx, v, u, x, z, m, y, o, k, rfl, _⟩ := h
    rfl
  · obtain ⟨p, dx, v, u, x, z, m, y, o, k, rfl, hp, hv, hu, hx, hz, g, q, qe⟩ := h
    refine ⟨_, pss_cons (ps_expr (pe_ca un b_refuse_unfit hr (by decide) (passes_call (takes_of (E := E) rfl rfl rfl rfl) fun _ _ _ _ z => z) rfl (pa_cons (pv 1) (pa_cons (pv 2) pa_nil))))
      (pss_cons (ps_fld (pv 0) (pe_ca F.asS b_as_share hr (by decide) pass0 rfl (pa_cons (pv 1) pa_nil)) rfl)
      (pss_cons (ps_fld (pv 0) (pe_ca F.asS b_as_share hr (by decide) pass0 rfl (pa_cons (pv 2) pa_nil)) rfl)
      (pss_cons (ps_fld (pv 0) (pe_ca mo b_moment_or_nought hr (by decide) pass0 rfl (pa_cons (pv 3) pa_nil)) rfl)
      (pss_one (ps_fld (pv 0) (pe_ca mo b_moment_or_nought hr (by decide) pass0 rfl (pa_cons (pv 4) pa_nil)) rfl))))), ?_⟩
    refine ⟨_, rfl, _, rfl, v, u, m, y, rfl, hv, hu, g.zm, g.zy, fun ft H1 s1 => ?_, qe⟩
    refine ⟨_, rfl, v, m, rfl, hv.same s1, g.zm.mono (by decide), fun a H2 s2 ha => ?_⟩
    have hp2 := s2 _ _ (s1 _ _ hp)
    refine ⟨_, rfl, p, Cc, dx, _, rfl, hp2, T.cl, T.n1, (by show 0 < 1000; decide), ?_⟩
    refine ⟨_, rfl, u, y, rfl, ((hu.same s1).same s2).put T.ne hp2, g.zy.mono (by decide), fun b H3 s3 hb => ?_⟩
    have hp3 := s3 _ _ (upd_same (H := H2) (a := p))
    refine ⟨_, rfl, p, Cc, dx, _, rfl, hp3, T.cl, T.n2, (by show 1 < 1000; decide), ?_⟩
    refine ⟨_, rfl, x, o, rfl, ((((hx.same s1).same s2).put T.ne hp2).same s3).put T.ne hp3, g.zo, fun c H4 s4 hc => ?_⟩
    have hp4 := s4 _ _ (upd_same (H := H3) (a := p))
    refine ⟨_, rfl, p, Cc, dx, _, rfl, hp4, T.cl, T.n3, (by show 2 < 1000; decide), ?_⟩
    refine ⟨_, rfl, z, k, rfl, ((((((hz.same s1).same s2).put T.ne hp2).same s3).put T.ne hp3).same s4).put T.ne hp4, g.zk, fun d H5 s5 hd => ?_⟩
    have hp5 := s5 _ _ (upd_same (H := H4) (a := p))
    refine ⟨_, rfl, p, Cc, dx, _, rfl, hp5, T.cl, T.n4, (by show 3 < 1000; decide), ?_⟩
    refine q ft _ ?_ ⟨dx, a, b, c, d, upd_same, ?_, ?_, ?_, hd.put T.ne hp5⟩
    · have b1 : But p H H2 := But.same (s1.trans s2)
      have b2 : But p H H3 := b1.put'.trans (But.same s3)
      have b3 : But p H H4 := b2.put'.trans (But.same s4)
      exact (b3.put'.trans (But.same s5)).put'
    · exact (((((((ha.put T.ne hp2).same s3).put T.ne hp3).same s4).put T.ne hp4).same s5).put T.ne hp5)
    · exact (((((hb.put T.ne hp3).same s4).put T.ne hp4).same s5).put T.ne hp5)
    · exact (((hc.put T.ne hp4).same s5).put T.ne hp5)
end
theorem made_cx {C Cc CV : Addr} {H : Hp} {R : Addr → Hp → Prop} {E : XK} {v u x z : V} {m y o k : Rat} (hv : Rv C H v m) (hu : Rv C H u y) (hx : Mv C H x o) (hz : Mv C H z k) (g : Rz4 m y o k) (h : Fit m y → ∀ p H', Same H H' → Cl C Cc H' p m y o k → R p H') (he : ¬ Fit m y → NcE CV E H (faultS m y)) :
    ∀ a dx, H a = none → H dx = none → dx ≠ a → spCaX C Cc CV [.ref a, v, u, x, z] (L2.upd (L2.upd H dx (.own a)) a (.ins Cc dx [])) (fun r H2 => r = .non ∧ R a H2) E := by
  intro a dx ha hd ne
  have s0 : Same H (L2.upd (L2.upd H dx (.own a)) a (.ins Cc dx [])) := Same.upd (Same.new hd) (by rw [upd_ne ne.symm]; exact ha)
  refine ⟨a, dx, v, u, x, z, m, y, o, k, rfl, upd_same, hv.same s0, hu.same s0, hx.same s0, hz.same s0, g, fun ft H' b hc => ⟨rfl, ?_⟩, fun nf d H' nd hs hd' => ?_⟩
  · exact h ft a H' (fun c w e => b c w (ne_of_none e ha) (s0 c w e)) hc
  · exact he nf d H' (s0.free nd) (s0.trans hs) hd'
/-! ### the law's own fractions: tuples in lowest terms -/
theorem int_num (i : Int) : ((i : Rat)).num = i := rfl
theorem int_den (i : Int) : ((i : Rat)).den = 1 := rfl
def Tp (H : Hp) (a : Addr) (q : Rat) : Prop := H a = some (.tup [.int q.num, .int q.den])
theorem Tp.same {H H1 : Hp} {a : Addr} {q : Rat} (h : Tp H a q) (s : Same H H1) : Tp H1 a q := s _ _ h
/-- a fraction not always in lowest terms -/
def Tq (H : Hp) (a : Addr) (n : Nat) (q : Rat) : Prop := ∃ t b : Int, H a = some (.tup [.int t, .int b]) ∧ b ≠ 0 ∧ q = Rat.divInt t b ∧ Sz n t ∧ Sz n b
theorem Tp.tq {H : Hp} {a : Addr} {n : Nat} {q : Rat} (h : Tp H a q) (z : Rz n q) : Tq H a n q := ⟨q.num, q.den, h, Int.ne_of_gt (den_pos q), (Rat.num_divInt_den q).symm, z.1, z.2⟩
theorem Tq.same {H H1 : Hp} {a : Addr} {n : Nat} {q : Rat} (h : Tq H a n q) (s : Same H H1) : Tq H1 a n q := by
  obtain ⟨t, b, e, r⟩ := h
  exact ⟨t, b, s _ _ e, r⟩
def spT2 (g : Rat → Rat → Rat) : Sp := fun vs H Q _ => ∃ (a b : Addr) (x y : Rat), vs = [.ref a, .ref b] ∧ Tq H a 4300 x ∧ Tq H b 4300 y ∧ ∀ r H', H r = none → Same H H' → Tp H' r (g x y) → Q (.ref r) H'
theorem int_div (i : Int) {n : Nat} (h : Sz n i) (h0 : 0 < n) {H : Hp} {t : Addr} : Tq (L2.upd H t (.tup [.int i, .int 1])) t n (i : Rat) := ⟨i, 1, upd_same, by decide, (divInt_one i).symm, h, szi 1 (Nat.one_lt_two_pow (by omega))⟩
section
variable {P : Program} {w : World} {K : PySem.W.Frag} {mg : Str → Option Value} {base : Heap}
theorem ok_lplus (D : Df K mg "_law_plus" s_l_plus []) (lo : Ca P w K mg base CX0 1 "_law_low" s_l_low [] ["_law_top", "_law_bottom"] spLow) : Ca P w K mg base CX0 2 "_law_plus" s_l_plus [] ["_law_one", "_law_two"] (spT2 fun a b => a + b) := by
  refine ca0 (k := 1) D c_l_plus (fun vs H Q E h => ?_) fun f cdv A outer s H vs Q E hr h => ?_
  · obtain ⟨a, b, x, y, rfl, _⟩ := h
    rfl
  · obtain ⟨a, b, x, y, rfl, ⟨t, u, ha, hu, rfl, zt, zu⟩, ⟨t', u', hb, hu', rfl, zt', zu'⟩, q⟩ := h
    refine ⟨_, pss_one (ps_ret (pe_ca lo b_l_low hr (by decide) pass0 rfl (pa_cons (pe_op op_add (pe_op op_mulA (pe_ix ix_tup (pv 0) pe_int (fun _ _ => rfl)) (pe_ix ix_tup (pv 1) pe_int (fun _ _ => rfl))) (pe_op op_mulA (pe_ix ix_tup (pv 1) pe_int (fun _ _ => rfl)) (pe_ix ix_tup (pv 0) pe_int (fun _ _ => rfl))))
      (pa_cons (pe_op op_mulA (pe_ix ix_tup (pv 0) pe_int (fun _ _ => rfl)) (pe_ix ix_tup (pv 1) pe_int (fun _ _ => rfl))) pa_nil)))), ?_⟩
    have mz : ∀ i j : Int, Sz 4300 i → Sz 4300 j → CMulA i j := fun i j hi hj => ⟨hi.mono (by decide), hj.mono (by decide)⟩
    have ha' := SqT.of (K := K) ha
    have hb' := SqT.of (K := K) hb
    refine ⟨_, rfl, a, _, _, _, rfl, rfl, ha', rfl, _, rfl, b, _, _, _, rfl, rfl, hb', rfl, _, _, rfl, rfl, mz _ _ zt zu', _, rfl, b, _, _, _, rfl, rfl, hb', rfl, _, rfl, a, _, _, _, rfl, rfl, ha', rfl, _, _, rfl, rfl, mz _ _ zt' zu, _, _, rfl, rfl,
      _, rfl, a, _, _, _, rfl, rfl, ha', rfl, _, rfl, b, _, _, _, rfl, rfl, hb', rfl, _, _, rfl, rfl, mz _ _ zu zu', _, _, rfl, Int.mul_ne_zero hu hu', ?_, ?_, fun r hr' => ?_⟩
    · exact Sz.add (n := 8600) ((zt.mul zu').mono (by decide)) ((zt'.mul zu).mono (by decide)) (by decide)
    · exact (zu.mul zu').mono (by decide)
    · refine q r _ hr' (Same.new hr') ?_
      show L2.upd H r _ r = _
      rw [upd_same, ← Rat.divInt_add_divInt t t' hu hu']
theorem ok_lby (D : Df K mg "_law_by" s_l_by []) (lo : Ca P w K mg base CX0 1 "_law_low" s_l_low [] ["_law_top", "_law_bottom"] spLow) : Ca P w K mg base CX0 2 "_law_by" s_l_by [] ["_law_one", "_law_two"] (spT2 fun a b => a * b) := by
  refine ca0 (k := 1) D c_l_by (fun vs H Q E h => ?_) fun f cdv A outer s H vs Q E hr h => ?_
  · obtain ⟨a, b, x, y, rfl, _⟩ := h
    rfl
  · obtain ⟨a, b, x, y, rfl, ⟨t, u, ha, hu, rfl, zt, zu⟩, ⟨t', u', hb, hu', rfl, zt', zu'⟩, q⟩ := h
    refine ⟨_, pss_one (ps_ret (pe_ca lo b_l_low hr (by decide) pass0 rfl (pa_cons (pe_op op_mulA (pe_ix ix_tup (pv 0) pe_int (fun _ _ => rfl)) (pe_ix ix_tup (pv 1) pe_int (fun _ _ => rfl)))
      (pa_cons (pe_op op_mulA (pe_ix ix_tup (pv 0) pe_int (fun _ _ => rfl)) (pe_ix ix_tup (pv 1) pe_int (fun _ _ => rfl))) pa_nil)))), ?_⟩
    have mz : ∀ i j : Int, Sz 4300 i → Sz 4300 j → CMulA i j := fun i j hi hj => ⟨hi.mono (by decide), hj.mono (by decide)⟩
    have ha' := SqT.of (K := K) ha
    have hb' := SqT.of (K := K) hb
    refine ⟨_, rfl, a, _, _, _, rfl, rfl, ha', rfl, _, rfl, b, _, _, _, rfl, rfl, hb', rfl, _, _, rfl, rfl, mz _ _ zt zt',
      _, rfl, a, _, _, _, rfl, rfl, ha', rfl, _, rfl, b, _, _, _, rfl, rfl, hb', rfl, _, _, rfl, rfl, mz _ _ zu zu', _, _, rfl, Int.mul_ne_zero hu hu', ?_, ?_, fun r hr' => ?_⟩
    · exact (zt.mul zt').mono (by decide)
    · exact (zu.mul zu').mono (by decide)
    · refine q r _ hr' (Same.new hr') ?_
      show L2.upd H r _ r = _
      rw [upd_same, ← Rat.divInt_mul_divInt t t']
end
/-! the law's calendars -/
def Fo (H : Hp) (r : Addr) (m y o k : Rat) : Prop := ∃ a b c d, H r = some (.tup [.ref a, .ref b, .ref c, .ref d]) ∧ Tp H a m ∧ Tp H b y ∧ Tp H c o ∧ Tp H d k
theorem Fo.same {H H1 : Hp} {r : Addr} {m y o k : Rat} (h : Fo H r m y o k) (s : Same H H1) : Fo H1 r m y o k := by
  obtain ⟨a, b, c, d, e, h1, h2, h3, h4⟩ := h
  exact ⟨a, b, c, d, s _ _ e, h1.same s, h2.same s, h3.same s, h4.same s⟩
def spPart : Sp := fun vs H Q _ => ∃ (l : Addr) (n : Nat), vs = [.ref l] ∧ Dr H l n ∧ n ≤ 100000 ∧ ∀ r H' q, 0 ≤ q → q ≤ 1 → Rz 18 q → But l H H' → Dr H' l (n + 2) → Tp H' r q → Q (.ref r) H'
def spMom : Sp := fun vs H Q _ => ∃ (l : Addr) (n : Nat), vs = [.ref l] ∧ Dr H l n ∧ n ≤ 10000 ∧ ∀ r H' q, Rz 60 q → But l H H' → Dr H' l (n + 3) → Tp H' r q → Q (.ref r) H'
def spFour : Sp := fun vs H Q _ => ∃ (l : Addr) (n : Nat), vs = [.ref l] ∧ Dr H l n ∧ n ≤ 1000 ∧ ∀ r H' m y o k, Good m y o k → But l H H' → Dr H' l (n + 11) → Fo H' r m y o k → Q (.ref r) H'
theorem Tp.but {l : Addr} {H H1 : Hp} {n : Nat} {a : Addr} {q : Rat} (h : Tp H a q) (b : But l H H1) (d : Dr H l n) : Tp H1 a q := b.tup d h
section
variable {P : Program} {w : World} {K : PySem.W.Frag} {mg : Str → Option Value} {base : Heap}
theorem ok_lpart (D : Df K mg "_law_part" s_l_part []) (f_l_next : Ca P w K mg base CX0 1 "_law_next" s_l_next [] ["_law_draws_here"] spNext) (f_l_low : Ca P w K mg base CX0 1 "_law_low" s_l_low [] ["_law_top", "_law_bottom"] spLow) : Ca P w K mg base CX0 2 "_law_part" s_l_part [] ["_law_draws_here"] spPart := by
  refine ca0 (k := 1) D c_l_part (fun vs H Q E h => ?_) fun f cdv A outer s H vs Q E hr h => ?_
  · obtain ⟨l, n, rfl, _⟩ := h
    rfl
  · obtain ⟨l, n, rfl, d, hn, q⟩ := h
    refine ⟨_, (pss_cons (ps_set (i := 1) c_l_part.nd rfl (.inl rfl) (pe_ca f_l_next b_l_next hr (by decide) pass0 rfl (pa_cons (pv 0) pa_nil)))
      (pss_cons (ps_set (i := 2) c_l_part.nd rfl (.inl rfl) (pe_ix ix_list (pe_lst (pa_cons (pe_op op_add pe_int (pe_op op_mod (pe_op op_fdiv (pv 1) pe_int) pe_int)) (pa_cons (pe_op op_add pe_int (pe_op op_mod (pe_op op_fdiv (pv 1) pe_int) pe_int)) (pa_cons (pe_op op_add pe_int (pe_op op_mod (pe_op op_fdiv (pv 1) pe_int) pe_int)) (pa_cons (pe_op op_add (pe_op op_pow pe_int pe_int) (pe_op op_mod (pe_op op_fdiv (pv 1) pe_int) (pe_op op_pow pe_int pe_int))) pa_nil))))) (pe_op op_mod (pv 1) pe_int) (fun _ _ => rfl)))
      (pss_one (ps_ret (pe_ca f_l_low b_l_low hr (by decide) pass0 rfl (pa_cons (pe_op op_mod (pe_ca f_l_next b_l_next hr (by decide) pass0 rfl (pa_cons (pv 0) pa_nil)) (pe_op op_add (pv 2) pe_int)) (pa_cons (pv 2) pa_nil))))))), ?_⟩
    refine ⟨_, rfl, l, n, rfl, d, by omega, fun v H1 v0 v1 b1 d1 => ?_⟩
    refine ⟨_, rfl, _, _, rfl, rfl, ⟨by decide, by decide⟩, _, _, rfl, rfl, md, _, _, rfl, rfl, _, rfl, _, _, rfl, rfl, ⟨by decide, by decide⟩, _, _, rfl, rfl, md, _, _, rfl, rfl, _, rfl, _, _, rfl, rfl, ⟨by decide, by decide⟩, _, _, rfl, rfl, md, _, _, rfl, rfl, _, _, rfl, rfl, ⟨by decide, by decide, by decide⟩, _, rfl, _, _, rfl, rfl, ⟨by decide, by decide⟩, _, _, rfl, rfl, ⟨by decide, by decide, by decide⟩, _, _, rfl, rfl, md, _, _, rfl, rfl, (by show 4 ≤ sizeLine; decide), fun p hp => ?_⟩
    have h1 := Int.emod_nonneg v (show (4 : Int) ≠ 0 by decide)
    have h2 := Int.emod_lt_of_pos v (show (0 : Int) < 4 by decide)
    obtain ⟨x, hx, b, rfl, zb0, zb1⟩ := pick (P := fun x => ∃ i : Int, x = V.int i ∧ 1 ≤ i ∧ i ≤ 200000) (xs := [.int (1 + v / 4 % 3), .int (1 + v / 4 % 40), .int (1 + v / 4 % 1000), .int (10 ^ (5 : Int).toNat + v / 4 % 10 ^ (5 : Int).toNat)]) h1 h2 (by
      have e5 : (10 : Int) ^ (5 : Int).toNat = 100000 := by decide
      intro x hx
      rcases List.mem_cons.mp hx with rfl | hx
      · exact ⟨_, rfl, by omega, by omega⟩
      rcases List.mem_cons.mp hx with rfl | hx
      · exact ⟨_, rfl, by omega, by omega⟩
      rcases List.mem_cons.mp hx with rfl | hx
      · exact ⟨_, rfl, by omega, by omega⟩
      rcases List.mem_cons.mp hx with rfl | hx
      · exact ⟨_, rfl, by rw [e5]; omega, by rw [e5]; omega⟩
      · cases hx)
    refine ⟨_, rfl, _, _, rfl, rfl, md, p, _, _, _, rfl, rfl, SqL.of upd_same, hx, ?_⟩
    refine ⟨_, rfl, l, n + 1, rfl, d1.new hp, by omega, fun u H2 u0 u1 b2 d2 => ?_⟩
    have t0 := Int.emod_nonneg u (show b + 1 ≠ 0 by omega)
    have t1 := Int.emod_lt_of_pos u (show 0 < b + 1 by omega)
    refine ⟨_, rfl, _, _, rfl, rfl, _, _, rfl, rfl, (show 0 < b + 1 by omega), _, rfl, u % (b + 1), b, rfl, by omega, ?_, ?_, fun r hr' => ?_⟩
    · exact (Sz.of (n := 18) (by omega) (by have : (2 : Int) ^ 18 = 262144 := by decide
                                            omega)).mono (by decide)
    · exact (Sz.of (n := 18) (by omega) (by have : (2 : Int) ^ 18 = 262144 := by decide
                                            omega)).mono (by decide)
    · obtain ⟨q0, q1⟩ := unit_divInt t0 (show u % (b + 1) ≤ b by omega) (show 0 < b by omega)
      have e18 : (2 : Int) ^ 18 = 262144 := by decide
      exact q r _ _ q0 q1 (Rz.divInt (Sz.of (by omega) (by omega)) (Sz.of (by omega) (by omega)) (by decide)) (((b1.upd hp).trans b2).upd hr') (d2.new hr') upd_same
end
section
variable {P : Program} {w : World} {K : PySem.W.Frag} {mg : Str → Option Value} {base : Heap}
theorem ok_lmom (D : Df K mg "_law_moment" s_l_moment []) (f_l_next : Ca P w K mg base CX0 1 "_law_next" s_l_next [] ["_law_draws_here"] spNext) (f_l_part : Ca P w K mg base CX0 2 "_law_part" s_l_part [] ["_law_draws_here"] spPart) (f_l_plus : Ca P w K mg base CX0 2 "_law_plus" s_l_plus [] ["_law_one", "_law_two"] (spT2 fun a b => a + b)) : Ca P w K mg base CX0 3 "_law_moment" s_l_moment [] ["_law_draws_here"] spMom := by
  refine ca0 (k := 2) D c_l_moment (fun vs H Q E h => ?_) fun f cdv A outer s H vs Q E hr h => ?_
  · obtain ⟨l, n, rfl, _⟩ := h
    rfl
  · obtain ⟨l, n, rfl, d, hn, q⟩ := h
    refine ⟨_, (pss_cons (ps_set (i := 1) c_l_moment.nd rfl (.inl rfl) (pe_ca f_l_part b_l_part hr (by decide) pass0 rfl (pa_cons (pv 0) pa_nil)))
      (pss_cons (ps_set (i := 2) c_l_moment.nd rfl (.inl rfl) (pe_ca f_l_next b_l_next hr (by decide) pass0 rfl (pa_cons (pv 0) pa_nil)))
      (pss_cons (ps_set (i := 3) c_l_moment.nd rfl (.inl rfl) (pe_ix ix_list (pe_lst (pa_cons pe_int (pa_cons (pe_op op_mod (pe_op op_fdiv (pv 2) pe_int) pe_int) (pa_cons (pe_op op_add (pe_op op_pow pe_int pe_int) (pe_op op_fdiv (pv 2) pe_int)) (pa_cons (pe_op op_sub pe_int (pe_op op_mod (pe_op op_fdiv (pv 2) pe_int) (pe_op op_pow pe_int pe_int))) pa_nil))))) (pe_op op_mod (pv 2) pe_int) (fun _ _ => rfl)))
      (pss_one (ps_ret (pe_ca f_l_plus b_l_plus hr (by decide) pass0 rfl (pa_cons (pv 1) (pa_cons (pe_tup (pa_cons (pv 3) (pa_cons pe_int pa_nil))) pa_nil)))))))), ?_⟩
    refine ⟨_, rfl, l, n, rfl, d, by omega, fun a H1 x x0 x1 zx b1 d1 e1 => ?_⟩
    refine ⟨_, rfl, l, n + 2, rfl, d1, by omega, fun v H2 v0 v1 b2 d2 => ?_⟩
    refine ⟨_, rfl, _, _, rfl, rfl, ⟨by decide, by decide⟩, _, _, rfl, rfl, md, _, _, rfl, rfl, ⟨by decide, by decide, by decide⟩, _, rfl, _, _, rfl, rfl, ⟨by decide, by decide⟩, _, _, rfl, rfl, _, rfl, _, _, rfl, rfl, ⟨by decide, by decide⟩, _, _, rfl, rfl, ⟨by decide, by decide, by decide⟩, _, _, rfl, rfl, md, _, _, rfl, rfl, (by show 4 ≤ sizeLine; decide), fun p hp => ?_⟩
    have h1 := Int.emod_nonneg v (show (4 : Int) ≠ 0 by decide)
    have h2 := Int.emod_lt_of_pos v (show (0 : Int) < 4 by decide)
    obtain ⟨z, hz, i, rfl, zi⟩ := pick (P := fun x => ∃ i : Int, x = V.int i ∧ Sz 30 i) (xs := [.int 0, .int (v / 4 % 100), .int (10 ^ (6 : Int).toNat + v / 4), .int (0 - v / 4 % 10 ^ (5 : Int).toNat)]) h1 h2 (by
      have e5 : (10 : Int) ^ (5 : Int).toNat = 100000 := by decide
      have e6 : (10 : Int) ^ (6 : Int).toNat = 1000000 := by decide
      have e30 : (2 : Int) ^ 30 = 1073741824 := by decide
      intro x hx
      rcases List.mem_cons.mp hx with rfl | hx
      · exact ⟨_, rfl, Sz.of (by omega) (by omega)⟩
      rcases List.mem_cons.mp hx with rfl | hx
      · exact ⟨_, rfl, Sz.of (by omega) (by omega)⟩
      rcases List.mem_cons.mp hx with rfl | hx
      · exact ⟨_, rfl, Sz.of (by rw [e6, e30]; omega) (by rw [e6, e30]; omega)⟩
      rcases List.mem_cons.mp hx with rfl | hx
      · exact ⟨_, rfl, Sz.of (by rw [e5, e30]; omega) (by rw [e5, e30]; omega)⟩
      · cases hx)
    refine ⟨_, rfl, _, _, rfl, rfl, md, p, _, _, _, rfl, rfl, SqL.of upd_same, hz, ?_⟩
    refine ⟨_, rfl, _, rfl, (by show 2 ≤ sizeLine; decide), fun t ht => ?_⟩
    have ea : Tp _ a x := ((e1.but b2 d1).same (Same.new hp)).same (Same.new (o := .tup [.int i, .int 1]) ht)
    refine ⟨a, t, x, (i : Rat), rfl, ea.tq (zx.mono (by decide)), int_div i (zi.mono (by decide)) (by decide), fun r H3 nr s3 e3 => ?_⟩
    exact q r H3 _ (zx.add (Rz.int zi (by decide)) (by decide)) (((((b1.trans b2).upd hp).upd ht)).trans (But.same s3)) (((d2.new hp).new ht).same s3 (by omega)) e3
end
theorem Fo.but {l : Addr} {H H1 : Hp} {r : Addr} {n : Nat} {m y o k : Rat} (h : Fo H r m y o k) (b : But l H H1) (d : Dr H l n) : Fo H1 r m y o k := by
  obtain ⟨a, b', c, d', e, h1, h2, h3, h4⟩ := h
  exact ⟨a, b', c, d', b.tup d e, h1.but b d, h2.but b d, h3.but b d, h4.but b d⟩
/-- a month and a year of the law's -/
structure MY (m y : Rat) : Prop where
  fit : Fit m y
  zm : Rz 60 m
  zy : Rz 60 y
def qm1 : Rat := ⟨27759, 940, by decide, by decide⟩
def qy1 : Rat := ⟨1461, 4, by decide, by decide⟩
def qm2 : Rat := ⟨765433, 25920, by decide, by decide⟩
def qy2 : Rat := ⟨35975351, 98496, by decide, by decide⟩
def qm3 : Rat := ⟨59, 2, by decide, by decide⟩
def qy3 : Rat := ⟨365, 1, by decide, by decide⟩
def qm4 : Rat := ⟨30, 1, by decide, by decide⟩
def qy4 : Rat := ⟨366, 1, by decide, by decide⟩
theorem my1 : MY qm1 qy1 := ⟨⟨by decide +kernel, by decide +kernel, by decide +kernel⟩, ⟨szi _, szi _⟩, ⟨szi _, szi _⟩⟩
theorem my2 : MY qm2 qy2 := ⟨⟨by decide +kernel, by decide +kernel, by decide +kernel⟩, ⟨szi _, szi _⟩, ⟨szi _, szi _⟩⟩
theorem my3 : MY qm3 qy3 := ⟨⟨by decide +kernel, by decide +kernel, by decide +kernel⟩, ⟨szi _, szi _⟩, ⟨szi _, szi _⟩⟩
theorem my4 : MY qm4 qy4 := ⟨⟨by decide +kernel, by decide +kernel, by decide +kernel⟩, ⟨szi _, szi _⟩, ⟨szi _, szi _⟩⟩
section
variable {P : Program} {w : World} {K : PySem.W.Frag} {mg : Str → Option Value} {base : Heap}
theorem ok_lfour (D : Df K mg "_law_four" s_l_four []) (f_l_next : Ca P w K mg base CX0 1 "_law_next" s_l_next [] ["_law_draws_here"] spNext) (f_l_part : Ca P w K mg base CX0 2 "_law_part" s_l_part [] ["_law_draws_here"] spPart) (f_l_plus : Ca P w K mg base CX0 2 "_law_plus" s_l_plus [] ["_law_one", "_law_two"] (spT2 fun a b => a + b)) (f_l_by : Ca P w K mg base CX0 2 "_law_by" s_l_by [] ["_law_one", "_law_two"] (spT2 fun a b => a * b)) (f_l_moment : Ca P w K mg base CX0 3 "_law_moment" s_l_moment [] ["_law_draws_here"] spMom) : Ca P w K mg base CX0 4 "_law_four" s_l_four [] ["_law_draws_here"] spFour := by
  refine ca0 (k := 3) D c_l_four (fun vs H Q E h => ?_) fun f cdv A outer s H vs Q E hr h => ?_
  · obtain ⟨l, n, rfl, _⟩ := h
    rfl
  · obtain ⟨l, n, rfl, d, hn, q⟩ := h
    refine ⟨_, (pss_cons (ps_set (i := 1) c_l_four.nd rfl (.inl rfl) (pe_ca f_l_next b_l_next hr (by decide) pass0 rfl (pa_cons (pv 0) pa_nil)))
      (pss_cons (ps_if (pt_cmpR op_eq (pe_op op_mod (pv 1) pe_int) pe_int (nomark _)) (pss_cons (ps_set (i := 2) c_l_four.nd rfl (.inl rfl) (pe_lst (pa_cons (pe_tup (pa_cons (pe_tup (pa_cons pe_int (pa_cons pe_int pa_nil))) (pa_cons (pe_tup (pa_cons pe_int (pa_cons pe_int pa_nil))) pa_nil))) (pa_cons (pe_tup (pa_cons (pe_tup (pa_cons pe_int (pa_cons pe_int pa_nil))) (pa_cons (pe_tup (pa_cons pe_int (pa_cons pe_int pa_nil))) pa_nil))) pa_nil))))
      (pss_one (ps_asg (pe_ix ix_list (pe_op op_cat (pv 2) (pe_lst (pa_cons (pe_tup (pa_cons (pe_tup (pa_cons pe_int (pa_cons pe_int pa_nil))) (pa_cons (pe_tup (pa_cons pe_int (pa_cons pe_int pa_nil))) pa_nil))) (pa_cons (pe_tup (pa_cons (pe_tup (pa_cons pe_int (pa_cons pe_int pa_nil))) (pa_cons (pe_tup (pa_cons pe_int (pa_cons pe_int pa_nil))) pa_nil))) pa_nil)))) (pe_op op_mod (pe_op op_fdiv (pv 1) pe_int) pe_int) (fun _ _ => rfl)) (pg_tup rfl (pgs_cons (pg_name (i := 3) c_l_four.nd rfl (.inl rfl)) (pgs_cons (pg_name (i := 4) c_l_four.nd rfl (.inl rfl)) pgs_nil)))))) (pss_cons (ps_set (i := 5) c_l_four.nd rfl (.inl rfl) (pe_ix ix_list (pe_lst (pa_cons (pe_op op_add pe_int (pe_op op_mod (pe_op op_fdiv (pv 1) pe_int) pe_int)) (pa_cons (pe_op op_add pe_int (pe_op op_mod (pe_op op_fdiv (pv 1) pe_int) pe_int)) (pa_cons (pe_op op_add pe_int (pe_op op_mod (pe_op op_fdiv (pv 1) pe_int) pe_int)) (pa_cons pe_int (pa_cons pe_int pa_nil)))))) (pe_op op_mod (pe_op op_fdiv (pv 1) pe_int) pe_int) (fun _ _ => rfl)))
      (pss_cons (ps_set (i := 6) c_l_four.nd rfl (.inl rfl) (pe_ca f_l_part b_l_part hr (by decide) pass0 rfl (pa_cons (pv 0) pa_nil)))
      (pss_cons (ps_set (i := 7) c_l_four.nd rfl (.inl rfl) (pe_ca f_l_part b_l_part hr (by decide) pass0 rfl (pa_cons (pv 0) pa_nil)))
      (pss_cons (ps_set (i := 3) c_l_four.nd rfl (.inl rfl) (pe_ca f_l_by b_l_by hr (by decide) pass0 rfl (pa_cons (pe_ca f_l_plus b_l_plus hr (by decide) pass0 rfl (pa_cons (pe_tup (pa_cons (pe_op op_add (pe_op op_mul pe_int (pv 5)) pe_int) (pa_cons pe_int pa_nil))) (pa_cons (pe_ca f_l_by b_l_by hr (by decide) pass0 rfl (pa_cons (pv 6) (pa_cons (pe_tup (pa_cons (pe_op op_sub (pv 5) pe_int) (pa_cons pe_int pa_nil))) pa_nil))) pa_nil))) (pa_cons (pe_tup (pa_cons pe_int (pa_cons pe_int pa_nil))) pa_nil))))
      (pss_one (ps_set (i := 4) c_l_four.nd rfl (.inl rfl) (pe_ca f_l_plus b_l_plus hr (by decide) pass0 rfl (pa_cons (pe_tup (pa_cons (pe_op op_mul pe_int (pv 5)) (pa_cons pe_int pa_nil))) (pa_cons (pe_ca f_l_by b_l_by hr (by decide) pass0 rfl (pa_cons (pe_ca f_l_by b_l_by hr (by decide) pass0 rfl (pa_cons (pv 7) (pa_cons (pv 6) pa_nil))) (pa_cons (pe_tup (pa_cons (pe_op op_sub (pv 5) pe_int) (pa_cons pe_int pa_nil))) pa_nil))) pa_nil))))))))))
      (pss_one (ps_ret (pe_tup (pa_cons (pv 3) (pa_cons (pv 4) (pa_cons (pe_ca f_l_moment b_l_moment hr (by decide) pass0 rfl (pa_cons (pv 0) pa_nil)) (pa_cons (pe_ca f_l_moment b_l_moment hr (by decide) pass0 rfl (pa_cons (pv 0) pa_nil)) pa_nil))))))))), ?_⟩
    have fin : ∀ (x1 x2 x5 x6 x7 : Option V) (a b : Addr) (m y : Rat) (H1 : Hp), MY m y → But l H H1 → Dr H1 l (n + 5) → Tp H1 a m → Tp H1 b y →
        tRet (tTup (tCons (tVar 3) (tCons (tVar 4) (tCons (tCall spMom [] E0 (tCons (tVar 0) tNil)) (tCons (tCall spMom [] E0 (tCons (tVar 0) tNil)) tNil))))) { nx := fun _ H' => Q .non H', rt := Q } [some (.ref l), x1, x2, some (.ref a), some (.ref b), x5, x6, x7] H1 := by
      intro x1 x2 x5 x6 x7 a b m y H1 my b1 d1 ea eb
      refine ⟨_, rfl, _, rfl, _, rfl, l, n + 5, rfl, d1, by omega, fun c H2 o zo b2 d2 ec => ?_⟩
      refine ⟨_, rfl, l, n + 8, rfl, d2, by omega, fun e H3 k zk b3 d3 ee => ?_⟩
      refine ⟨(by show 4 ≤ sizeLine; decide), fun r hr' => ?_⟩
      have bb : But l H1 H3 := b2.trans b3
      refine q r _ m y o k ⟨my.fit, my.zm.mono (by decide), my.zy.mono (by decide), zo.mono (by decide), zk.mono (by decide)⟩ ((b1.trans bb).upd hr') ((d3.new hr').mono (by omega)) ?_
      exact ⟨a, b, c, e, upd_same, (ea.but bb d1).same (Same.new hr'), (eb.but bb d1).same (Same.new hr'), (ec.but b3 d2).same (Same.new hr'), ee.same (Same.new hr')⟩
    refine ⟨_, rfl, l, n, rfl, d, by omega, fun v H1 v0 v1 b1 d1 => ?_⟩
    refine ⟨_, rfl, _, _, rfl, rfl, md, rfl, _, rfl, ?_⟩
    refine ite2 (fun _ => ?_) (fun _ => ?_)
    · refine ⟨(by show 2 ≤ sizeLine; decide), fun a1 n1 => ⟨(by show 2 ≤ sizeLine; decide), fun c1 n2 => ⟨(by show 2 ≤ sizeLine; decide), fun r1 n3 => ⟨(by show 2 ≤ sizeLine; decide), fun a2 n4 => ⟨(by show 2 ≤ sizeLine; decide), fun c2 n5 => ⟨(by show 2 ≤ sizeLine; decide), fun r2 n6 => ⟨(by show 2 ≤ sizeLine; decide), fun l1 n7 => ?_⟩⟩⟩⟩⟩⟩⟩
      refine ⟨_, rfl, (by show 2 ≤ sizeLine; decide), fun a3 n8 => ⟨(by show 2 ≤ sizeLine; decide), fun c3 n9 => ⟨(by show 2 ≤ sizeLine; decide), fun r3 n10 => ⟨(by show 2 ≤ sizeLine; decide), fun a4 n11 => ⟨(by show 2 ≤ sizeLine; decide), fun c4 n12 => ⟨(by show 2 ≤ sizeLine; decide), fun r4 n13 => ⟨(by show 2 ≤ sizeLine; decide), fun l2 n14 => ?_⟩⟩⟩⟩⟩⟩⟩
      have s2 := Same.new (o := .tup [.int 1461, .int 4]) n2
      have s3 := Same.new (o := .tup [.ref a1, .ref c1]) n3
      have s4 := Same.new (o := .tup [.int 765433, .int 25920]) n4
      have s5 := Same.new (o := .tup [.int 35975351, .int 98496]) n5
      have s6 := Same.new (o := .tup [.ref a2, .ref c2]) n6
      have s7 := Same.new (o := .lst [.ref r1, .ref r2]) n7
      have s8 := Same.new (o := .tup [.int 59, .int 2]) n8
      have s9 := Same.new (o := .tup [.int 365, .int 1]) n9
      have s10 := Same.new (o := .tup [.ref a3, .ref c3]) n10
      have s11 := Same.new (o := .tup [.int 30, .int 1]) n11
      have s12 := Same.new (o := .tup [.int 366, .int 1]) n12
      have s13 := Same.new (o := .tup [.ref a4, .ref c4]) n13
      have s14 := Same.new (o := .lst [.ref r3, .ref r4]) n14
      have t13 := s14
      have t12 := s13.trans t13
      have t11 := s12.trans t12
      have t10 := s11.trans t11
      have t9 := s10.trans t10
      have t8 := s9.trans t9
      have t7 := s8.trans t8
      have t6 := s7.trans t7
      have t5 := s6.trans t6
      have t4 := s5.trans t5
      have t3 := s4.trans t4
      have t2 := s3.trans t3
      have t1 := s2.trans t2
      have t0 := (Same.new (o := .tup [.int 27759, .int 940]) n1).trans t1
      refine ⟨l1, l2, _, _, rfl, rfl, t7 _ _ upd_same, upd_same, (by show 4 ≤ sizeLine; decide), fun l3 n15 => ?_⟩
      have sz := Same.new (o := .lst ([.ref r1, .ref r2] ++ [.ref r3, .ref r4])) n15
      have h1 := Int.emod_nonneg (v / 8) (show (4 : Int) ≠ 0 by decide)
      have h2 := Int.emod_lt_of_pos (v / 8) (show (0 : Int) < 4 by decide)
      obtain ⟨x, hx, r, a, c, m, y, rfl, er, ea, ec, my⟩ := pick (P := fun x => ∃ (r a c : Addr) (m y : Rat), x = V.ref r ∧ (L2.upd _ l3 (.lst ([.ref r1, .ref r2] ++ [.ref r3, .ref r4]))) r = some (.tup [.ref a, .ref c]) ∧ Tp (L2.upd _ l3 (.lst ([.ref r1, .ref r2] ++ [.ref r3, .ref r4]))) a m ∧ Tp (L2.upd _ l3 (.lst ([.ref r1, .ref r2] ++ [.ref r3, .ref r4]))) c y ∧ MY m y) (xs := [.ref r1, .ref r2, .ref r3, .ref r4]) h1 h2 (by
        intro x hx
        rcases List.mem_cons.mp hx with rfl | hx
        · exact ⟨r1, a1, c1, qm1, qy1, rfl, sz _ _ (t3 _ _ upd_same), sz _ _ (t1 _ _ upd_same), sz _ _ (t2 _ _ upd_same), my1⟩
        rcases List.mem_cons.mp hx with rfl | hx
        · exact ⟨r2, a2, c2, qm2, qy2, rfl, sz _ _ (t6 _ _ upd_same), sz _ _ (t4 _ _ upd_same), sz _ _ (t5 _ _ upd_same), my2⟩
        rcases List.mem_cons.mp hx with rfl | hx
        · exact ⟨r3, a3, c3, qm3, qy3, rfl, sz _ _ (t10 _ _ upd_same), sz _ _ (t8 _ _ upd_same), sz _ _ (t9 _ _ upd_same), my3⟩
        rcases List.mem_cons.mp hx with rfl | hx
        · exact ⟨r4, a4, c4, qm4, qy4, rfl, sz _ _ (t13 _ _ upd_same), sz _ _ (t11 _ _ upd_same), sz _ _ (t12 _ _ upd_same), my4⟩
        · cases hx)
      refine ⟨_, rfl, _, _, rfl, rfl, ⟨by decide, by decide⟩, _, _, rfl, rfl, md, l3, _, _, _, rfl, rfl, SqL.of upd_same, hx, ?_⟩
      refine ⟨r, _, rfl, SqT.of er, rfl, _, _, rfl, _, _, rfl, rfl, ?_⟩
      exact fin _ _ _ _ _ a c m y _ my (b1.trans (But.same (t0.trans sz))) (d1.same (t0.trans sz) (by omega)) ea ec
    · refine ⟨_, rfl, _, _, rfl, rfl, ⟨by decide, by decide⟩, _, _, rfl, rfl, md, _, _, rfl, rfl, _, rfl, _, _, rfl, rfl, ⟨by decide, by decide⟩, _, _, rfl, rfl, md, _, _, rfl, rfl, _, rfl, _, _, rfl, rfl, ⟨by decide, by decide⟩, _, _, rfl, rfl, md, _, _, rfl, rfl, (by show 5 ≤ sizeLine; decide), fun p hp => ?_⟩
      have h1 := Int.emod_nonneg (v / 400) (show (5 : Int) ≠ 0 by decide)
      have h2 := Int.emod_lt_of_pos (v / 400) (show (0 : Int) < 5 by decide)
      obtain ⟨z, hz, i, rfl, i0, i1⟩ := pick (P := fun x => ∃ i : Int, x = V.int i ∧ 1 ≤ i ∧ i ≤ 32) (xs := [.int (1 + v / 8 % 4), .int (2 + v / 8 % 30), .int (28 + v / 8 % 5), .int 30, .int 30]) h1 h2 (by
        intro x hx
        rcases List.mem_cons.mp hx with rfl | hx
        · exact ⟨_, rfl, by omega, by omega⟩
        rcases List.mem_cons.mp hx with rfl | hx
        · exact ⟨_, rfl, by omega, by omega⟩
        rcases List.mem_cons.mp hx with rfl | hx
        · exact ⟨_, rfl, by omega, by omega⟩
        rcases List.mem_cons.mp hx with rfl | hx
        · exact ⟨_, rfl, by omega, by omega⟩
        rcases List.mem_cons.mp hx with rfl | hx
        · exact ⟨_, rfl, by omega, by omega⟩
        · cases hx)
      refine ⟨_, rfl, _, _, rfl, rfl, ⟨by decide, by decide⟩, _, _, rfl, rfl, md, p, _, _, _, rfl, rfl, SqL.of upd_same, hz, ?_⟩
      refine ⟨_, rfl, l, n + 1, rfl, d1.new hp, by omega, fun a2 H2 sq s0 s1 zs b2 d2 e2 => ?_⟩
      refine ⟨_, rfl, l, n + 3, rfl, d2, by omega, fun a3 H3 rq r0 r1 zr b3 d3 e3 => ?_⟩
      have b13 : But l H H3 := ((b1.upd hp).trans b2).trans b3
      have e2' : Tp H3 a2 sq := e2.but b3 d2
      have p6 : (2 : Int) ^ 6 = 64 := by decide
      have p10 : (2 : Int) ^ 10 = 1024 := by decide
      have z1 : Rz 6 ((i - 1 : Int) : Rat) := Rz.int (n := 6) (Sz.of (by omega) (by omega)) (by decide)
      have z12 : Rz 10 ((12 * i : Int) : Rat) := Rz.int (n := 10) (Sz.of (by omega) (by omega)) (by decide)
      have z121 : Rz 10 ((12 * i + 1 : Int) : Rat) := Rz.int (n := 10) (Sz.of (by omega) (by omega)) (by decide)
      have zsw : Rz 25 (sq * ((i - 1 : Int) : Rat)) := zs.mul z1 (by decide)
      have zp : Rz 36 (((12 * i + 1 : Int) : Rat) + sq * ((i - 1 : Int) : Rat)) := z121.add zsw (by decide)
      have z13 : Rz 4 (Rat.divInt 1 13) := Rz.divInt (szi 1) (szi 13) (by decide)
      have zm : Rz 60 ((((12 * i + 1 : Int) : Rat) + sq * ((i - 1 : Int) : Rat)) * Rat.divInt 1 13) := zp.mul z13 (by decide)
      have zrs : Rz 37 (rq * sq) := zr.mul zs (by decide)
      have zrw : Rz 44 (rq * sq * ((i - 1 : Int) : Rat)) := zrs.mul z1 (by decide)
      have zy : Rz 60 (((12 * i : Int) : Rat) + rq * sq * ((i - 1 : Int) : Rat)) := z12.add zrw (by decide)
      refine ⟨_, rfl, _, _, rfl, rfl, .inl ⟨by decide, by decide⟩, _, _, rfl, rfl, (by show 2 ≤ sizeLine; decide), fun t1 n1 => ?_⟩
      refine ⟨_, rfl, _, rfl, _, _, rfl, rfl, (by show 2 ≤ sizeLine; decide), fun t2 n2 => ?_⟩
      have u1 := Same.new (o := .tup [.int (12 * i + 1), .int 1]) n1
      have u2 := Same.new (o := .tup [.int (i - 1), .int 1]) n2
      refine ⟨a2, t2, sq, _, rfl, ((e2'.same u1).same u2).tq (zs.mono (by decide)), int_div (i - 1) (z1.1.mono (by decide)) (by decide), fun t3 H4 n3 u3 e4 => ?_⟩
      refine ⟨t1, t3, _, _, rfl, ((int_div (12 * i + 1) (z121.1.mono (by decide)) (by decide)).same u2).same u3, e4.tq (zsw.mono (by decide)), fun t4 H5 n4 u4 e5 => ?_⟩
      refine ⟨(by show 2 ≤ sizeLine; decide), fun t5 n5 => ?_⟩
      have u5 := Same.new (o := .tup [.int 1, .int 13]) n5
      refine ⟨t4, t5, _, Rat.divInt 1 13, rfl, (e5.same u5).tq (zp.mono (by decide)), ⟨1, 13, upd_same, by decide, rfl, szi 1 (Nat.one_lt_two_pow (by decide)), (szi (n := 4) 13).mono (by decide)⟩, fun t6 H6 n6 u6 e6 => ?_⟩
      have v16 : Same H3 H6 := u1.trans (u2.trans (u3.trans (u4.trans (u5.trans u6))))
      refine ⟨_, rfl, _, _, rfl, rfl, .inl ⟨by decide, by decide⟩, (by show 2 ≤ sizeLine; decide), fun t7 n7 => ?_⟩
      have u7 := Same.new (o := .tup [.int (12 * i), .int 1]) n7
      refine ⟨_, rfl, _, rfl, a3, a2, rq, sq, rfl, ((e3.same v16).same u7).tq (zr.mono (by decide)), ((e2'.same v16).same u7).tq (zs.mono (by decide)), fun t8 H8 n8 u8 e8 => ?_⟩
      refine ⟨_, rfl, _, _, rfl, rfl, (by show 2 ≤ sizeLine; decide), fun t9 n9 => ?_⟩
      have u9 := Same.new (o := .tup [.int (i - 1), .int 1]) n9
      refine ⟨t8, t9, _, _, rfl, (e8.same u9).tq (zrs.mono (by decide)), int_div (i - 1) (z1.1.mono (by decide)) (by decide), fun t10 H10 n10 u10 e10 => ?_⟩
      refine ⟨t7, t10, _, _, rfl, ((int_div (12 * i) (z12.1.mono (by decide)) (by decide)).same (u8.trans u9)).same u10, e10.tq (zrw.mono (by decide)), fun t11 H11 n11 u11 e11 => ?_⟩
      have v6 : Same H6 H11 := u7.trans (u8.trans (u9.trans (u10.trans u11)))
      exact fin _ _ _ _ _ t6 t11 _ _ H11 ⟨fit_drawn i0 s0 s1 r0 r1, zm, zy⟩ (b13.trans (But.same (v16.trans v6))) (d3.same (v16.trans v6) (by omega)) (e6.same v6) e11
end
/-! ### the law -/
def spLaw (K : PySem.W.Frag) : Sp := fun vs H Q _ => ∃ (a : Addr) (ns : List Int), vs = [.ref a] ∧ SqL K H a (ns.map V.int) ∧ ns.length ≤ 63 ∧ ∀ H', Q (.bl true) H'
theorem cut_ints {ns : List Int} {lo hi : Option Int} {j : Nat} {x : V} (h : (cutV (ns.map V.int) lo hi ++ [V.int 0])[j]? = some x) : ∃ c : Int, x = .int c := by
  have hx : x ∈ cutV (ns.map V.int) lo hi ++ [V.int 0] := List.mem_of_getElem? h
  rcases List.mem_append.mp hx with hx | hx
  · have h1 := List.mem_of_mem_take hx
    have h2 := List.mem_of_mem_drop h1
    obtain ⟨c, _, e⟩ := List.mem_map.mp h2
    exact ⟨c, e.symm⟩
  · exact ⟨0, List.mem_singleton.mp hx⟩
theorem cut_len {ns : List Int} {lo hi : Option Int} (h : ns.length ≤ 63) : (cutV (ns.map V.int) lo hi).length + ([V.int 0] : List V).length ≤ sizeLine := by
  have h1 := cutV_length (ns.map V.int) lo hi
  rw [List.length_map] at h1
  have h2 : ([V.int 0] : List V).length = 1 := rfl
  exact Nat.le_trans (show _ ≤ 64 by omega) (by decide)
/-! ### figures of numbers -/
def spNum : Sp := fun vs H Q _ => ∃ (i : Int) (b : Nat), vs = [.int i, .int (b : Int)] ∧ 2 ≤ b ∧ b ≤ 16 ∧ Sz 1810 i ∧ ∀ H', Same H H' → Q (.str (numT b i)) H'
theorem numT_len {b : Nat} {i : Int} (hb : 2 ≤ b) (h : Sz 1810 i) : (numT b i).length ≤ 1811 := by
  have h1 := lsd_len hb 1810 i.natAbs h (by decide)
  unfold numT
  split
  · rw [dash_txt_len, List.length_reverse]
    omega
  · rw [txt_len, List.length_reverse]
    omega
theorem abs_nat (i : Int) : (if i < 0 then -i else i) = ((i.natAbs : Nat) : Int) := by
  split <;> omega
theorem sum_one : ∀ ds : List Nat, ((ds.map sg).map (·.length)).sum = ds.length
  | [] => rfl
  | d :: ds => by
    rw [List.map_cons, List.map_cons, List.sum_cons, sum_one ds, List.length_cons]
    show 1 + _ = _
    omega
theorem len_sg {ds : List Nat} (h : ds.length ≤ 1810) : ((ds.map sg).reverse.map (·.length)).sum + (ds.map sg).reverse.length * ("" : Str).length ≤ 16777216 := by
  have e : ("" : Str).length = 0 := by decide +kernel
  rw [e, Nat.mul_zero, ← List.map_reverse, sum_one, List.length_reverse]
  omega
theorem len_dash {ds : List Nat} (h : ds.length ≤ 1810) : ((ds.map sg ++ [("-" : Str)]).reverse.map (·.length)).sum + (ds.map sg ++ [("-" : Str)]).reverse.length * ("" : Str).length ≤ 16777216 := by
  have e : ("" : Str).length = 0 := by decide +kernel
  rw [e, Nat.mul_zero, List.reverse_append, List.map_append, List.sum_append, ← List.map_reverse, sum_one, List.length_reverse]
  have e2 : (List.map (fun x : Str => x.length) [("-" : Str)].reverse).sum = 1 := by decide +kernel
  rw [e2]
  omega
theorem szb {b n : Nat} (h : b ≤ 16) (hn : 5 ≤ n) : Sz n ((b : Nat) : Int) := Nat.lt_of_lt_of_le (show ((b : Nat) : Int).natAbs < 2 ^ 5 by omega) (Nat.pow_le_pow_right (by decide) hn)
section
variable {P : Program} {w : World} {K : PySem.W.Frag} {mg : Str → Option Value} {base : Heap}
theorem ok_num (D : Df K mg "numeral" s_numeral [.int 10]) {tk : Tok} (h_FIGURES : mg "FIGURES" = some (.str FIG tk)) (g_abs : mg "abs" = none) (g_reversed : mg "reversed" = none) : Ca P w K mg base CX0 1 "numeral" s_numeral [.int 10] ["number", "base"] spNum := by
  refine ca0 (k := 0) D c_numeral (fun vs H Q E h => ?_) fun f cdv A outer s H vs Q E hr h => ?_
  · obtain ⟨i, b, rfl, _⟩ := h
    rfl
  · obtain ⟨i, b, rfl, h2, h16, zi, q⟩ := h
    refine ⟨_, (pss_cons (ps_set (i := 2) c_numeral.nd rfl (.inl rfl) (pe_callB call_abs rfl g_abs (by decide +kernel) (pa_cons (pv 0) pa_nil)))
      (pss_cons (ps_set (i := 3) c_numeral.nd rfl (.inl rfl) (pe_lst (pa_cons (pe_ix ix_str (pe_glob (v := .str FIG) rfl h_FIGURES ⟨_, rfl⟩) (pe_op op_mod (pv 2) (pv 1)) (fun _ _ => rfl)) pa_nil)))
      (pss_cons (ps_while PassesOwn.never (pt_cmpR op_ge (pv 2) (pv 1) (nomark _)) (pss_cons (ps_set (i := 2) c_numeral.nd rfl (.inl rfl) (pe_op op_fdivA (pv 2) (pv 1)))
      (pss_one (ps_expr (pe_bm PySem.F.plainAttrs_list PySem.F.slot_list_append PySem.F.type_list_append mt_append (pv 3) (pa_cons (pe_ix ix_str (pe_glob (v := .str FIG) rfl h_FIGURES ⟨_, rfl⟩) (pe_op op_mod (pv 2) (pv 1)) (fun _ _ => rfl)) pa_nil))))))
      (pss_cons (ps_if (pt_cmpR op_lt (pv 0) pe_int (nomark _)) (pss_one (ps_expr (pe_bm PySem.F.plainAttrs_list PySem.F.slot_list_append PySem.F.type_list_append mt_append (pv 3) (pa_cons pe_str pa_nil)))) pss_nil)
      (pss_one (ps_ret (pe_joinRev rfl pe_str rfl g_reversed (pv 3)))))))), ?_⟩
    have hl := lsd_len h2 1810 i.natAbs zi (by decide)
    have hb0 : (0 : Int) < (b : Int) := by omega
    have md' : ∀ r : Nat, ((r : Nat) : Int) % (b : Int) = ((r % b : Nat) : Int) := fun r => (Int.natCast_emod r b).symm
    have dv' : ∀ r : Nat, ((r : Nat) : Int).fdiv (b : Int) = ((r / b : Nat) : Int) := fun r => by
      rw [Int.fdiv_eq_ediv_of_nonneg _ (by omega)]
      exact (Int.natCast_ediv r b).symm
    have lt16 : ∀ r : Nat, r % b < 16 := fun r => Nat.lt_of_lt_of_le (Nat.mod_lt _ (by omega)) h16
    have fa : ∀ r : Nat, atI FIG.cps.toList (((r : Nat) : Int) % (b : Int)) = some (dg (r % b)) := fun r => by
      rw [md']
      exact fig_at (lt16 r)
    have fl : FIG.length ≤ sizeLine := by rw [fig_len]; decide
    refine ⟨_, rfl, i, rfl, ?_⟩
    rw [abs_nat]
    refine ⟨_, rfl, _, rfl, _, _, rfl, rfl, hb0, FIG, _, dg (i.natAbs % b), rfl, rfl, fl, fa _, (by show 1 ≤ sizeLine; decide), fun l nl => ?_⟩
    have e0 : ([V.str ⟨#[dg (i.natAbs % b)]⟩] : List V) = ((([] : List Nat) ++ [i.natAbs % b]).map sg).map V.str := rfl
    rw [e0]
    refine while_by (fun σ H' => ∃ (pre : List Nat) (r : Nat), σ = [some (.int i), some (.int (b : Int)), some (.int ((r : Nat) : Int)), some (.ref l)] ∧ pre ++ lsd b r = lsd b i.natAbs ∧ H' = L2.upd H l (.lst (((pre ++ [r % b]).map sg).map V.str))) (mu2 2) ⟨[], i.natAbs, rfl, rfl, rfl⟩ ?_ (fun σ H' R R' hq ⟨v, h1, v2, h12, a, c, h2, h3, k, h4, h5⟩ => ⟨v, h1, v2, h12, a, c, h2, h3, k, h4, hq _ _ h5⟩)
    rintro σ H' ⟨pre, r, rfl, hp, rfl⟩
    refine ⟨_, rfl, _, rfl, _, _, rfl, rfl, _, rfl, ?_⟩
    have plen : (pre ++ [r % b]).length ≤ 1810 := by
      have h3 : (pre ++ lsd b r).length ≤ 1810 := by rw [hp]; exact hl
      have h4 : 0 < (lsd b r).length := List.length_pos_iff.mpr (lsd_ne b r)
      rw [List.length_append] at h3 ⊢
      simp only [List.length_singleton]
      omega
    by_cases hr' : b ≤ r
    · rw [decide_eq_true (show ((r : Nat) : Int) ≥ (b : Int) by omega)]
      refine iteT ?_
      refine ⟨_, rfl, _, rfl, _, _, rfl, rfl, ⟨by omega, szb h16 (by decide)⟩, ?_⟩
      rw [show (fun i j : Int => V.int (Int.fdiv i j)) ((r : Nat) : Int) (b : Int) = V.int ((r / b : Nat) : Int) from congrArg V.int (dv' r)]
      refine ⟨_, rfl, .inl ⟨rfl, _, SqL.of upd_same⟩, _, rfl, _, rfl, _, _, rfl, rfl, hb0, FIG, _, dg (r / b % b), rfl, rfl, fl, fa _, l, _, _, rfl, rfl, upd_same, ?_, ?_⟩
      · rw [List.length_map, List.length_map]
        exact Nat.lt_of_le_of_lt plen (by decide)
      · refine ⟨⟨pre ++ [r % b], r / b, rfl, ?_, ?_⟩, ?_⟩
        · rw [← hp, lsd_ge h2 hr', List.append_assoc]
          rfl
        · rw [upd_upd]
          congr 1
          rw [List.map_append (l₁ := pre ++ [r % b]), List.map_append (l₁ := (pre ++ [r % b]).map sg)]
          rfl
        · show (((r / b : Nat) : Int)).natAbs < (((r : Nat) : Int)).natAbs
          rw [Int.natAbs_natCast, Int.natAbs_natCast]
          exact Nat.div_lt_self (show 0 < r by omega) (show 1 < b by omega)
    · rw [decide_eq_false (show ¬ ((r : Nat) : Int) ≥ (b : Int) by omega)]
      refine iteF ?_
      have er : pre ++ [r % b] = lsd b i.natAbs := by
        rw [← hp, lsd_lt (by omega), Nat.mod_eq_of_lt (by omega)]
      rw [er]
      refine ⟨_, rfl, _, _, rfl, rfl, _, rfl, ?_⟩
      by_cases hn : i < 0
      · rw [decide_eq_true hn]
        refine iteT ?_
        refine ⟨_, rfl, .inl ⟨rfl, _, SqL.of upd_same⟩, l, _, _, rfl, rfl, upd_same, ?_, ?_⟩
        · rw [List.length_map, List.length_map]
          exact Nat.lt_of_le_of_lt hl (by decide)
        rw [upd_upd]
        have e1 : ((lsd b i.natAbs).map sg).map V.str ++ [V.str ("-" : Str)] = ((lsd b i.natAbs).map sg ++ [("-" : Str)]).map V.str := by
          rw [List.map_append]
          rfl
        rw [e1]
        refine ⟨⟨_, rfl⟩, _, rfl, _, l, _, rfl, rfl, SqL.of upd_same, ?_, ?_⟩
        · exact len_dash hl
        · rw [join_dash]
          have q2 := q _ (Same.new (o := .lst (((lsd b i.natAbs).map sg ++ [("-" : Str)]).map V.str)) nl)
          unfold numT at q2
          rw [if_pos hn] at q2
          exact q2
      · rw [decide_eq_false hn]
        refine iteF ?_
        refine ⟨⟨_, rfl⟩, _, rfl, _, l, _, rfl, rfl, SqL.of upd_same, ?_, ?_⟩
        · exact len_sg hl
        · rw [join_sg]
          have q2 := q _ (Same.new (o := .lst (((lsd b i.natAbs).map sg).map V.str)) nl)
          unfold numT at q2
          rw [if_neg hn] at q2
          exact q2
end
/-! ### numbers out of any text -/
theorem bd_numeral1 : Bd1 "numeral" "numeral" s_numeral ["number", "base"] 1 0 1 := fun _ _ _ _ _ _ _ us its hu hi => match us, hu, its, hi with | [_], _, [_], _ => ⟨_, rfl, rfl⟩
theorem bd_numeral2 : Bd1 "numeral" "numeral" s_numeral ["number", "base"] 2 1 1 := fun _ _ _ _ _ _ _ us its hu hi => match us, hu, its, hi with | [_, _], _, [_], _ => ⟨_, rfl, rfl⟩
theorem bd_number_in1 : Bd1 "number_in" "number_in" s_number_in ["text", "base"] 1 0 1 := fun _ _ _ _ _ _ _ us its hu hi => match us, hu, its, hi with | [_], _, [_], _ => ⟨_, rfl, rfl⟩
theorem bd_number_in2 : Bd1 "number_in" "number_in" s_number_in ["text", "base"] 2 1 1 := fun _ _ _ _ _ _ _ us its hu hi => match us, hu, its, hi with | [_, _], _, [_], _ => ⟨_, rfl, rfl⟩
def spNinG : Sp := fun vs H Q _ => ∃ (t : Str) (b : Nat), vs = [.str t, .int (b : Int)] ∧ 2 ≤ b ∧ b ≤ 16 ∧ t.length ≤ 450 ∧ Q (.int (nin (b : Int) t)) H
section
variable {P : Program} {w : World} {K : PySem.W.Frag} {mg : Str → Option Value} {base : Heap}
theorem ok_ninG (D : Df K mg "number_in" s_number_in [.int 10]) {tk : Tok} (h_FIGURES : mg "FIGURES" = some (.str FIG tk)) : Ca P w K mg base CX0 1 "number_in" s_number_in [.int 10] ["text", "base"] spNinG := by
  refine ca0 (k := 0) D c_number_in (fun vs H Q E h => ?_) fun f cdv A outer s H vs Q E hr h => ?_
  · obtain ⟨t, b, rfl, _⟩ := h
    rfl
  · obtain ⟨t, b, rfl, h2, h16, hl, q⟩ := h
    refine ⟨_, (pss_cons (ps_set (i := 2) c_number_in.nd rfl (.inl rfl) pe_int)
      (pss_cons (ps_for PassesOwn.never rfl (pi_str (pe_m1 PySem.F.slot_str_removeprefix PySem.F.type_str_removeprefix mt_removeprefix (pv 0) pe_str)) (pg_name (i := 3) c_number_in.nd rfl (.inl rfl)) (pss_one (ps_set (i := 2) c_number_in.nd rfl (.inl rfl) (pe_op op_add (pe_op op_mulA (pv 2) (pv 1)) (pe_m1 PySem.F.slot_str_find PySem.F.type_str_find mt_find (pe_glob (v := .str FIG) rfl h_FIGURES ⟨_, rfl⟩) (pv 3))))))
      (pss_one (ps_ret (pe_ifExp (pt_val (pe_m1 PySem.F.slot_str_startswith PySem.F.type_str_startswith mt_startswith (pv 0) pe_str)) (pe_un un_neg (pv 2)) (pv 2)))))), ?_⟩
    have ll : t.length ≤ sizeLine := Nat.le_trans hl (by decide)
    refine ⟨_, rfl, ⟨_, rfl⟩, t, _, rfl, rfl, ll, _, rfl, ?_⟩
    have rp := rp_gen t
    have hcl := unm_len t.cps.toList
    rw [← len_cps] at hcl
    generalize hz : Txt.removeprefix t ("-" : Str) = z at *
    have hzs : z.cps.size = (unm t.cps.toList).length := by rw [← rp]; simp
    refine for_it (walk_str (z := z)) (fun j σ H' => ∃ v3 : Option V, σ = [some (.str t), some (.int (b : Int)), some (.int (ninL (b : Int) ((unm t.cps.toList).take j))), v3] ∧ H' = H) ⟨_, rfl, rfl⟩ (fun _ _ _ _ _ => trivial) ?_ ?_
    · rintro j x σ H' H2 hj ⟨v3, rfl, rfl⟩ ⟨rfl, c, hc, rfl⟩
      have hj' : j < (unm t.cps.toList).length := by omega
      have ec : c = (unm t.cps.toList)[j] := by
        have e1 : z.cps.toList[j]? = some c := by simpa using hc
        rw [rp, List.getElem?_eq_getElem hj'] at e1
        exact (Option.some.inj e1).symm
      have vz : Sz 1809 (ninL (b : Int) ((unm t.cps.toList).take j)) := by
        have h3 := ninL_sz h16 ((unm t.cps.toList).take j)
        have h4 : ((unm t.cps.toList).take j).length ≤ 450 := by rw [List.length_take]; omega
        have h5 : (16 : Nat) ^ (((unm t.cps.toList).take j).length + 1) ≤ 16 ^ 451 := Nat.pow_le_pow_right (by decide) (by omega)
        have h6 : (16 : Nat) ^ 451 = 2 ^ 1804 := by decide
        exact Nat.lt_of_lt_of_le (Nat.lt_of_lt_of_le h3 h5) (by rw [h6]; exact Nat.pow_le_pow_right (by decide) (by decide))
      refine ⟨_, rfl, _, rfl, _, _, rfl, rfl, ⟨vz.mono (by decide), szb h16 (by decide)⟩, ⟨_, rfl⟩, _, rfl, FIG, ⟨#[c]⟩, rfl, rfl, _, _, rfl, rfl, ?_⟩
      refine ⟨some (.str ⟨#[c]⟩), ?_, rfl⟩
      show [_, _, some (V.int (ninL (b : Int) ((unm t.cps.toList).take j) * (b : Int) + fv c)), _] = _
      rw [← List.take_append_getElem hj', ninL_app, ec]
    · rintro σ H' ⟨v3, rfl, rfl⟩
      rw [hzs, List.take_length]
      refine ⟨_, rfl, ⟨_, rfl⟩, t, _, rfl, rfl, _, rfl, ?_⟩
      rw [sw_gen]
      unfold nin at q
      cases hD : hasD t.cps.toList with
      | true =>
        rw [hD, if_pos rfl] at q
        exact iteT ⟨_, rfl, _, rfl, q⟩
      | false =>
        rw [hD, if_neg Bool.false_ne_true] at q
        exact iteF ⟨_, rfl, q⟩
end
/-! ### Shares as texts -/
def shS (q : Rat) : Str := if q.den = 1 then numT 10 q.num else (((Str.empty ++ numT 10 q.num) ++ ("/" : Str)) ++ numT 10 q.den)
def spStr (C : Addr) : Sp := fun vs H Q _ => ∃ (p : Addr) (q : Rat), vs = [.ref p] ∧ Sh C H p q ∧ Rz 1810 q ∧ ∀ H', Same H H' → Q (.str (shS q)) H'
section
variable {P : Program} {w : World} {K : PySem.W.Frag} {mg : Str → Option Value} {base : Heap} {C : Addr}
theorem ok_shS (D : Dm K C "__str__" "Share.__str__" s_Share_str) (T : ShX K C) (f_numeral : Ca P w K mg base CX0 1 "numeral" s_numeral [.int 10] ["number", "base"] spNum) : Cm P w K mg base CX0 2 C "__str__" "Share.__str__" s_Share_str ["self"] (spStr C) := by
  refine cm0 (k := 1) D c_Share_str (fun vs H Q E h => ?_) fun f cdv A outer s H vs Q E hr h => ?_
  · obtain ⟨p, q, rfl, _⟩ := h
    rfl
  · obtain ⟨p, x, rfl, ⟨dx, e⟩, zx, q⟩ := h
    refine ⟨_, (pss_cons (ps_if (pt_cmpR op_eq (pe_fld (pv 0) rfl) pe_int (nomark _)) (pss_one (ps_ret (pe_joined1 (pe_fmt (pe_caD f_numeral bd_numeral1 (by decide) rfl hr (by decide) pass0 rfl (pa_cons (pe_fld (pv 0) rfl) pa_nil)))))) pss_nil)
      (pss_one (ps_ret (pe_joined (.cons (pe_fmt (pe_caD f_numeral bd_numeral1 (by decide) rfl hr (by decide) pass0 rfl (pa_cons (pe_fld (pv 0) rfl) pa_nil))) (.cons pe_str (.cons (pe_fmt (pe_caD f_numeral bd_numeral1 (by decide) rfl hr (by decide) pass0 rfl (pa_cons (pe_fld (pv 0) rfl) pa_nil))) .nil))))))), ?_⟩
    have l1 : (numT 10 x.num).length ≤ 1811 := numT_len (by decide) zx.1
    have l2 : (numT 10 (x.den : Int)).length ≤ 1811 := numT_len (by decide) zx.2
    refine ⟨_, rfl, p, C, dx, _, _, rfl, e, T.cl, T.nB, sf_bottom _ _, rfl, _, rfl, ?_⟩
    by_cases hd : x.den = 1
    · rw [decide_eq_true (show V.int (x.den : Int) = V.int 1 by rw [hd]; rfl)]
      refine iteT ?_
      refine ⟨_, rfl, p, C, dx, _, _, rfl, e, T.cl, T.nT, sf_top _ _, x.num, 10, rfl, by decide, by decide, zx.1, fun H1 s1 => .inl ⟨_, rfl, Nat.le_trans l1 (by decide), ?_⟩⟩
      have q1 := q H1 s1
      unfold shS at q1
      rw [if_pos hd] at q1
      exact q1
    · rw [decide_eq_false (show ¬ V.int (x.den : Int) = V.int 1 from fun z => hd (by have := V.int.inj z; omega))]
      refine iteF ?_
      refine ⟨_, rfl, p, C, dx, _, _, rfl, e, T.cl, T.nT, sf_top _ _, x.num, 10, rfl, by decide, by decide, zx.1, fun H1 s1 => .inl ⟨_, rfl, Nat.le_trans l1 (by decide), _, rfl, ?_, ?_⟩⟩
      · rw [str_app_len]
        exact Nat.le_trans (Nat.add_le_add_left l1 _) (by decide)
      refine ⟨_, rfl, ?_, ?_⟩
      · rw [str_app_len, str_app_len]
        exact Nat.le_trans (Nat.add_le_add_right (Nat.add_le_add_left l1 _) _) (by decide)
      refine ⟨_, rfl, p, C, dx, _, _, rfl, s1 _ _ e, T.cl, T.nB, sf_bottom _ _, (x.den : Int), 10, rfl, by decide, by decide, zx.2, fun H2 s2 => .inl ⟨_, rfl, Nat.le_trans l2 (by decide), _, rfl, ?_, ?_⟩⟩
      · rw [str_app_len, str_app_len, str_app_len]
        exact Nat.le_trans (Nat.add_le_add (Nat.add_le_add_right (Nat.add_le_add_left l1 _) _) l2) (by decide)
      have q1 := q H2 (s1.trans s2)
      unfold shS at q1
      rw [if_neg hd] at q1
      exact q1
end
/-! ### Shares out of texts -/
def lowerOf (t : Str) : Int := if (Txt.partition t ("/" : Str)).2.1 = ("/" : Str) then nin ((10 : Nat) : Int) (Txt.partition t ("/" : Str)).2.2 else 1
theorem emp_slash : ¬ Str.empty = ("/" : Str) := by decide +kernel
theorem shS_app {q : Rat} (h : ¬ q.den = 1) : shS q = numT 10 q.num ++ ("/" : Str) ++ numT 10 q.den := by
  unfold shS
  rw [if_neg h]
  refine str_ext ?_
  simp only [app_cps, show Str.empty.cps.toList = [] from rfl, List.nil_append]
theorem part_sh (q : Rat) : nin ((10 : Nat) : Int) (Txt.partition (shS q) ("/" : Str)).1 = q.num ∧ lowerOf (shS q) = q.den := by
  unfold lowerOf
  by_cases h : q.den = 1
  · have e : shS q = numT 10 q.num := by unfold shS; rw [if_pos h]
    rw [e, TL.partition_none slash_tl (num_noslash (by decide) (by decide) _)]
    refine ⟨nin_num (b := 10) (by decide) (by decide) _, ?_⟩
    rw [if_neg emp_slash, h]
    rfl
  · rw [shS_app h, TL.partition_app slash_tl (num_noslash (by decide) (by decide) _)]
    refine ⟨nin_num (b := 10) (by decide) (by decide) _, ?_⟩
    rw [if_pos rfl]
    exact nin_num (b := 10) (by decide) (by decide) _
theorem part_len (t : Str) : (Txt.partition t ("/" : Str)).1.length ≤ t.length ∧ (Txt.partition t ("/" : Str)).2.2.length ≤ t.length := by
  rcases part_cases slash_tl t with ⟨e, _⟩ | ⟨a, b, e, h, _⟩
  · rw [e]
    exact ⟨Nat.le_refl _, Nat.zero_le _⟩
  · rw [e, h]
    have h1 := str_app_len (a ++ ("/" : Str)) b
    have h2 := str_app_len a ("/" : Str)
    constructor
    · show a.length ≤ _
      omega
    · show b.length ≤ _
      omega
theorem part_mid (t : Str) : (Txt.partition t ("/" : Str)).2.1 = ("/" : Str) ∨ (Txt.partition t ("/" : Str)).2.1 = Str.empty := by
  rcases part_cases slash_tl t with ⟨e, _⟩ | ⟨a, b, e, h, _⟩
  · rw [e]
    exact .inr rfl
  · rw [e]
    exact .inl rfl
def spSi (C : Addr) : Sp := fun vs H Q _ => ∃ t : Str, vs = [.str t] ∧ t.length ≤ 450 ∧ (∀ q, t = shS q → ∀ p H', Same H H' → Sh C H' p q → Q (.ref p) H') ∧ ((∀ q, t ≠ shS q) → ∀ H', Same H H' → Q .non H')
section
variable {P : Program} {w : World} {K : PySem.W.Frag} {mg : Str → Option Value} {base : Heap} {C CN : Addr}
theorem ok_si (D : Df K mg "share_in" s_share_in []) (T : ShX K C) (g_str : mg "str" = none) (f_number_in : Ca P w K mg base CX0 1 "number_in" s_number_in [.int 10] ["text", "base"] spNinG) (f_Share : Ci P w K mg base CX0 2 "Share" C "Share.__init__" s_Share_init [.int 1] ["self", "top", "bottom"] (spShI C)) (f_Share_str : Cm P w K mg base CX0 2 C "__str__" "Share.__str__" s_Share_str ["self"] (spStr C)) : Ca P w K mg base CX0 6 "share_in" s_share_in [] ["text"] (spSi C) := by
  refine ca0 (k := 5) D c_share_in (fun vs H Q E h => ?_) fun f cdv A outer s H vs Q E hr h => ?_
  · obtain ⟨t, rfl, _⟩ := h
    rfl
  · obtain ⟨t, rfl, hl, q, qn⟩ := h
    refine ⟨_, (pss_cons (ps_asg (pe_m1 PySem.F.slot_str_partition PySem.F.type_str_partition mt_partition (pv 0) pe_str) (pg_tup rfl (pgs_cons (pg_name (i := 1) c_share_in.nd rfl (.inl rfl)) (pgs_cons (pg_name (i := 2) c_share_in.nd rfl (.inl rfl)) (pgs_cons (pg_name (i := 3) c_share_in.nd rfl (.inl rfl)) pgs_nil)))))
      (C8.pss_cut (ps_set (i := 4) c_share_in.nd rfl (.inl rfl) (pe_ifExp (pt_cmpR op_eq (pv 2) pe_str (nomark _)) (pe_caD f_number_in bd_number_in1 (by decide) rfl hr (by decide) pass0 rfl (pa_cons (pv 3) pa_nil)) pe_int))
      (pss_cons (ps_if (pt_cmpR op_eq (pv 4) pe_int (nomark _)) (pss_one (ps_ret pe_non)) pss_nil)
      (pss_cons (ps_set (i := 5) c_share_in.nd rfl (.inl rfl) (pe_ci f_Share bd_Share2 (by decide) rfl hr (by decide) pass0 rfl (pa_cons (pe_caD f_number_in bd_number_in1 (by decide) rfl hr (by decide) pass0 rfl (pa_cons (pv 1) pa_nil)) (pa_cons (pv 4) pa_nil))))
      (pss_one (ps_ret (pe_ifExp (pt_cmpR op_eq (pe_callTy (call_str_SA f_Share_str b_Share_str (hr.mono (by decide)) pass0) rfl g_str (by decide +kernel) (pa_cons (pv 5) pa_nil)) (pv 0) (nomark _)) (pv 5) pe_non))))))), ?_⟩
    have lp := part_len t
    have ll : t.length ≤ sizeLine := Nat.le_trans hl (by decide)
    have l1 : (Txt.partition t ("/" : Str)).1.length ≤ 450 := Nat.le_trans lp.1 hl
    have l2 : (Txt.partition t ("/" : Str)).2.2.length ≤ 450 := Nat.le_trans lp.2 hl
    refine ⟨_, rfl, ⟨_, rfl⟩, t, ("/" : Str), rfl, rfl, rfl, ll, fun p np => ?_⟩
    have sp' := Same.new (o := .tup [.str (Txt.partition t ("/" : Str)).1, .str (Txt.partition t ("/" : Str)).2.1, .str (Txt.partition t ("/" : Str)).2.2]) np
    refine ⟨p, _, rfl, SqT.of upd_same, rfl, _, _, rfl, _, _, rfl, _, _, rfl, rfl, ?_⟩
    have zl : Sz 1810 (lowerOf t) := by
      unfold lowerOf
      split
      · exact Nat.lt_of_lt_of_le (nin_sz (b := 10) (n := 450) (by decide) l2) (Nat.pow_le_pow_right (by decide) (by decide))
      · exact szi 1
    have zu : Sz 1810 (nin ((10 : Nat) : Int) (Txt.partition t ("/" : Str)).1) := Nat.lt_of_lt_of_le (nin_sz (b := 10) (n := 450) (by decide) l1) (Nat.pow_le_pow_right (by decide) (by decide))
    generalize L2.upd H p _ = H1 at *
    refine ⟨fun σ' H' => σ' = [some (.str t), some (.str (Txt.partition t ("/" : Str)).1), some (.str (Txt.partition t ("/" : Str)).2.1), some (.str (Txt.partition t ("/" : Str)).2.2), some (.int (lowerOf t)), none] ∧ H' = H1, ?_, ?_⟩
    · refine ⟨_, rfl, rfl, _, rfl, ?_⟩
      rcases part_mid t with e | e
      · rw [decide_eq_true (congrArg V.str e)]
        refine iteT ⟨_, rfl, _, 10, rfl, by decide, by decide, l2, ?_, rfl⟩
        unfold lowerOf
        rw [if_pos e]
        rfl
      · rw [decide_eq_false (fun z => emp_slash (e.symm.trans (V.str.inj z)))]
        refine iteF ⟨?_, rfl⟩
        unfold lowerOf
        rw [if_neg (fun z => emp_slash (e.symm.trans z))]
        rfl
    · rintro σ' H' ⟨rfl, rfl⟩
      refine ⟨_, rfl, rfl, _, rfl, ?_⟩
      by_cases h0 : lowerOf t = 0
      · rw [decide_eq_true (congrArg V.int h0)]
        refine iteT (qn (fun x e => ?_) _ sp')
        have := (part_sh x).2
        rw [← e, h0] at this
        exact x.den_nz (by omega)
      · rw [decide_eq_false (fun z => h0 (V.int.inj z))]
        refine iteF ?_
        have zq := Rz.divInt zu zl (by decide)
        refine ⟨_, rfl, _, 10, rfl, by decide, by decide, l1, ?_⟩
        refine ⟨_, rfl, made_sh (R := fun p H1 => _) h0 (zu.mono (by decide)) (zl.mono (by decide)) fun p2 H2 np2 s2 e2 => ?_⟩
        obtain ⟨dx, e⟩ := id e2
        have s02 := sp'.trans s2
        refine ⟨_, rfl, sa_own e ⟨p2, _, rfl, e2, zq, fun H3 s3 => ⟨_, rfl, _, rfl, rfl, _, rfl, ?_⟩⟩⟩
        by_cases hc : shS (Rat.divInt (nin ((10 : Nat) : Int) (Txt.partition t ("/" : Str)).1) (lowerOf t)) = t
        · rw [decide_eq_true (congrArg V.str hc)]
          exact iteT ⟨_, rfl, q _ hc.symm _ _ (s02.trans s3) (e2.same s3)⟩
        · rw [decide_eq_false (fun z => hc (V.str.inj z))]
          refine iteF (qn (fun x ex => hc ?_) _ (s02.trans s3))
          obtain ⟨a1, a2⟩ := part_sh x
          rw [← ex] at a1 a2
          rw [a1, a2, Rat.num_divInt_den]
          exact ex.symm
end
theorem int_fig9 {z : Str} (h : ∀ c ∈ z.cps.toList, 48 ≤ c ∧ c ≤ 57) (hne : z.cps.toList ≠ []) (hl : z.length ≤ 450) : PySem.intText? z = some (ninL ((10 : Nat) : Int) z.cps.toList) := by
  rw [ninL_ten _ h]
  exact intText_digits h hne (Nat.le_trans hl (by decide))
/-! ### the law's own look at figures by ten -/
theorem md0 (v : Int) {j : Int} (h : 0 < j := by decide) : 0 ≤ v % j := Int.emod_nonneg v (by omega)
theorem md1 (v : Int) {j : Int} (h : 0 < j := by decide) : v % j < j := Int.emod_lt_of_pos v h
theorem cutS_len (z : Str) (lo hi : Option Int) : (cutS z lo hi).length ≤ z.length := by
  rw [len_cps, len_cps]
  show (((z.cps.toList.drop (HT.sIx z.length 0 lo)).take (HT.sIx z.length z.length hi - HT.sIx z.length 0 lo)).toArray.toList).length ≤ _
  rw [List.toList_toArray, List.length_take, List.length_drop]
  omega
theorem cut_head (t : Str) : (cutS t none (some 1)).cps.toList = t.cps.toList.take 1 := by
  show (((t.cps.toList.drop (HT.sIx t.length 0 none)).take (HT.sIx t.length t.length (some 1) - HT.sIx t.length 0 none)).toArray.toList) = _
  rw [List.toList_toArray]
  have e1 : HT.sIx t.length 0 none = 0 := rfl
  have e2 : HT.sIx t.length t.length (some 1) = min 1 t.length := HT.sIx_nat _ _ 1
  rw [e1, e2, List.drop_zero, len_cps]
  cases t.cps.toList with
  | nil => rfl
  | cons c cs => simp
theorem cut_tail (t : Str) : (cutS t (some 1) none).cps.toList = t.cps.toList.tail := by
  show (((t.cps.toList.drop (HT.sIx t.length 0 (some 1))).take (HT.sIx t.length t.length none - HT.sIx t.length 0 (some 1))).toArray.toList) = _
  rw [List.toList_toArray]
  have e1 : HT.sIx t.length t.length none = t.length := rfl
  have e2 : HT.sIx t.length 0 (some 1) = min 1 t.length := HT.sIx_nat _ _ 1
  rw [e1, e2, len_cps]
  cases t.cps.toList with
  | nil => rfl
  | cons c cs => simp
theorem head_d (t : Str) : decide (V.str (cutS t none (some 1)) = V.str ("-" : Str)) = hasD t.cps.toList := by
  have h := cut_head t
  unfold hasD
  by_cases e : cutS t none (some 1) = ("-" : Str)
  · rw [decide_eq_true (congrArg V.str e)]
    rw [e, dash_cps] at h
    cases hc : t.cps.toList with
    | nil =>
      rw [hc] at h
      cases h
    | cons c cs =>
      rw [hc] at h
      have : c = 45 := by
        have h2 : [45] = [c] := h
        injection h2 with h3
        exact h3.symm
      rw [this]
      rfl
  · rw [decide_eq_false (fun z => e (V.str.inj z))]
    cases hc : t.cps.toList with
    | nil => rfl
    | cons c cs =>
      have hne : c ≠ 45 := fun z => e (str_ext (by rw [h, hc, z, dash_cps]; rfl))
      simp [hne]
theorem emp_iff (z : Str) : z = ("" : Str) ↔ z.cps.toList = [] := by
  constructor
  · rintro rfl
    decide +kernel
  · intro h
    exact str_ext (by rw [h]; decide +kernel)
theorem zero_iff (z : Str) : z = ("0" : Str) ↔ z.cps.toList = [48] := by
  constructor
  · rintro rfl
    decide +kernel
  · intro h
    exact str_ext (by rw [h]; decide +kernel)
theorem mz_iff (z : Str) : z = ("-0" : Str) ↔ z.cps.toList = [45, 48] := by
  constructor
  · rintro rfl
    decide +kernel
  · intro h
    exact str_ext (by rw [h]; decide +kernel)
def spWhole : Sp := fun vs H Q _ => ∃ i : Int, vs = [.int i] ∧ Q (.bl true) H
def spVal : Sp := fun vs H Q _ => ∃ t : Str, vs = [.str t] ∧ t.length ≤ 450 ∧ (∀ i, t = numT 10 i → ∀ H', Same H H' → Q (.int i) H') ∧ ((∀ i, t ≠ numT 10 i) → ∀ H', Same H H' → Q .non H')
section
variable {P : Program} {w : World} {K : PySem.W.Frag} {mg : Str → Option Value} {base : Heap}
theorem ok_lval (D : Df K mg "_law_value" s_l_value []) (g_int : mg "int" = none) : Ca P w K mg base CX0 1 "_law_value" s_l_value [] ["_law_text"] spVal := by
  refine ca0 (k := 0) D c_l_value (fun vs H Q E h => ?_) fun f cdv A outer s H vs Q E hr h => ?_
  · obtain ⟨t, rfl, _⟩ := h
    rfl
  · obtain ⟨t, rfl, hl, q, qn⟩ := h
    refine ⟨_, (pss_cons (ps_set (i := 1) c_l_value.nd rfl (.inl rfl) (pv 0))
      (C8.pss_cut (ps_if (pt_cmpR op_eq (pe_slice sl_str (pv 0) po_none (po_some pe_int)) pe_str (nomark _)) (pss_one (ps_set (i := 1) c_l_value.nd rfl (.inl rfl) (pe_slice sl_str (pv 0) (po_some pe_int) po_none))) pss_nil)
      (pss_cons (ps_for PassesOwn.never rfl (pi_str (pv 1)) (pg_name (i := 2) c_l_value.nd rfl (.inl rfl)) (pss_one (ps_if (pt_cmpR op_notIn_sign (pv 2) pe_str rfl) (pss_one (ps_ret pe_non)) pss_nil)))
      (C8.pss_cut (ps_if (PW.pt (pw_or (pt_cmpR op_eq (pv 1) pe_str (nomark _)) (pw_or (PW.pt (pw_and (pt_cmpR op_eq (pe_ix ix_str (pv 1) pe_int (fun _ _ => rfl)) pe_str (nomark _)) (pw_and1 (pt_cmpR op_ne (pv 1) pe_str (nomark _))))) (pw_or1 (pt_cmpR op_eq (pv 0) pe_str (nomark _)))))) (pss_one (ps_ret pe_non)) pss_nil)
      (pss_one (ps_ret (pe_op op_mulA (pe_callTy call_int_str rfl g_int (by decide +kernel) (pa_cons (pv 1) pa_nil)) (pe_ix ix_list (pe_lst (pa_cons pe_int (pa_cons (pe_op op_sub pe_int pe_int) pa_nil))) (pe_callTy call_int1 rfl g_int (by decide +kernel) (pa_cons (pe_cmpR op_ne (pv 1) (pv 0) (nomark _)) pa_nil)) (fun _ _ => rfl))))))))), ?_⟩
    have ll : t.length ≤ sizeLine := Nat.le_trans hl (by decide)
    have none_of : ¬ Wr 10 t → ∀ H', Same H H' → Q .non H' := fun hw => qn fun i e => hw (by rw [e]; exact wr_num (by decide) (by decide) i)
    refine ⟨_, rfl, ?_⟩
    refine ⟨fun σ' H' => ∃ z : Str, σ' = [some (.str t), some (.str z), none] ∧ z.cps.toList = unm t.cps.toList ∧ H' = H, ?_, ?_⟩
    · refine ⟨_, rfl, _, rfl, t, rfl, ll, rfl, _, rfl, ?_⟩
      rw [head_d]
      cases hD : hasD t.cps.toList with
      | true =>
        refine iteT ⟨_, rfl, _, rfl, t, rfl, ll, ⟨_, rfl, ?_, rfl⟩⟩
        rw [cut_tail]
        unfold unm
        rw [hD]
        rfl
      | false =>
        refine iteF ⟨t, rfl, ?_, rfl⟩
        unfold unm
        rw [hD]
        rfl
    · rintro σ' H' ⟨z, rfl, hz, rfl⟩
      have hzl : z.length ≤ 450 := by
        rw [len_cps, hz]
        have := unm_len t.cps.toList
        rw [← len_cps] at this
        omega
      have hzs : z.cps.size = (unm t.cps.toList).length := by rw [← hz]; simp
      refine ⟨_, rfl, _, rfl, ?_⟩
      refine for_it (walk_str (z := z)) (fun j σ H2 => ∃ v2 : Option V, σ = [some (.str t), some (.str z), v2] ∧ (∀ c ∈ (unm t.cps.toList).take j, 48 ≤ c ∧ c ≤ 57) ∧ H2 = H') ⟨_, rfl, (fun c hc => by simp at hc), rfl⟩ (fun _ _ _ _ _ => trivial) ?_ ?_
      · rintro j x σ H2 H3 hj ⟨v2, rfl, hall, rfl⟩ ⟨rfl, c, hc, rfl⟩
        have hj' : j < (unm t.cps.toList).length := by omega
        have ec : c = (unm t.cps.toList)[j] := by
          have e1 : z.cps.toList[j]? = some c := by simpa using hc
          rw [hz, List.getElem?_eq_getElem hj'] at e1
          exact (Option.some.inj e1).symm
        have hmem : c ∈ unm t.cps.toList := by rw [ec]; exact List.getElem_mem hj'
        refine ⟨_, rfl, c, TEN, rfl, rfl, _, rfl, ?_⟩
        by_cases h0 : 48 ≤ c ∧ c ≤ 57
        · rw [decide_eq_true ((mem_ten c).mpr h0)]
          refine iteF ⟨_, rfl, fun x hx => ?_, rfl⟩
          rw [← List.take_append_getElem hj'] at hx
          rcases List.mem_append.mp hx with hx | hx
          · exact hall x hx
          · rw [List.mem_singleton.mp hx, ← ec]
            exact h0
        · rw [decide_eq_false (fun y => h0 ((mem_ten c).mp y))]
          exact iteT (none_of (fun w => h0 (ten_fv.mp (w.all c hmem))) _ (Same.refl _))
      · rintro σ H2 ⟨v2, rfl, hall, rfl⟩
        rw [hzs, List.take_length] at hall
        refine ⟨fun σ' H' => σ' = [some (.str t), some (.str z), v2] ∧ H' = H2 ∧ Wr 10 t, ?_, ?_⟩
        · refine ⟨_, rfl, rfl, _, rfl, ?_⟩
          by_cases he : unm t.cps.toList = []
          · rw [decide_eq_true (congrArg V.str ((emp_iff z).mpr (hz.trans he)))]
            exact iteT (iteT (none_of (fun w => w.ne he) _ (Same.refl _)))
          rw [decide_eq_false (fun y => he (hz.symm.trans ((emp_iff z).mp (V.str.inj y))))]
          refine iteF ?_
          obtain ⟨c0, hc0⟩ : ∃ c0, (unm t.cps.toList).head? = some c0 := by
            cases hu : unm t.cps.toList with
            | nil => exact absurd hu he
            | cons c cs => exact ⟨c, rfl⟩
          have hat : atI z.cps.toList 0 = some c0 := by
            rw [hz]
            cases hu : unm t.cps.toList with
            | nil => exact absurd hu he
            | cons c cs =>
              rw [hu] at hc0
              have : c = c0 := by simpa using hc0
              rw [this]
              unfold atI ixN
              rw [if_pos (by decide), if_pos (by rw [List.length_cons]; omega)]
              rfl
          refine ⟨_, rfl, z, _, c0, rfl, rfl, Nat.le_trans hzl (by decide), hat, rfl, _, rfl, ?_⟩
          by_cases h48 : c0 = 48
          · rw [decide_eq_true (show V.str ⟨#[c0]⟩ = V.str ("0" : Str) by rw [h48]; exact congrArg V.str ((zero_iff _).mpr rfl))]
            refine iteT ⟨_, rfl, rfl, _, rfl, ?_⟩
            by_cases hz0 : unm t.cps.toList = [48]
            · rw [show (!decide (V.str z = V.str ("0" : Str))) = false by rw [(zero_iff z).mpr (hz.trans hz0)]; simp]
              refine iteF ⟨_, rfl, rfl, _, rfl, ?_⟩
              by_cases hm : t = ("-0" : Str)
              · rw [decide_eq_true (congrArg V.str hm)]
                exact iteT (none_of (fun w => w.nd ((mz_iff t).mp hm)) _ (Same.refl _))
              · rw [decide_eq_false (fun y => hm (V.str.inj y))]
                exact iteF ⟨rfl, rfl, ⟨(fun c hc => ten_fv.mpr (hall c hc)), he, fun y => y.2 hz0, fun y => hm ((mz_iff t).mpr y)⟩⟩
            · rw [show (!decide (V.str z = V.str ("0" : Str))) = true by
                have : ¬ z = ("0" : Str) := fun y => hz0 (hz.symm.trans ((zero_iff z).mp y))
                simpa using this]
              exact iteT (iteT (none_of (fun w => w.no ⟨by rw [hc0, h48], hz0⟩) _ (Same.refl _)))
          · rw [decide_eq_false (show ¬ V.str ⟨#[c0]⟩ = V.str ("0" : Str) from fun y => h48 (by
              have := (zero_iff _).mp (V.str.inj y)
              have h3 : [c0] = [48] := this
              injection h3))]
            refine iteF (iteF ⟨_, rfl, rfl, _, rfl, ?_⟩)
            by_cases hm : t = ("-0" : Str)
            · rw [decide_eq_true (congrArg V.str hm)]
              exact iteT (none_of (fun w => w.nd ((mz_iff t).mp hm)) _ (Same.refl _))
            · rw [decide_eq_false (fun y => hm (V.str.inj y))]
              exact iteF ⟨rfl, rfl, ⟨(fun c hc => ten_fv.mpr (hall c hc)), he, fun y => h48 (by rw [hc0] at y; exact Option.some.inj y.1), fun y => hm ((mz_iff t).mpr y)⟩⟩
        · rintro σ' H' ⟨rfl, rfl, wr⟩
          have et := num_wr (by decide) (by decide) wr
          have zn : Sz 1809 (ninL ((10 : Nat) : Int) (unm t.cps.toList)) := by
            have h3 := ninL_sz (b := 10) (by decide) (unm t.cps.toList)
            have h4 := unm_len t.cps.toList
            rw [← len_cps] at h4
            have h5 : (16 : Nat) ^ ((unm t.cps.toList).length + 1) ≤ 16 ^ 451 := Nat.pow_le_pow_right (by decide) (by omega)
            have h6 : (16 : Nat) ^ 451 = 2 ^ 1804 := by decide
            exact Nat.lt_of_lt_of_le (Nat.lt_of_lt_of_le h3 h5) (by rw [h6]; exact Nat.pow_le_pow_right (by decide) (by decide))
          refine ⟨_, rfl, z, _, rfl, int_fig9 (by rw [hz]; exact fun c hc => ten_fv.mp (wr.all c hc)) (by rw [hz]; exact wr.ne) hzl, Nat.le_trans hzl (by decide), ?_⟩
          rw [hz]
          refine ⟨_, _, rfl, rfl, ln _, fun p np => ?_⟩
          have s1 := Same.new (o := .lst [.int 1, .int (0 - 1)]) np
          refine ⟨_, rfl, _, rfl, rfl, .inr ⟨_, rfl, ?_⟩⟩
          have q2 := q _ et _ s1
          unfold nin at q2
          cases hD : hasD t.cps.toList with
          | true =>
            have hne : ¬ z = t := fun y => by
              have h3 : unm t.cps.toList = t.cps.toList := by rw [← hz, y]
              have h4 : unm t.cps.toList = t.cps.toList.tail := by unfold unm; rw [hD]; rfl
              rw [h4] at h3
              have h5 := congrArg List.length h3
              have h6 : t.cps.toList ≠ [] := fun y => by rw [y] at hD; cases hD
              have h7 := List.length_pos_iff.mpr h6
              rw [List.length_tail] at h5
              omega
            rw [show (!decide (V.str z = V.str t)) = true by simpa using hne]
            rw [hD, if_pos rfl] at q2
            refine ⟨p, _, _, _, rfl, rfl, SqL.of upd_same, rfl, _, _, rfl, rfl, ⟨zn.mono (by decide), (Sz.of (n := 3) (by decide) (by decide)).mono (by decide)⟩, ?_⟩
            have e : ninL ((10 : Nat) : Int) (unm t.cps.toList) * (0 - 1) = - ninL ((10 : Nat) : Int) (unm t.cps.toList) := by omega
            rw [← e] at q2
            exact q2
          | false =>
            have hzt : z = t := str_ext (by
              rw [hz]
              unfold unm
              rw [hD]
              rfl)
            rw [show (!decide (V.str z = V.str t)) = false by rw [hzt]; simp]
            rw [hD, if_neg Bool.false_ne_true] at q2
            refine ⟨p, _, _, _, rfl, rfl, SqL.of upd_same, rfl, _, _, rfl, rfl, ⟨zn.mono (by decide), (Sz.of (n := 3) (by decide) (by decide)).mono (by decide)⟩, ?_⟩
            have e : ninL ((10 : Nat) : Int) (unm t.cps.toList) * 1 = ninL ((10 : Nat) : Int) (unm t.cps.toList) := by omega
            rw [← e] at q2
            exact q2
end
theorem eqv_two (a b c d : Int) : PyData.eqv (.tuple [.int a, .int b]) (.tuple [.int c, .int d]) = (decide (a = c) && decide (b = d)) := by
  simp only [PyData.eqv, PyData.eqvAll, Bool.and_true]
  rfl
theorem emp_cps : Str.empty.cps.toList = [] := by decide +kernel
theorem sl_len {a : Str} {n : Nat} (h : a.length ≤ n) (hn : n ≤ 5000 := by decide) : a.length ≤ sizeLine := Nat.le_trans h (Nat.le_trans hn (by decide))
theorem ap_len {a b : Str} {n m : Nat} (ha : a.length ≤ n) (hb : b.length ≤ m) : (a ++ b).length ≤ n + m := by
  rw [str_app_len]
  omega
theorem lit_len {s : Str} {n : Nat} (h : Nat.ble s.length n = true := by decide +kernel) : s.length ≤ n := Nat.le_of_ble_eq_true h
/-! ### the law's own reading of a fraction -/
def vO : Option Int → V | some i => .int i | none => .non
def ValOf (t : Str) (r : Option Int) : Prop := (∀ i, r = some i → t = numT 10 i) ∧ (r = none → ∀ i, t ≠ numT 10 i)
theorem ValOf.some {t : Str} {i : Int} (e : t = numT 10 i) : ValOf t (some i) := ⟨fun j ej => by cases ej; exact e, fun z => by cases z⟩
theorem ValOf.none {t : Str} (h : ∀ i, t ≠ numT 10 i) : ValOf t none := ⟨(fun i z => by cases z), fun _ => h⟩
theorem numT_inj {i j : Int} (h : numT 10 i = numT 10 j) : i = j := by
  have e1 := nin_num (b := 10) (by decide) (by decide) i
  have e2 := nin_num (b := 10) (by decide) (by decide) j
  rw [h] at e1
  exact e1.symm.trans e2
theorem val_sz {t : Str} {i : Int} (hl : t.length ≤ 450) (h : t = numT 10 i) : Sz 1804 i := by
  have e1 := nin_num (b := 10) (by decide) (by decide) i
  rw [← h] at e1
  have := nin_sz (b := 10) (n := 450) (by decide) hl
  rw [e1] at this
  exact this
theorem part_text1 {q : Rat} (h : q.den = 1) : Txt.partition (shS q) ("/" : Str) = (numT 10 q.num, Str.empty, Str.empty) := by
  have e : shS q = numT 10 q.num := by unfold shS; rw [if_pos h]
  rw [e, TL.partition_none slash_tl (num_noslash (by decide) (by decide) _)]
theorem part_text2 {q : Rat} (h : ¬ q.den = 1) : Txt.partition (shS q) ("/" : Str) = (numT 10 q.num, ("/" : Str), numT 10 q.den) := by
  rw [shS_app h, TL.partition_app slash_tl (num_noslash (by decide) (by decide) _)]
def spDue (K : PySem.W.Frag) : Sp := fun vs H Q _ => ∃ t : Str, vs = [.str t] ∧ t.length ≤ 450 ∧ (∀ q, t = shS q → ∀ p H', Same H H' → Tp H' p q → Q (.ref p) H') ∧ ((∀ q, t ≠ shS q) → ∀ H', Same H H' → Q .non H')
theorem emp_ne : (!decide (V.str Str.empty = V.str ("" : Str))) = false := by decide +kernel
theorem sl_ne : (!decide (V.str ("/" : Str) = V.str ("" : Str))) = true := by decide +kernel
section
variable {P : Program} {w : World} {K : PySem.W.Frag} {mg : Str → Option Value} {base : Heap}
theorem ok_ldue (D : Df K mg "_law_share_in" s_l_share_in []) (f_l_low : Ca P w K mg base CX0 1 "_law_low" s_l_low [] ["_law_top", "_law_bottom"] spLow) (f_l_value : Ca P w K mg base CX0 1 "_law_value" s_l_value [] ["_law_text"] spVal) : Ca P w K mg base CX0 2 "_law_share_in" s_l_share_in [] ["_law_text"] (spDue K) := by
  refine ca0 (k := 1) D c_l_share_in (fun vs H Q E h => ?_) fun f cdv A outer s H vs Q E hr h => ?_
  · obtain ⟨t, rfl, _⟩ := h
    rfl
  · obtain ⟨t, rfl, hl, q, qn⟩ := h
    refine ⟨_, (pss_cons (ps_asg (pe_m1 PySem.F.slot_str_partition PySem.F.type_str_partition mt_partition (pv 0) pe_str) (pg_tup rfl (pgs_cons (pg_name (i := 1) c_l_share_in.nd rfl (.inl rfl)) (pgs_cons (pg_name (i := 2) c_l_share_in.nd rfl (.inl rfl)) (pgs_cons (pg_name (i := 3) c_l_share_in.nd rfl (.inl rfl)) pgs_nil)))))
      (C8.pss_cut (ps_set (i := 4) c_l_share_in.nd rfl (.inl rfl) (pe_ca f_l_value b_l_value hr (by decide) pass0 rfl (pa_cons (pv 1) pa_nil)))
      (pss_cons (ps_set (i := 5) c_l_share_in.nd rfl (.inl rfl) pe_int)
      (C8.pss_cut (ps_if (pt_cmpR op_ne (pv 2) pe_str (nomark _)) (pss_one (ps_set (i := 5) c_l_share_in.nd rfl (.inl rfl) (pe_ca f_l_value b_l_value hr (by decide) pass0 rfl (pa_cons (pv 3) pa_nil)))) pss_nil)
      (pss_cons (ps_if (PW.pt (pw_or (pt_cmp (pc_isN (pv 4))) (pw_or (pt_cmp (pc_isN (pv 5))) (pw_or (pt_cmpR op_lt (pv 5) pe_int (nomark _)) (pw_or1 (PW.pt (pw_and (pt_cmpR op_ne (pv 2) pe_str (nomark _)) (pw_and1 (pt_cmpR op_eq (pv 5) pe_int (nomark _)))))))))) (pss_one (ps_ret pe_non)) pss_nil)
      (pss_cons (ps_if (pt_cmpR (op_neD hr.units) (pe_ca f_l_low b_l_low hr (by decide) pass0 rfl (pa_cons (pv 4) (pa_cons (pv 5) pa_nil))) (pe_tup (pa_cons (pv 4) (pa_cons (pv 5) pa_nil))) (nomark _)) (pss_one (ps_ret pe_non)) pss_nil)
      (pss_one (ps_ret (pe_tup (pa_cons (pv 4) (pa_cons (pv 5) pa_nil))))))))))), ?_⟩
    have ll : t.length ≤ sizeLine := Nat.le_trans hl (by decide)
    refine ⟨_, rfl, ⟨_, rfl⟩, t, ("/" : Str), rfl, rfl, rfl, ll, fun p np => ?_⟩
    have sp' := Same.new (o := .tup [.str (Txt.partition t ("/" : Str)).1, .str (Txt.partition t ("/" : Str)).2.1, .str (Txt.partition t ("/" : Str)).2.2]) np
    refine ⟨p, _, rfl, SqT.of upd_same, rfl, _, _, rfl, _, _, rfl, _, _, rfl, rfl, ?_⟩
    have lp := part_len t
    generalize L2.upd H p _ = H1 at *
    rcases part_cases slash_tl t with ⟨e, hno⟩ | ⟨a, b, e, ht, hno⟩
    · -- no stroke
      rw [e]
      refine ⟨fun σ' H' => ∃ r : Option Int, σ' = [some (.str t), some (.str t), some (.str Str.empty), some (.str Str.empty), some (vO r), none] ∧ Same H H' ∧ ValOf t r, ⟨_, rfl, t, rfl, hl, fun i ei H2 s2 => ⟨some i, rfl, sp'.trans s2, .some ei⟩, fun hno H2 s2 => ⟨none, rfl, sp'.trans s2, .none hno⟩⟩, ?_⟩
      rintro σ' H2 ⟨r, rfl, s02, hv⟩
      refine ⟨fun σ' H' => σ' = [some (.str t), some (.str t), some (.str Str.empty), some (.str Str.empty), some (vO r), some (.int 1)] ∧ H' = H2, ⟨_, rfl, rfl, _, rfl, ?_⟩, ?_⟩
      · show (if (!decide (V.str Str.empty = V.str ("" : Str))) = true then _ else _)
        rw [emp_ne]
        exact iteF ⟨rfl, rfl⟩
      rintro σ' H' ⟨rfl, rfl⟩
      have noq : (∀ i, t ≠ numT 10 i) → ∀ q, t ≠ shS q := fun h x ex => by
        by_cases hd : x.den = 1
        · exact h x.num (by rw [ex]; unfold shS; rw [if_pos hd])
        · have := part_text2 hd
          rw [← ex, e] at this
          exact emp_slash (congrArg (·.2.1) this)
      match r, hv with
      | none, hv => exact ⟨_, rfl, _, rfl, iteT (iteT (qn (noq (hv.2 rfl)) _ s02))⟩
      | some i, hv =>
        have et := hv.1 i rfl
        have zi := val_sz hl et
        refine ⟨_, rfl, _, rfl, iteF ⟨_, rfl, _, rfl, iteF ⟨_, rfl, _, _, rfl, rfl, _, rfl, iteF ⟨_, rfl, rfl, _, rfl, ?_⟩⟩⟩⟩
        show (if (!decide (V.str Str.empty = V.str ("" : Str))) = true then _ else _)
        rw [emp_ne]
        refine iteF (iteF ?_)
        refine ⟨_, rfl, _, rfl, i, 1, rfl, by decide, zi.mono (by decide), (szi (n := 2) 1).mono (by decide), fun p2 n2 => ?_⟩
        have s3 := Same.new (o := .tup [.int (Rat.divInt i 1).num, .int (Rat.divInt i 1).den]) n2
        refine ⟨_, rfl, _, rfl, ln _, fun p3 n3 => ?_⟩
        have s4 := Same.new (o := .tup [.int i, .int 1]) n3
        have hq : Rat.divInt i 1 = (i : Rat) := divInt_one i
        refine ⟨.tuple [.int (Rat.divInt i 1).num, .int (Rat.divInt i 1).den], .tuple [.int i, .int 1], .tup (SqT.of (s4 _ _ upd_same)) (.cons (.int _) (.cons (.int _) .nil)), .tup (SqT.of upd_same) (.cons (.int _) (.cons (.int _) .nil)), rfl, rfl, _, rfl, no' (by rw [eqv_two, hq]; simp) ?_⟩
        refine ⟨_, rfl, _, rfl, ln _, fun p5 n5 => ?_⟩
        have s5 := Same.new (o := .tup [.int i, .int 1]) n5
        exact q (i : Rat) (by rw [et]; unfold shS; rw [if_pos (show ((i : Rat)).den = 1 from rfl)]; rfl) p5 _ (s02.trans (s3.trans (s4.trans s5))) upd_same
    · rw [e] at lp ⊢
      have la : a.length ≤ 450 := Nat.le_trans lp.1 hl
      have lb : b.length ≤ 450 := Nat.le_trans lp.2 hl
      -- a fraction's text has both parts
      have noq : (∀ x : Rat, ¬ (x.den ≠ 1 ∧ a = numT 10 x.num ∧ b = numT 10 x.den)) → ∀ q, t ≠ shS q := fun h x ex => by
        by_cases hd : x.den = 1
        · have := part_text1 hd
          rw [← ex, e] at this
          exact emp_slash (congrArg (·.2.1) this).symm
        · have := part_text2 hd
          rw [← ex, e] at this
          exact h x ⟨hd, congrArg (·.1) this, congrArg (·.2.2) this⟩
      refine ⟨fun σ' H' => ∃ r : Option Int, σ' = [some (.str t), some (.str a), some (.str ("/" : Str)), some (.str b), some (vO r), none] ∧ Same H H' ∧ ValOf a r, ⟨_, rfl, a, rfl, la, fun i ei H2 s2 => ⟨some i, rfl, sp'.trans s2, .some ei⟩, fun hno H2 s2 => ⟨none, rfl, sp'.trans s2, .none hno⟩⟩, ?_⟩
      rintro σ' H2 ⟨r, rfl, s02, hv⟩
      refine ⟨fun σ' H' => ∃ r2 : Option Int, σ' = [some (.str t), some (.str a), some (.str ("/" : Str)), some (.str b), some (vO r), some (vO r2)] ∧ Same H H' ∧ ValOf b r2, ⟨_, rfl, rfl, _, rfl, ?_⟩, ?_⟩
      · show (if (!decide (V.str ("/" : Str) = V.str ("" : Str))) = true then _ else _)
        rw [sl_ne]
        exact iteT ⟨_, rfl, b, rfl, lb, fun i ei H3 s3 => ⟨some i, rfl, s02.trans s3, .some ei⟩, fun hno H3 s3 => ⟨none, rfl, s02.trans s3, .none hno⟩⟩
      rintro σ' H3 ⟨r2, rfl, s03, hv2⟩
      match r, hv with
      | none, hv => exact ⟨_, rfl, _, rfl, iteT (iteT (qn (noq fun x ⟨_, h, _⟩ => hv.2 rfl _ h) _ s03))⟩
      | some i, hv =>
        have ea := hv.1 i rfl
        have zi := val_sz la ea
        match r2, hv2 with
        | none, hv2 => exact ⟨_, rfl, _, rfl, iteF ⟨_, rfl, _, rfl, iteT (iteT (qn (noq fun x ⟨_, _, h⟩ => hv2.2 rfl _ h) _ s03))⟩⟩
        | some j, hv2 =>
          have eb := hv2.1 j rfl
          have zj := val_sz lb eb
          have noq' : (∀ x : Rat, ¬ (x.den ≠ 1 ∧ i = x.num ∧ j = x.den)) → ∀ q, t ≠ shS q := fun h => noq fun x ⟨h1, h2, h3⟩ => h x ⟨h1, numT_inj (ea.symm.trans h2), numT_inj (eb.symm.trans h3)⟩
          refine ⟨_, rfl, _, rfl, iteF ⟨_, rfl, _, rfl, iteF ⟨_, rfl, _, _, rfl, rfl, _, rfl, ?_⟩⟩⟩
          by_cases h1 : j < 1
          · rw [decide_eq_true h1]
            exact iteT (iteT (qn (noq' fun x ⟨_, _, h⟩ => by have := x.den_nz; omega) _ s03))
          rw [decide_eq_false h1]
          refine iteF ⟨_, rfl, rfl, _, rfl, ?_⟩
          show (if (!decide (V.str ("/" : Str) = V.str ("" : Str))) = true then _ else _)
          rw [sl_ne]
          refine iteT ⟨_, rfl, rfl, _, rfl, ?_⟩
          by_cases h2 : j = 1
          · rw [decide_eq_true (show vO (some j) = V.int 1 from congrArg V.int h2)]
            exact iteT (qn (noq' fun x ⟨h, _, h3⟩ => h (by omega)) _ s03)
          rw [decide_eq_false (show ¬ vO (some j) = V.int 1 from fun z => h2 (V.int.inj z))]
          refine iteF ?_
          have hj : j ≠ 0 := by omega
          refine ⟨_, rfl, _, rfl, i, j, rfl, hj, zi.mono (by decide), zj.mono (by decide), fun p2 n2 => ?_⟩
          have s3 := Same.new (o := .tup [.int (Rat.divInt i j).num, .int (Rat.divInt i j).den]) n2
          refine ⟨_, rfl, _, rfl, ln _, fun p3 n3 => ?_⟩
          have s4 := Same.new (o := .tup [.int i, .int j]) n3
          refine ⟨.tuple [.int (Rat.divInt i j).num, .int (Rat.divInt i j).den], .tuple [.int i, .int j], .tup (SqT.of (s4 _ _ upd_same)) (.cons (.int _) (.cons (.int _) .nil)), .tup (SqT.of upd_same) (.cons (.int _) (.cons (.int _) .nil)), rfl, rfl, _, rfl, ?_⟩
          rw [eqv_two]
          by_cases hc : (Rat.divInt i j).num = i ∧ (((Rat.divInt i j).den : Nat) : Int) = j
          · rw [decide_eq_true hc.1, decide_eq_true hc.2]
            refine iteF ⟨_, rfl, _, rfl, ln _, fun p5 n5 => ?_⟩
            have s5 := Same.new (o := .tup [.int i, .int j]) n5
            refine q (Rat.divInt i j) ?_ p5 _ (s03.trans (s3.trans (s4.trans s5))) ?_
            · rw [shS_app (fun z => h2 (by rw [← hc.2, z]; rfl)), hc.1, hc.2, ht, ea, eb]
            · unfold Tp
              rw [hc.1, hc.2]
              exact upd_same
          · rw [show (!(decide ((Rat.divInt i j).num = i) && decide ((((Rat.divInt i j).den : Nat) : Int) = j))) = true by
              by_cases h3 : (Rat.divInt i j).num = i
              · rw [decide_eq_false (fun z => hc ⟨h3, z⟩), Bool.and_false]
                rfl
              · rw [decide_eq_false h3]
                rfl]
            refine iteT (qn (noq' fun x ⟨_, h4, h5⟩ => hc ?_) _ (s03.trans (s3.trans s4)))
            rw [h4, h5, Rat.num_divInt_den]
            exact ⟨rfl, rfl⟩
end
/-! ### calendars out of any text -/
theorem hu1 {k : Nat} {A : Around} (r : Room k A) : A.units + 1 < cLine := by
  have := r.un
  omega
def wrds : List Str := [("month" : Str), ("year" : Str), ("moon" : Str), ("mark" : Str)]
theorem bl_tl : TL.tl (" " : Str) = [32] := by decide +kernel
theorem inV_w (w : Str) : inV (.str w) (wrds.map V.str) = decide (w ∈ wrds) := by
  have h : ∀ (ws : List Str), inV (.str w) (ws.map V.str) = decide (w ∈ ws) := fun ws => by
    induction ws with
    | nil => rfl
    | cons x ws ih =>
      show (eqV (.str x) (.str w) || inV (.str w) (ws.map V.str)) = _
      rw [ih]
      by_cases c : w = x
      · subst c
        simp [eqV]
      · have c' : ¬ x = w := fun z => c z.symm
        simp [eqV, c, c']
  exact h wrds
/-- an entry of a dict of texts -/
def enS (p : Str × Str) : Key × V := (.inr p.1, .str p.2)
/-- a line is at fault -/
def badL (seen : List (Str × Str)) (l : Str) : Prop := (Txt.partition l (" " : Str)).2.1 = ("" : Str) ∨ (Txt.partition l (" " : Str)).1 ∉ wrds ∨ (Txt.partition l (" " : Str)).1 ∈ seen.map (·.1)
instance {seen : List (Str × Str)} {l : Str} : Decidable (badL seen l) := by
  unfold badL
  exact inferInstance
def tbF : List (Str × Str) → List Str → Sum Str (List (Str × Str))
  | seen, [] => .inr seen
  | seen, l :: ls => if badL seen l then .inl l else tbF (seen ++ [((Txt.partition l (" " : Str)).1, (Txt.partition l (" " : Str)).2.2)]) ls
theorem valV_ent {W : List (Str × Str)} {w : Str} : (valV (W.map enS) (.inr w)).isSome = decide (w ∈ W.map (·.1)) := by
  induction W with
  | nil => rfl
  | cons x W ih =>
    rw [List.map_cons, List.map_cons]
    by_cases c : x.1 = w
    · rw [valV_pos (show (enS x).1 = (Sum.inr w : Key) from congrArg Sum.inr c)]
      simp [c]
    · rw [valV_neg (show ¬ (enS x).1 = (Sum.inr w : Key) from fun z => c (Sum.inr.inj z)), ih]
      have hi : (w ∈ x.1 :: W.map (·.1)) ↔ w ∈ W.map (·.1) := ⟨fun h => (List.mem_cons.mp h).elim (fun z => absurd z.symm c) id, fun h => List.mem_cons_of_mem _ h⟩
      exact decide_eq_decide.mpr hi.symm
theorem valV_no {W : List (Str × Str)} {w : Str} (h : w ∉ W.map (·.1)) : valV (W.map enS) (.inr w) = none := by
  have := valV_ent (W := W) (w := w)
  rw [decide_eq_false h] at this
  cases hv : valV (W.map enS) (.inr w) with
  | none => rfl
  | some v => rw [hv] at this; cases this
theorem inj_of_nodup : ∀ {W : List (Str × Str)} {p p' : Str × Str}, (W.map (·.1)).Nodup → p ∈ W → p' ∈ W → p.1 = p'.1 → p = p'
  | [], _, _, _, h, _, _ => by cases h
  | x :: W, p, p', nd, h, h', e => by
    rw [List.map_cons] at nd
    obtain ⟨h1, h2⟩ := List.nodup_cons.mp nd
    rcases List.mem_cons.mp h with z | hm
    · rcases List.mem_cons.mp h' with z' | hm'
      · rw [z, z']
      · exact absurd (by rw [← z, e]; exact List.mem_map_of_mem hm') h1
    · rcases List.mem_cons.mp h' with z' | hm'
      · exact absurd (by rw [← z', ← e]; exact List.mem_map_of_mem hm) h1
      · exact inj_of_nodup h2 hm hm' e
theorem put_new {kvs : List (Key × V)} {k : Key} {v : V} (h : valV kvs k = none) : putK kvs k v = kvs ++ [(k, v)] := by
  unfold putK
  rw [valV_any, h]
  rfl
theorem emp_bl : ¬ Str.empty = (" " : Str) := by decide +kernel
theorem emp_e : Str.empty = ("" : Str) := by decide +kernel
theorem bl_e : ¬ (" " : Str) = ("" : Str) := by decide +kernel
/-- a good line is its word, a blank and what is behind -/
theorem good_line {l : Str} (h : ¬ (Txt.partition l (" " : Str)).2.1 = ("" : Str)) : (Txt.partition l (" " : Str)).2.1 = (" " : Str) ∧ l = ((Txt.partition l (" " : Str)).1 ++ (" " : Str)) ++ (Txt.partition l (" " : Str)).2.2 := by
  rcases part_cases bl_tl l with ⟨e, _⟩ | ⟨a, b, e, ht, _⟩
  · rw [e] at h
    exact absurd emp_e h
  · rw [e]
    exact ⟨rfl, ht⟩
theorem part_lenB (t : Str) : (Txt.partition t (" " : Str)).1.length ≤ t.length ∧ (Txt.partition t (" " : Str)).2.2.length ≤ t.length := by
  rcases part_cases bl_tl t with ⟨e, _⟩ | ⟨a, b, e, h, _⟩
  · rw [e]
    exact ⟨Nat.le_refl _, Nat.zero_le _⟩
  · rw [e, h]
    have h1 := str_app_len (a ++ (" " : Str)) b
    have h2 := str_app_len a (" " : Str)
    constructor
    · show a.length ≤ _
      omega
    · show b.length ≤ _
      omega
/-- the written words -/
structure WdT (K : PySem.W.Frag) (mg : Str → Option Value) (aW : Addr) : Prop where
  m : mg "WORDS" = some (.ref aW)
  t : ∀ H : Hp, SqT K H aW (wrds.map V.str)
/-- what is told of good lines -/
structure GoodT (W : List (Str × Str)) : Prop where
  nd : (W.map (·.1)).Nodup
  wd : ∀ p ∈ W, p.1 ∈ wrds
  ln : ∀ p ∈ W, p.2.length ≤ 450
theorem GoodT.snoc {W : List (Str × Str)} (g : GoodT W) {l : Str} (hl : l.length ≤ 450) (h : ¬ badL W l) : GoodT (W ++ [((Txt.partition l (" " : Str)).1, (Txt.partition l (" " : Str)).2.2)]) := by
  unfold badL at h
  have h1 : (Txt.partition l (" " : Str)).1 ∈ wrds := Decidable.byContradiction fun z => h (.inr (.inl z))
  have h2 : (Txt.partition l (" " : Str)).1 ∉ W.map (·.1) := fun z => h (.inr (.inr z))
  refine ⟨?_, fun p hp => ?_, fun p hp => ?_⟩
  · rw [List.map_append, List.nodup_append]
    refine ⟨g.nd, by simp, fun a ha b hb => ?_⟩
    rw [List.map_cons, List.map_nil, List.mem_singleton] at hb
    rw [hb]
    exact fun z => h2 (z ▸ ha)
  · rcases List.mem_append.mp hp with hp | hp
    · exact g.wd p hp
    · rw [List.mem_singleton.mp hp]
      exact h1
  · rcases List.mem_append.mp hp with hp | hp
    · exact g.ln p hp
    · rw [List.mem_singleton.mp hp]
      exact Nat.le_trans (part_lenB l).2 hl
theorem tbF_good : ∀ (ls : List Str) (seen : List (Str × Str)) {W : List (Str × Str)}, GoodT seen → (∀ l ∈ ls, l.length ≤ 450) → tbF seen ls = .inr W → GoodT W
  | [], seen, W, g, _, e => by
    have : seen = W := Sum.inr.inj e
    rw [← this]
    exact g
  | l :: ls, seen, W, g, hl, e => by
    unfold tbF at e
    by_cases h : badL seen l
    · rw [if_pos h] at e
      cases e
    · rw [if_neg h] at e
      exact tbF_good ls _ (g.snoc (hl l List.mem_cons_self) h) (fun x hx => hl x (List.mem_cons_of_mem _ hx)) e
theorem tbF_bad : ∀ (ls : List Str) (seen : List (Str × Str)) {l : Str}, tbF seen ls = .inl l → l ∈ ls
  | [], _, l, e => by cases e
  | x :: ls, seen, l, e => by
    unfold tbF at e
    by_cases h : badL seen x
    · rw [if_pos h] at e
      rw [← Sum.inl.inj e]
      exact List.mem_cons_self
    · rw [if_neg h] at e
      exact List.mem_cons_of_mem _ (tbF_bad ls _ e)
/-- the lines of what was told good -/
def lnT (p : Str × Str) : Str := (p.1 ++ (" " : Str)) ++ p.2
theorem tbF_lines : ∀ (ls : List Str) (seen : List (Str × Str)) {W : List (Str × Str)}, tbF seen ls = .inr W → W = seen ++ ls.map (fun l => ((Txt.partition l (" " : Str)).1, (Txt.partition l (" " : Str)).2.2)) ∧ ∀ l ∈ ls, l = lnT ((Txt.partition l (" " : Str)).1, (Txt.partition l (" " : Str)).2.2)
  | [], seen, W, e => by
    have : seen = W := Sum.inr.inj e
    rw [← this]
    exact ⟨by simp, fun l hl => by cases hl⟩
  | x :: ls, seen, W, e => by
    unfold tbF at e
    by_cases h : badL seen x
    · rw [if_pos h] at e
      cases e
    · rw [if_neg h] at e
      obtain ⟨h1, h2⟩ := tbF_lines ls _ e
      refine ⟨by rw [h1, List.append_assoc]; rfl, fun l hl => ?_⟩
      rcases List.mem_cons.mp hl with rfl | hl
      · exact (good_line fun z => h (.inl z)).2
      · exact h2 l hl
/-- the text is short -/
structure ShT9 (t : Str) : Prop where
  len : t.length ≤ 9000
  ln : ∀ l ∈ Txt.split t ("\n" : Str), l.length ≤ 450
  few : (Txt.split t ("\n" : Str)).length ≤ 4000
def spTbX (CN : Addr) : Sp := fun vs H Q E => ∃ t : Str, vs = [.str t] ∧ ShT9 t ∧ (∀ W, tbF [] (Txt.split t ("\n" : Str)) = .inr W → ∀ (d : Addr) (H' : Hp), H d = none → Same H H' → H' d = some (.dK (W.map enS)) → Q (.ref d) H') ∧ (∀ l, tbF [] (Txt.split t ("\n" : Str)) = .inl l → NtE CN E H l)
section
variable {P : Program} {w : World} {K : PySem.W.Frag} {mg : Str → Option Value} {base : Heap} {C Cc CN CV a_WORDS : Addr}
theorem ok_tbX (D : Df K mg "texts_by_word" s_texts_by_word []) (TW : WdT K mg a_WORDS) (T : NtT K mg CN) (nc : Cx1 P w K mg base 1 CN "NoText.__init__" s_NoText_init ["self", "at"] (spNt CN)) : Ca P w K mg base (L2.CX P w) 3 "texts_by_word" s_texts_by_word [] ["text"] (spTbX CN) := by
  refine caX (k := 2) D c_texts_by_word (fun vs H Q E h => ?_) fun f cdv A outer s H vs Q E hr h => ?_
  · obtain ⟨t, rfl, _⟩ := h
    rfl
  · obtain ⟨t, rfl, hs, q, qe⟩ := h
    have h_WORDS := TW.m
    refine ⟨_, (pss_cons (ps_set (i := 1) c_texts_by_word.nd rfl (.inl rfl) pe_dnewK)
      (pss_cons (ps_for (passes_of rfl) rfl (pi_list (pe_m1 PySem.F.slot_str_split PySem.F.type_str_split mt_split (pv 0) pe_str)) (pg_name (i := 2) c_texts_by_word.nd rfl (.inl rfl)) (pss_cons (ps_asg (pe_m1 PySem.F.slot_str_partition PySem.F.type_str_partition mt_partition (pv 2) pe_str) (pg_tup rfl (pgs_cons (pg_name (i := 3) c_texts_by_word.nd rfl (.inl rfl)) (pgs_cons (pg_name (i := 4) c_texts_by_word.nd rfl (.inl rfl)) (pgs_cons (pg_name (i := 5) c_texts_by_word.nd rfl (.inl rfl)) pgs_nil)))))
      (pss_cons (ps_if (PW.pt (pw_or (pt_cmpR op_eq (pv 4) pe_str (nomark _)) (pw_or (pt_cmpR op_notIn_seq (pv 3) (pe_glob (v := .ref a_WORDS) rfl h_WORDS rfl) rfl) (pw_or1 (pt_cmp (pc_din (hu1 hr) (pv 3) (pv 1))))))) (pss_one (ps_raise rfl (takes_of (E := E) rfl rfl rfl rfl) (mk_nt T nc (hr.mono (by decide)) rfl (pa_cons (pv 2) pa_nil)))) pss_nil)
      (pss_one (ps_dput (hu1 hr) (pv 1) (pv 3) (pv 5) rfl)))))
      (pss_one (ps_ret (pv 1))))), ?_⟩
    intro D nD
    have h1 := hs.len
    refine ⟨_, rfl, ⟨_, rfl⟩, t, _, rfl, rfl, rfl, (by show t.length + 2 ≤ 16777216; omega), fun L nL => ?_⟩
    have hln := hs.ln
    have few := hs.few
    clear hs
    generalize Txt.split t ("\n" : Str) = ls at *
    have nLD : L ≠ D := fun z => by
      rw [z, upd_same] at nL
      cases nL
    have eL := upd_same (H := L2.upd H D (.dK [])) (a := L) (o := .lst (ls.map V.str))
    refine ⟨L, rfl, ⟨_, SqL.of eL⟩, for_list (K := K) (a := L) (xs := ls.map V.str) (fun i σ H' => ∃ (v2 v3 v4 v5 : Option V) (W : List (Str × Str)), σ = [some (.str t), some (.ref D), v2, v3, v4, v5] ∧ Same H H' ∧ H' L = some (.lst (ls.map V.str)) ∧ H' D = some (.dK (W.map enS)) ∧ GoodT W ∧ tbF [] ls = tbF W (ls.drop i) ∧ W.length ≤ i)
      ⟨_, _, _, _, [], rfl, ?_, eL, (by rw [upd_ne nLD.symm]; exact upd_same), ⟨List.nodup_nil, (fun p hp => by cases hp), (fun p hp => by cases hp)⟩, rfl, Nat.le_refl _⟩ (fun i σ H' _ ⟨_, _, _, _, _, _, _, e, _⟩ => SqL.of e) ?_ ?_⟩
    · have nLH : H L = none := by rw [upd_ne nLD] at nL; exact nL
      exact upd_keep nLH (upd_keep nD (Same.refl H))
    · rintro i x σ H1 hi ⟨v2, v3, v4, v5, W, rfl, s1, eL1, eD1, gW, ht, lW⟩
      rw [List.getElem?_map] at hi
      obtain ⟨l, hl, rfl⟩ : ∃ l, ls[i]? = some l ∧ x = .str l := by
        cases hb : ls[i]? with
        | none => rw [hb] at hi; cases hi
        | some p => rw [hb] at hi; exact ⟨p, rfl, (Option.some.inj hi).symm⟩
      have hil := (List.getElem?_eq_some_iff.mp hl).1
      have hlm : l ∈ ls := List.mem_of_getElem? hl
      have hlen := hln l hlm
      rw [List.drop_eq_getElem_cons hil, (List.getElem?_eq_some_iff.mp hl).2] at ht
      refine ⟨_, rfl, ⟨_, rfl⟩, l, _, rfl, rfl, rfl, Nat.le_trans hlen (by decide), fun T1 nT => ?_⟩
      have sT := Same.new (o := .tup [.str (Txt.partition l (" " : Str)).1, .str (Txt.partition l (" " : Str)).2.1, .str (Txt.partition l (" " : Str)).2.2]) nT
      refine ⟨T1, _, rfl, SqT.of upd_same, rfl, _, _, rfl, _, _, rfl, _, _, rfl, rfl, ?_⟩
      generalize L2.upd H1 T1 _ = H2 at *
      have eD2 := sT _ _ eD1
      have s02 := s1.trans sT
      have bad : badL W l → NtE CN E H l := fun hb => qe l (by
        rw [ht]
        unfold tbF
        rw [if_pos hb])
      have rs : ∀ {v2 v3 v4 v5 : Option V}, badL W l → ([V.str l] : List V).length ≤ 1000 ∧ ∀ a, H2 a = none → spNt CN (.ref a :: ([V.str l] ++ [])) (L2.upd H2 a (exo a CN none))
          (fun v H2' => v = .non ∧ ∃ (d : Addr) (fs : List (Str × V)), H2' a = some (exo a CN (some d)) ∧ H2' d = some (exd d fs) ∧ H2 d = none ∧ E (.ref CN) (some d) (L2.upd (del H2' a) d (.xd fs))) (fun _ _ _ => False) := fun hb => rd_nt (Nat.le_trans hlen (by decide)) (bad hb) s02
      refine ⟨_, rfl, rfl, _, rfl, ?_⟩
      by_cases c1 : (Txt.partition l (" " : Str)).2.1 = ("" : Str)
      · rw [decide_eq_true (congrArg V.str c1)]
        exact iteT (iteT ⟨_, rfl, rs (v2 := v2) (v3 := v3) (v4 := v4) (v5 := v5) (.inl c1)⟩)
      rw [decide_eq_false (fun z => c1 (V.str.inj z))]
      refine iteF ⟨_, rfl, a_WORDS, _, rfl, .inr (TW.t _), rfl, (by decide +kernel), _, rfl, ?_⟩
      rw [inV_w]
      by_cases c2 : (Txt.partition l (" " : Str)).1 ∈ wrds
      · rw [decide_eq_true c2]
        refine iteF ⟨_, rfl, _, rfl, D, _, rfl, DGet.k (k := .inr (Txt.partition l (" " : Str)).1) eD2, _, rfl, ?_⟩
        rw [valV_ent]
        by_cases c3 : (Txt.partition l (" " : Str)).1 ∈ W.map (·.1)
        · rw [decide_eq_true c3]
          exact iteT ⟨_, rfl, rs (v2 := v2) (v3 := v3) (v4 := v4) (v5 := v5) (.inr (.inr c3))⟩
        rw [decide_eq_false c3]
        have nb : ¬ badL W l := fun z => z.elim c1 fun z => z.elim (fun z => z c2) c3
        refine iteF ⟨_, rfl, _, rfl, _, rfl, D, _, rfl, DPut.k (k := .inr (Txt.partition l (" " : Str)).1) eD2 (by rw [List.length_map]; show W.length < 16777216; omega), ?_⟩
        refine ⟨_, _, _, _, _, rfl, upd_keep nD s02, ?_, ?_, gW.snoc hlen nb, ?_, ?_⟩
        · rw [upd_ne nLD]
          exact sT _ _ eL1
        · rw [upd_same, put_new (valV_no c3), List.map_append]
          rfl
        · rw [ht]
          show (if badL W l then _ else _) = _
          rw [if_neg nb]
        · rw [List.length_append]
          show W.length + 1 ≤ i + 1
          omega
      · rw [decide_eq_false c2]
        exact iteT (iteT ⟨_, rfl, rs (v2 := v2) (v3 := v3) (v4 := v4) (v5 := v5) (.inr (.inl c2))⟩)
    · rintro σ H1 ⟨v2, v3, v4, v5, W, rfl, s1, eL1, eD1, gW, ht, _⟩
      rw [List.length_map, List.drop_length] at ht
      exact ⟨_, rfl, q W ht D H1 nD s1 eD1⟩
end
theorem bd_Calendar4 : Bd1 "__init__" "Calendar.__init__" s_Calendar_init ["self", "month", "year", "moon", "mark"] 5 2 2 := fun _ _ _ _ _ _ _ us its hu hi => match us, hu, its, hi with | [_, _, _, _, _], _, [_, _], _ => ⟨_, rfl, rfl⟩
/-! ### what a text tells -/
theorem shS_inj {p q : Rat} (h : shS p = shS q) : p = q := by
  obtain ⟨a1, a2⟩ := part_sh p
  obtain ⟨b1, b2⟩ := part_sh q
  rw [h] at a1 a2
  exact Rat.ext (a1.symm.trans b1) (by have := a2.symm.trans b2; omega)
theorem shS_sz {t : Str} {q : Rat} (hl : t.length ≤ 450) (h : t = shS q) : Rz 1810 q := by
  obtain ⟨a1, a2⟩ := part_sh q
  rw [← h] at a1 a2
  have lp := part_len t
  have l1 : (Txt.partition t ("/" : Str)).1.length ≤ 450 := Nat.le_trans lp.1 hl
  have l2 : (Txt.partition t ("/" : Str)).2.2.length ≤ 450 := Nat.le_trans lp.2 hl
  constructor
  · rw [← a1]
    exact Nat.lt_of_lt_of_le (nin_sz (b := 10) (n := 450) (by decide) l1) (Nat.pow_le_pow_right (by decide) (by decide))
  · rw [← a2]
    unfold lowerOf
    split
    · exact Nat.lt_of_lt_of_le (nin_sz (b := 10) (n := 450) (by decide) l2) (Nat.pow_le_pow_right (by decide) (by decide))
    · exact szi 1
open Classical in
noncomputable def shOf (t : Str) : Option Rat := if h : ∃ q, t = shS q then some h.choose else none
theorem shOf_some (q : Rat) : shOf (shS q) = some q := by
  have h : ∃ x, shS q = shS x := ⟨q, rfl⟩
  unfold shOf
  rw [dif_pos h, ← shS_inj h.choose_spec]
theorem shOf_eq {t : Str} {q : Rat} (h : t = shS q) : shOf t = some q := by
  rw [h]
  exact shOf_some q
theorem shOf_none {t : Str} (h : ∀ q, t ≠ shS q) : shOf t = none := by
  unfold shOf
  rw [dif_neg fun ⟨q, e⟩ => h q e]
inductive Out where
  | text (l : Str)
  | cal (w : Str)
  | good
def missF (W : List (Str × Str)) : Option Str := wrds.find? fun w => !decide (w ∈ W.map (·.1))
noncomputable def svF (W : List (Str × Str)) (w : Str) : Rat := ((W.find? fun p => decide (p.1 = w)).bind fun p => shOf p.2).getD 0
open Classical in
noncomputable def endF (m y : Rat) : Out := if Fit m y then .good else .cal (faultS m y)
noncomputable def rdW (W : List (Str × Str)) : Out := match missF W with
  | some w => .text w
  | none => match W.find? fun p => (shOf p.2).isNone with
    | some p => .text (lnT p)
    | none => endF (svF W ("month" : Str)) (svF W ("year" : Str))
noncomputable def rdF (t : Str) : Out := match tbF [] (Txt.split t ("\n" : Str)) with
  | .inl l => .text l
  | .inr W => rdW W
def spRcX (C Cc CN CV : Addr) : Sp := fun vs H Q E => ∃ t : Str, vs = [.str t] ∧ ShT9 t ∧ (rdF t = .good → ∀ (p : Addr) (H' : Hp) (m y o k : Rat), Same H H' → Cl C Cc H' p m y o k → Q (.ref p) H') ∧ (∀ l, rdF t = .text l → NtE CN E H l) ∧ (∀ x, rdF t = .cal x → NcE CV E H x)
theorem find_here {α : Type} {f : α → Bool} {W : List α} {i : Nat} {p : α} (hi : W[i]? = some p) (hp : f p = true) (h : ∀ x ∈ W.take i, f x = false) : W.find? f = some p := by
  have hl := (List.getElem?_eq_some_iff.mp hi)
  obtain ⟨hlt, he⟩ := hl
  have e : W = W.take i ++ (p :: W.drop (i + 1)) := by
    have := List.take_append_drop i W
    rw [List.drop_eq_getElem_cons hlt, he] at this
    exact this.symm
  rw [e, List.find?_append]
  have h0 : (W.take i).find? f = none := List.find?_eq_none.mpr fun x hx => by rw [h x hx]; simp
  rw [h0]
  simp [hp]
section
variable {P : Program} {w : World} {K : PySem.W.Frag} {mg : Str → Option Value} {base : Heap} {C Cc CN CV a_WORDS : Addr}
set_option maxHeartbeats 8000000 in
theorem ok_rcX (D : Df K mg "read_calendar" s_read_calendar []) (TW : WdT K mg a_WORDS) (T : NtT K mg CN) (nc : Cx1 P w K mg base 1 CN "NoText.__init__" s_NoText_init ["self", "at"] (spNt CN)) (f_texts_by_word : Ca P w K mg base (L2.CX P w) 3 "texts_by_word" s_texts_by_word [] ["text"] (spTbX CN)) (f_share_in : Ca P w K mg base CX0 6 "share_in" s_share_in [] ["text"] (spSi C))
    (f_Calendar : Ci P w K mg base (L2.CX P w) 8 "Calendar" Cc "Calendar.__init__" s_Calendar_init [.non, .non] ["self", "month", "year", "moon", "mark"] (spCaX C Cc CV)) : Ca P w K mg base (L2.CX P w) 10 "read_calendar" s_read_calendar [] ["text"] (spRcX C Cc CN CV) := by
  refine caX (k := 9) D c_read_calendar (fun vs H Q E h => ?_) fun f cdv A outer s H vs Q E hr h => ?_
  · obtain ⟨t, rfl, _⟩ := h
    rfl
  · obtain ⟨t, rfl, hs, qg, qt, qc⟩ := h
    have h_WORDS := TW.m
    refine ⟨_, (pss_cons (ps_set (i := 1) c_read_calendar.nd rfl (.inl rfl) (pe_ca f_texts_by_word b_texts_by_word hr (by decide) (passes_call (takes_of (E := E) rfl rfl rfl rfl) fun _ _ _ _ z => z) rfl (pa_cons (pv 0) pa_nil)))
      (C8.pss_cut (ps_for (passes_of rfl) rfl (pi_tup (pe_glob (v := .ref a_WORDS) rfl h_WORDS rfl)) (pg_name (i := 2) c_read_calendar.nd rfl (.inl rfl)) (pss_one (ps_if (pt_cmp (pc_dnotin (hu1 hr) (pv 2) (pv 1))) (pss_one (ps_raise rfl (takes_of (E := E) rfl rfl rfl rfl) (mk_nt T nc (hr.mono (by decide)) rfl (pa_cons (pv 2) pa_nil)))) pss_nil)))
      (pss_cons (ps_set (i := 3) c_read_calendar.nd rfl (.inl rfl) pe_dnewK)
      (C8.pss_cut (ps_lock (ps_for (passes_of rfl) rfl (pi_items (pv 1)) (pg_tup rfl (pgs_cons (pg_name (i := 2) c_read_calendar.nd rfl (.inl rfl)) (pgs_cons (pg_name (i := 4) c_read_calendar.nd rfl (.inl rfl)) pgs_nil))) (pss_cons (ps_set (i := 5) c_read_calendar.nd rfl (.inl rfl) (pe_ca f_share_in b_share_in hr (by decide) pass0 rfl (pa_cons (pv 4) pa_nil)))
      (pss_cons (ps_if (pt_cmp (pc_isN (pv 5))) (pss_one (ps_raise rfl (takes_of (E := E) rfl rfl rfl rfl) (mk_nt T nc (hr.mono (by decide)) rfl (pa_cons (pe_joined (.cons (pe_fmt (pv 2)) (.cons pe_str (.cons (pe_fmt (pv 4)) .nil)))) pa_nil)))) pss_nil)
      (pss_one (ps_dput (hu1 hr) (pv 3) (pv 2) (pv 5) rfl))))))
      (pss_one (ps_ret (pe_ci f_Calendar bd_Calendar4 (by decide) rfl hr (by decide) (passes_call (takes_of (E := E) rfl rfl rfl rfl) fun _ _ _ _ z => z) rfl (pa_cons (pe_dget (hu1 hr) (pv 3) pe_str (fun _ _ => rfl)) (pa_cons (pe_dget (hu1 hr) (pv 3) pe_str (fun _ _ => rfl)) (pa_cons (pe_dget (hu1 hr) (pv 3) pe_str (fun _ _ => rfl)) (pa_cons (pe_dget (hu1 hr) (pv 3) pe_str (fun _ _ => rfl)) pa_nil))))))))))), ?_⟩
    refine ⟨_, rfl, t, rfl, hs, fun W eW d H1 nd s1 ed => ?_, fun l el => qt l (by unfold rdF; rw [el])⟩
    have few := hs.few
    have gW : GoodT W := tbF_good _ [] ⟨List.nodup_nil, (fun p hp => by cases hp), (fun p hp => by cases hp)⟩ hs.ln eW
    have hlW : W.length ≤ 4000 := by
      obtain ⟨h1, _⟩ := tbF_lines _ _ eW
      rw [h1]
      simpa using few
    have er : rdF t = rdW W := by unfold rdF; rw [eW]
    rw [er] at qg qt qc
    clear er hs eW few
    -- every word leads a line
    refine ⟨fun σ' H' => (∃ v2 : Option V, σ' = [some (.str t), some (.ref d), v2, none, none, none]) ∧ H' = H1 ∧ ∀ x ∈ wrds, x ∈ W.map (·.1), ?_, ?_⟩
    · refine ⟨a_WORDS, rfl, ⟨_, TW.t _⟩, for_it (walk_tup (K := K) (a := a_WORDS) (xs := wrds.map V.str)) (fun i σ H' => (∃ v2 : Option V, σ = [some (.str t), some (.ref d), v2, none, none, none]) ∧ H' = H1 ∧ ∀ x ∈ wrds.take i, x ∈ W.map (·.1)) ⟨⟨_, rfl⟩, rfl, fun x hx => by simp at hx⟩ (fun _ _ H' _ _ => TW.t H') ?_ (fun σ H' ⟨h1, h2, h3⟩ => ⟨h1, h2, by rw [List.length_map, List.take_length] at h3; exact h3⟩)⟩
      rintro i x σ Ha Hb hi ⟨⟨v2, rfl⟩, rfl, hseen⟩ ⟨rfl, hx⟩
      rw [List.getElem?_map] at hx
      obtain ⟨wd, hwd, rfl⟩ : ∃ wd, wrds[i]? = some wd ∧ x = .str wd := by
        cases hb : wrds[i]? with
        | none => rw [hb] at hx; cases hx
        | some p => rw [hb] at hx; exact ⟨p, rfl, (Option.some.inj hx).symm⟩
      refine ⟨_, rfl, _, rfl, d, _, rfl, DGet.k (k := .inr wd) ed, _, rfl, ?_⟩
      rw [valV_ent]
      by_cases c : wd ∈ W.map (·.1)
      · rw [decide_eq_true c]
        refine iteF ⟨⟨_, rfl⟩, rfl, fun x hx => ?_⟩
        rw [List.take_succ, hwd] at hx
        rcases List.mem_append.mp hx with hx | hx
        · exact hseen x hx
        · rw [List.mem_singleton.mp hx]
          exact c
      · rw [decide_eq_false c]
        have em : rdW W = .text wd := by
          have : missF W = some wd := find_here hwd (by rw [decide_eq_false c]; rfl) fun x hx => by rw [decide_eq_true (hseen x hx)]; rfl
          unfold rdW
          rw [this]
        have lw : wd.length ≤ 1000 := by
          have : ∀ w ∈ wrds, w.length ≤ 1000 := by decide +kernel
          exact this wd (List.mem_of_getElem? hwd)
        exact iteT ⟨_, rfl, rd_nt lw (qt wd em) s1⟩
    rintro σ' H' ⟨⟨v2, rfl⟩, rfl, hall⟩
    have hmiss : missF W = none := List.find?_eq_none.mpr fun x hx => by rw [decide_eq_true (hall x hx)]; simp
    intro D nD
    have nDH : H D = none := s1.free nD
    have nDd : D ≠ d := fun z => by
      rw [z, ed] at nD
      cases nD
    have s2 := Same.new (o := .dK []) nD
    -- the shares
    refine ⟨fun σ' H' => ∃ (v2 v4 v5 : Option V) (kvs : List (Key × V)), σ' = [some (.str t), some (.ref d), v2, some (.ref D), v4, v5] ∧ Same H H' ∧ H' D = some (.dK kvs) ∧ ∀ p ∈ W, ∃ r q, p.2 = shS q ∧ valV kvs (.inr p.1) = some (.ref r) ∧ Sh C H' r q, ?_, ?_⟩
    · refine ⟨d, _, s2 _ _ ed, trivial, fun od => ?_⟩
      have ed' := upd_same (H := L2.upd H' D (.dK [])) (a := d) (o := .frz od (.dK (W.map enS)))
      refine ⟨_, rfl, d, od, _, rfl, ed', for_it (walk_items (d := d) (o := od) (kvs := W.map enS)) (fun i σ Hx => ∃ (v2 v4 v5 : Option V) (kvs : List (Key × V)), σ = [some (.str t), some (.ref d), v2, some (.ref D), v4, v5] ∧ Same H Hx ∧ Hx d = some (.frz od (.dK (W.map enS))) ∧ Hx D = some (.dK kvs) ∧ kvs.length ≤ i ∧ ∀ p ∈ W.take i, ∃ r q, p.2 = shS q ∧ valV kvs (.inr p.1) = some (.ref r) ∧ Sh C Hx r q)
        ⟨_, _, _, [], rfl, upd_keep nd (upd_keep nDH s1), ed', by rw [upd_ne nDd]; exact upd_same, Nat.le_refl _, fun p hp => by simp at hp⟩ (fun i σ Hx _ ⟨_, _, _, _, _, _, e, _⟩ => e) ?_ ?_⟩
      · rintro i x σ Ha Hb hi ⟨v2, v4, v5, kvs, rfl, sa, eda, eDa, lk, hk⟩ ⟨T1, u, z, rfl, nT, rfl, hu, hz⟩
        rw [List.length_map] at hi
        have hpi := List.getElem?_eq_getElem hi
        obtain ⟨rfl, rfl⟩ : u = .str W[i].1 ∧ z = .str W[i].2 := by
          have hu' : Option.map (fun kv : Key × V => kV kv.1) (W.map enS)[i]? = some u := hu
          have hz' : Option.map Prod.snd (W.map enS)[i]? = some z := hz
          rw [List.getElem?_map, hpi] at hu' hz'
          exact ⟨(Option.some.inj hu').symm, (Option.some.inj hz').symm⟩
        have hpW : W[i] ∈ W := List.getElem_mem hi
        generalize W[i] = p at *
        have sT := Same.new (o := .tup [.str p.1, .str p.2]) nT
        refine ⟨T1, _, rfl, SqT.of upd_same, rfl, _, _, rfl, _, _, rfl, rfl, ?_⟩
        generalize L2.upd Ha T1 _ = Hc at *
        have zl := gW.ln p hpW
        refine ⟨_, rfl, p.2, rfl, zl, fun x ex r Hd sd hsh => ?_, fun hno Hd sd => ?_⟩
        · refine ⟨_, rfl, _, rfl, iteF ⟨_, rfl, _, rfl, _, rfl, D, _, rfl, DPut.k (k := .inr p.1) (sd _ _ (sT _ _ eDa)) (by show kvs.length < 16777216; omega), ?_⟩⟩
          have scd := sT.trans sd
          have keep : ∀ {r' : Addr} {q : Rat} {kv : List (Key × V)}, Sh C Hd r' q → Sh C (L2.upd Hd D (.dK kv)) r' q := fun {r' q kv} ⟨dx, e⟩ => ⟨dx, by
            rw [upd_ne (ne_of e (scd _ _ eDa) (by intro z; cases z))]
            exact e⟩
          refine ⟨_, _, _, putK kvs (.inr p.1) (.ref r), rfl, upd_keep nDH (sa.trans scd), ?_, upd_same, ?_, fun p' hp' => ?_⟩
          · rw [upd_ne nDd.symm]
            exact scd _ _ eda
          · unfold putK
            split
            · rw [List.length_map]
              omega
            · rw [List.length_append]
              show kvs.length + 1 ≤ i + 1
              omega
          · by_cases c : p'.1 = p.1
            · have ep : p' = p := by
                have m1 : p' ∈ W := List.mem_of_mem_take hp'
                exact inj_of_nodup gW.nd m1 hpW c
              subst ep
              exact ⟨r, x, ex, by rw [valV_put, if_pos rfl], keep hsh⟩
            · have hp2 : p' ∈ W.take i := by
                rw [List.take_succ, hpi] at hp'
                rcases List.mem_append.mp hp' with h | h
                · exact h
                · exact absurd (congrArg Prod.fst (List.mem_singleton.mp h)) c
              obtain ⟨r', q', h0, h1, h2⟩ := hk p' hp2
              exact ⟨r', q', h0, by rw [valV_put, if_neg (fun z => c (Sum.inr.inj z)), h1], keep (h2.same scd)⟩
        · have em : rdW W = .text (lnT p) := by
            have : (W.find? fun p => (shOf p.2).isNone) = some p := find_here hpi (by rw [shOf_none hno]; rfl) fun x hx => by
              obtain ⟨_, q', h0, _⟩ := hk x hx
              rw [shOf_eq h0]
              rfl
            unfold rdW
            rw [hmiss]
            show (match W.find? fun p => (shOf p.2).isNone with | some p => Out.text (lnT p) | none => _) = _
            rw [this]
          have l1 : p.1.length ≤ 5 := by
            have : ∀ w ∈ wrds, w.length ≤ 5 := by decide +kernel
            exact this _ (gW.wd p hpW)
          have l2 : (Str.empty ++ p.1).length ≤ 5 := by rw [str_app_len]; show 0 + _ ≤ 5; omega
          have l3 := ap_len l2 (lit_len (s := (" " : Str)) (n := 1))
          have l4 := ap_len l3 zl
          have e4 : ((Str.empty ++ p.1) ++ (" " : Str)) ++ p.2 = lnT p := by
            refine str_ext ?_
            unfold lnT
            simp only [app_cps, emp_cps, List.nil_append]
          refine ⟨_, rfl, _, rfl, iteT ⟨_, rfl, .inl ⟨_, rfl, sl_len l1, _, rfl, sl_len l2, _, rfl, sl_len l3, _, rfl, .inl ⟨_, rfl, sl_len zl, _, rfl, sl_len l4, ?_⟩⟩⟩⟩
          rw [e4] at l4 ⊢
          exact rd_nt (Nat.le_trans l4 (by decide)) (qt _ em) (sa.trans (sT.trans sd))
      · rintro σ Ha ⟨v2, v4, v5, kvs, rfl, sa, eda, eDa, lk, hk⟩
        rw [List.length_map, List.take_length] at hk
        refine ⟨eda, _, _, _, kvs, rfl, upd_keep nd sa, by rw [upd_ne nDd]; exact eDa, fun p hp => ?_⟩
        obtain ⟨r, q', h0, h1, dx, h2⟩ := hk p hp
        exact ⟨r, q', h0, h1, dx, by rw [upd_ne (ne_of h2 eda (by intro z; cases z))]; exact h2⟩
    rintro σ' H2 ⟨v2', v4', v5', kvs, rfl, s2', eD, hk⟩
    have hfind : (W.find? fun p => (shOf p.2).isNone) = none := List.find?_eq_none.mpr fun x hx => by
      obtain ⟨_, q', h0, _⟩ := hk x hx
      rw [shOf_eq h0]
      simp
    have ee : rdW W = endF (svF W ("month" : Str)) (svF W ("year" : Str)) := by
      unfold rdW
      rw [hmiss]
      show (match W.find? fun p => (shOf p.2).isNone with | some p => Out.text (lnT p) | none => _) = _
      rw [hfind]
    have at4 : ∀ {w : Str}, w ∈ wrds → ∃ r, DGet H2 D (.str w) (some (.ref r)) ∧ Sh C H2 r (svF W w) ∧ Rz 1810 (svF W w) := fun {w} hw => by
      obtain ⟨p0, hp0, e0⟩ := List.mem_map.mp (hall w hw)
      cases hf : W.find? fun p => decide (p.1 = w) with
      | none => exact absurd (decide_eq_true e0) (List.find?_eq_none.mp hf p0 hp0)
      | some p =>
        have hpw : p.1 = w := by
          have h := List.find?_some hf
          exact of_decide_eq_true h
        have hpm : p ∈ W := List.mem_of_find?_eq_some hf
        obtain ⟨r, q', h0, h1, h2⟩ := hk p hpm
        have ev : svF W w = q' := by
          unfold svF
          rw [hf]
          show (shOf p.2).getD 0 = q'
          rw [shOf_eq h0]
          rfl
        rw [ev]
        refine ⟨r, ?_, h2, shS_sz (gW.ln p hpm) h0⟩
        have := DGet.k (k := .inr w) eD
        rw [← hpw, h1] at this
        rw [← hpw]
        exact this
    obtain ⟨r1, f1, g1, z1⟩ := at4 (w := ("month" : Str)) (by decide +kernel)
    obtain ⟨r2, f2, g2, z2⟩ := at4 (w := ("year" : Str)) (by decide +kernel)
    obtain ⟨r3, f3, g3, z3⟩ := at4 (w := ("moon" : Str)) (by decide +kernel)
    obtain ⟨r4, f4, g4, z4⟩ := at4 (w := ("mark" : Str)) (by decide +kernel)
    rw [ee] at qg qc
    refine ⟨_, rfl, D, _, rfl, f1, _, rfl, D, _, rfl, f2, _, rfl, D, _, rfl, f3, _, rfl, D, _, rfl, f4, made_cx g1.rv g2.rv (.inr g3.rv) (.inr g4.rv) ⟨z1, z2, z3, z4⟩ (fun ft p H3 s3 hc => ?_) (fun nf d' H3 nd' s3 e3 => ?_)⟩
    · exact qg (by unfold endF; rw [if_pos ft]) p H3 _ _ _ _ (s2'.trans s3) hc
    · exact qc _ (by unfold endF; rw [if_neg nf]) d' H3 (s2'.free nd') (s2'.trans s3) e3
end
abbrev rAddS : R2 := fun x y H Q => ∃ i j, x = .str i ∧ y = .str j ∧ i.length + j.length ≤ sizeLine ∧ Q (.str (i ++ j)) H
def txS (q : Rat) : Str := if q.den = 1 then Str.ofString (toString q.num) else ((Str.ofString (toString q.num)) ++ ("/" : Str)) ++ Str.ofString (toString (q.den : Int))
theorem txS_eq (q : Rat) : shS q = txS q := by
  unfold shS txS
  split
  · rw [numT_str]
  · refine str_ext ?_
    simp only [app_cps, numT_str, emp_cps, List.nil_append]
theorem sz_log' {n : Nat} {i : Int} (h : Sz n i) (h0 : 0 < n := by decide) (hn : n ≤ 1920 := by decide) : i.natAbs.log2 < 1920 := by
  by_cases z : i.natAbs = 0
  · rw [z]
    decide
  · exact Nat.lt_of_lt_of_le ((Nat.log2_lt z).mpr h) hn
theorem lsd_len10 : ∀ (k n : Nat), n < 10 ^ k → 0 < k → (lsd 10 n).length ≤ k := fun k => by
  induction k with
  | zero => intro n h h0; omega
  | succ k ih =>
    intro n h h0
    by_cases hn : n < 10
    · rw [lsd_lt hn]
      simp
    · rw [lsd_ge (by decide) (by omega), List.length_cons]
      have h2 : n / 10 < 10 ^ k := by rw [Nat.pow_succ] at h; omega
      by_cases hk : 0 < k
      · have := ih (n / 10) h2 hk
        omega
      · have e0 : k = 0 := by omega
        subst e0
        have h3 : n / 10 < 1 := h2
        omega
theorem numT_len10 {i : Int} {k : Nat} (h : i.natAbs < 10 ^ k) (h0 : 0 < k := by decide) : (numT 10 i).length ≤ k + 1 := by
  have h1 := lsd_len10 k i.natAbs h h0
  unfold numT
  split
  · rw [dash_txt_len, List.length_reverse]
    omega
  · rw [txt_len, List.length_reverse]
    omega
theorem int_len {i : Int} (h : Sz 73 i) : (Str.ofString (toString i)).length ≤ 23 := by
  rw [numT_str]
  exact numT_len10 (k := 22) (Nat.lt_of_lt_of_le h (by decide))
theorem txS_len {q : Rat} (z : Rz 70 q) : (shS q).length ≤ 47 := by
  rw [txS_eq]
  unfold txS
  have h1 := int_len (z.1.mono (m := 73) (by decide))
  have h2 := int_len (z.2.mono (m := 73) (by decide))
  have h3 : ("/" : Str).length ≤ 1 := lit_len
  split
  · omega
  · have := ap_len (ap_len h1 h3) h2
    omega
theorem le5 {a b : Str} {n m : Nat} (ha : a.length ≤ n) (hb : b.length ≤ m) (h : n + m ≤ 5000 := by decide) : a.length + b.length ≤ sizeLine := Nat.le_trans (Nat.add_le_add ha hb) (Nat.le_trans h (by decide))
def spTx75 : Sp := fun vs H Q _ => ∃ (p : Addr) (q : Rat), vs = [.ref p] ∧ Tp H p q ∧ Rz 70 q ∧ Q (.str (shS q)) H
theorem fo_at {H : Hp} {a b c d : Addr} {m y o k : Rat} (h1 : Tp H a m) (h2 : Tp H b y) (h3 : Tp H c o) (h4 : Tp H d k) {i : Nat} {x : V} (hi : [V.ref a, V.ref b, V.ref c, V.ref d][i]? = some x) : ∃ (t : Addr) (q : Rat), x = V.ref t ∧ [m, y, o, k][i]? = some q ∧ Tp H t q := by
  match i, hi with
  | 0, hi => cases hi; exact ⟨a, m, rfl, rfl, h1⟩
  | 1, hi => cases hi; exact ⟨b, y, rfl, rfl, h2⟩
  | 2, hi => cases hi; exact ⟨c, o, rfl, rfl, h3⟩
  | 3, hi => cases hi; exact ⟨d, k, rfl, rfl, h4⟩
  | j + 4, hi => simp at hi
section
variable {P : Program} {w : World} {K : PySem.W.Frag} {mg : Str → Option Value} {base : Heap} {C Cc : Addr}
theorem ok_ltx75 (D : Df K mg "_law_share_text" s_l_share_text []) (g_str : mg "str" = none) : Ca P w K mg base CX0 1 "_law_share_text" s_l_share_text [] ["_law_fraction"] spTx75 := by
  refine ca0 (k := 0) D c_l_share_text (fun vs H Q E h => ?_) fun f cdv A outer s H vs Q E hr h => ?_
  · obtain ⟨p, q, rfl, _⟩ := h
    rfl
  · obtain ⟨p, x, rfl, hp, zx, q⟩ := h
    refine ⟨_, (pss_cons (ps_if (pt_cmpR op_eq (pe_ix ix_tup (pv 0) pe_int (fun _ _ => rfl)) pe_int (nomark _)) (pss_one (ps_ret (pe_callTy call_str_int rfl g_str (by decide +kernel) (pa_cons (pe_ix ix_tup (pv 0) pe_int (fun _ _ => rfl)) pa_nil)))) pss_nil)
      (pss_one (ps_ret (pe_op op_add_str (pe_op op_add_str (pe_callTy call_str_int rfl g_str (by decide +kernel) (pa_cons (pe_ix ix_tup (pv 0) pe_int (fun _ _ => rfl)) pa_nil)) pe_str) (pe_callTy call_str_int rfl g_str (by decide +kernel) (pa_cons (pe_ix ix_tup (pv 0) pe_int (fun _ _ => rfl)) pa_nil)))))), ?_⟩
    have hT := SqT.of (K := K) hp
    have l1 := int_len (zx.1.mono (m := 73) (by decide))
    have l3 : ("/" : Str).length ≤ 1 := lit_len
    have l2 := int_len (zx.2.mono (m := 73) (by decide))
    rw [txS_eq] at q
    unfold txS at q
    refine ⟨_, rfl, p, _, _, _, rfl, rfl, hT, rfl, rfl, _, rfl, ?_⟩
    by_cases hd : x.den = 1
    · rw [if_pos hd] at q
      rw [decide_eq_true (show V.int (x.den : Int) = V.int 1 by rw [hd]; rfl)]
      exact iteT ⟨_, rfl, p, _, _, _, rfl, rfl, hT, rfl, _, rfl, sz_log' zx.1, q⟩
    · rw [if_neg hd] at q
      rw [decide_eq_false (show ¬ V.int (x.den : Int) = V.int 1 from fun z => hd (by have := V.int.inj z; omega))]
      exact iteF ⟨_, rfl, p, _, _, _, rfl, rfl, hT, rfl, _, rfl, sz_log' zx.1, _, _, rfl, rfl, le5 l1 l3, _, rfl, p, _, _, _, rfl, rfl, hT, rfl, _, rfl, sz_log' zx.2, _, _, rfl, rfl, le5 (ap_len l1 l3) l2, q⟩
end
/-! ### short texts of plain signs -/
structure Sb (y : Str) (n : Nat) : Prop where
  len : y.length ≤ n
  asc : ∀ c ∈ y.cps.toList, c < 128
theorem Sb.mono {y : Str} {n m : Nat} (h : Sb y n) (hm : n ≤ m) : Sb y m := ⟨Nat.le_trans h.len hm, h.asc⟩
theorem Sb.lit {s : Str} {n : Nat} (h : (Nat.ble s.length n && s.cps.toList.all (fun c => decide (c < 128))) = true := by decide +kernel) : Sb s n := by
  rw [Bool.and_eq_true] at h
  exact ⟨Nat.le_of_ble_eq_true h.1, fun c hc => of_decide_eq_true (List.all_eq_true.mp h.2 c hc)⟩
theorem Sb.app {a b : Str} {n m k : Nat} (ha : Sb a n) (hb : Sb b m) (hk : n + m ≤ k) : Sb (a ++ b) k := by
  refine ⟨Nat.le_trans (ap_len ha.len hb.len) hk, fun c hc => ?_⟩
  rw [app_cps] at hc
  rcases List.mem_append.mp hc with h | h
  · exact ha.asc c h
  · exact hb.asc c h
theorem Sb.self {y : Str} {n : Nat} (h : Sb y n) : Sb y y.length := ⟨Nat.le_refl _, h.asc⟩
theorem wr_asc {t : Str} (h : Wr 10 t) : ∀ c ∈ t.cps.toList, c < 128 := by
  intro c hm
  have hall := h.all
  unfold unm at hall
  cases hd : hasD t.cps.toList with
  | true =>
    rw [hd] at hall
    cases ht : t.cps.toList with
    | nil =>
      rw [ht] at hm
      cases hm
    | cons x xs =>
      rw [ht] at hm hall hd
      have hx : x = 45 := by
        unfold hasD at hd
        simpa using hd
      rcases List.mem_cons.mp hm with z | z
      · omega
      · have := ten_fv.mp (hall c (by simpa using z))
        omega
  | false =>
    rw [hd] at hall
    have := ten_fv.mp (hall c (by simpa using hm))
    omega
theorem shS_sb {q : Rat} (z : Rz 70 q) : Sb (shS q) 47 := by
  refine ⟨txS_len z, fun c hm => ?_⟩
  have hn : ∀ i : Int, ∀ c ∈ (numT 10 i).cps.toList, c < 128 := fun i => wr_asc (wr_num (by decide) (by decide) i)
  unfold shS at hm
  split at hm
  · exact hn _ c hm
  · rw [app_cps, app_cps, app_cps] at hm
    have e47 : ("/" : Str).cps.toList = [47] := by decide +kernel
    rw [emp_cps, e47, List.nil_append] at hm
    rcases List.mem_append.mp hm with h | h
    · rcases List.mem_append.mp h with h | h
      · exact hn _ c h
      · have := List.mem_singleton.mp h
        omega
    · exact hn _ c h
/-- a text cut at its first blank -/
theorem Sb.part {t : Str} {n : Nat} (h : Sb t n) : ∃ a b c : Str, Txt.partition t (" " : Str) = (a, b, c) ∧ Sb a a.length ∧ Sb b 1 ∧ Sb c c.length ∧ a.length + (b.length + c.length) ≤ n ∧ (b.length = 1 ∨ (b.length = 0 ∧ c.length = 0)) := by
  rcases part_cases bl_tl t with ⟨e, _⟩ | ⟨a, b, e, ht, _⟩
  · refine ⟨_, _, _, e, h.self, Sb.lit, Sb.lit, ?_, .inr ⟨rfl, rfl⟩⟩
    have h0 : Str.empty.length = 0 := rfl
    rw [h0]
    have := h.len
    omega
  · have hl := h.len
    have ha := h.asc
    rw [ht] at hl ha
    rw [str_app_len, str_app_len] at hl
    have e1 : (" " : Str).length = 1 := by decide +kernel
    refine ⟨_, _, _, e, ⟨Nat.le_refl _, fun c hc => ha c ?_⟩, Sb.lit, ⟨Nat.le_refl _, fun c hc => ha c ?_⟩, by omega, .inl e1⟩
    · rw [app_cps, app_cps]
      exact List.mem_append_left _ (List.mem_append_left _ hc)
    · rw [app_cps]
      exact List.mem_append_right _ hc
theorem Sb.upper {t : Str} {n : Nat} (h : Sb t n) : Sb (Txt.upper t) n := by
  rw [PyProof.Rows.upper_ascii h.asc]
  have hu : ∀ c, c < 128 → PyProof.Rows.up1 c < 128 := by decide +kernel
  constructor
  · show (t.cps.map PyProof.Rows.up1).size ≤ n
    rw [Array.size_map]
    exact h.len
  · intro c hc
    have hc' : c ∈ (t.cps.map PyProof.Rows.up1).toList := hc
    rw [Array.toList_map] at hc'
    obtain ⟨x, hx, rfl⟩ := List.mem_map.mp hc'
    exact hu x (h.asc x hx)
/-- at a a list of at most k such texts -/
def Ls (H : Hp) (a : Addr) (k B : Nat) : Prop := ∃ ys : List Str, H a = some (.lst (ys.map V.str)) ∧ ys.length ≤ k ∧ ∀ y ∈ ys, Sb y B
theorem Ls.same {H H1 : Hp} {a : Addr} {k B : Nat} (h : Ls H a k B) (s : Same H H1) : Ls H1 a k B := by
  obtain ⟨ys, e, h1, h2⟩ := h
  exact ⟨ys, s _ _ e, h1, h2⟩
theorem ls_ne {H : Hp} {a l : Addr} {n : Nat} {ys : List Str} (e : H a = some (.lst (ys.map V.str))) (d : Dr H l n) : a ≠ l := by
  obtain ⟨v0, v1, v2, el, _⟩ := d
  refine ne_of e el fun z => ?_
  injection z with z1
  cases ys with
  | nil => cases z1
  | cons y ys =>
    rw [List.map_cons] at z1
    injection z1 with z2
    cases z2
theorem Ls.but {H H1 : Hp} {a l : Addr} {k B n : Nat} (h : Ls H a k B) (b : But l H H1) (d : Dr H l n) : Ls H1 a k B := by
  obtain ⟨ys, e, h1, h2⟩ := h
  exact ⟨ys, b _ _ (ls_ne e d) e, h1, h2⟩
theorem pickS {ys : List Str} {z : Int} {P : Str → Prop} (h0 : 0 ≤ z) (h1 : z < ys.length) (h : ∀ y ∈ ys, P y) : ∃ y, atI (ys.map V.str) z = some (.str y) ∧ P y := by
  obtain ⟨v, e, y, rfl, p⟩ := pick (P := fun x => ∃ y : Str, x = V.str y ∧ P y) (xs := ys.map V.str) h0 (by rw [List.length_map]; exact h1) (by
    intro x hx
    obtain ⟨y, hy, rfl⟩ := List.mem_map.mp hx
    exact ⟨y, rfl, h y hy⟩)
  exact ⟨y, e, p⟩
def spNoSh : Sp := fun vs H Q _ => ∃ (l : Addr) (n : Nat) (wd : Str), vs = [.ref l, .str wd] ∧ Dr H l n ∧ n ≤ 900 ∧ Sb wd wd.length ∧ wd.length ≤ 450 ∧ ∀ (y : Str) (H' : Hp), Sb y (max (2 * wd.length + 1) 4) → But l H H' → Dr H' l (n + 1) → Q (.str y) H'
structure R4 (m y o k : Rat) : Prop where
  zm : Rz 70 m
  zy : Rz 70 y
  zo : Rz 70 o
  zk : Rz 70 k
theorem R4.z4 {m y o k : Rat} (g : R4 m y o k) {i : Nat} {x : Rat} (hx : [m, y, o, k][i]? = some x) : Rz 70 x := by
  match i, hx with
  | 0, hx => cases hx; exact g.zm
  | 1, hx => cases hx; exact g.zy
  | 2, hx => cases hx; exact g.zo
  | 3, hx => cases hx; exact g.zk
  | j + 4, hx => simp at hx
def spFb : Sp := fun vs H Q _ => ∃ (l r : Addr) (n : Nat) (m y o k : Rat), vs = [.ref l, .ref r] ∧ Dr H l n ∧ n ≤ 900 ∧ Fo H r m y o k ∧ R4 m y o k ∧ ∀ (r' : Addr) (H' : Hp) (m' y' o' k' : Rat), Fo H' r' m' y' o' k' → R4 m' y' o' k' → But l H H' → Dr H' l (n + 1) → Q (.ref r') H'
def spLn76 : Sp := fun vs H Q _ => ∃ (l : Addr), vs = [.ref l] ∧ Dr H l 0 ∧ ∀ (a : Addr) (H' : Hp), Ls H' a 4 53 → But l H H' → Dr H' l 100 → Q (.ref a) H'
/-- a pair of fractions, as they are written -/
def Bg (H : Hp) (x : V) : Prop := ∃ (r a c : Addr) (i j : Int) (y : Rat), x = .ref r ∧ H r = some (.tup [.ref a, .ref c]) ∧ H a = some (.tup [.int i, .int j]) ∧ 0 < j ∧ Sz 70 i ∧ Sz 70 j ∧ Tp H c y ∧ Rz 70 y
theorem Bg.same {H H1 : Hp} {x : V} (h : Bg H x) (s : Same H H1) : Bg H1 x := by
  obtain ⟨r, a, c, i, j, y, e, h1, h2, h3, h4, h5, h6, h7⟩ := h
  exact ⟨r, a, c, i, j, y, e, s _ _ h1, s _ _ h2, h3, h4, h5, h6.same s, h7⟩
section
variable {P : Program} {w : World} {K : PySem.W.Frag} {mg : Str → Option Value} {base : Heap}
theorem ok_lnosh (D : Df K mg "_law_no_share" s_l_no_share []) (f_l_next : Ca P w K mg base CX0 1 "_law_next" s_l_next [] ["_law_draws_here"] spNext) : Ca P w K mg base CX0 2 "_law_no_share" s_l_no_share [] ["_law_draws_here", "_law_word"] spNoSh := by
  refine ca0 (k := 1) D c_l_no_share (fun vs H Q E h => ?_) fun f cdv A outer s H vs Q E hr h => ?_
  · obtain ⟨l, n, wd, rfl, _⟩ := h
    rfl
  · obtain ⟨l, n, wd, rfl, d, hn, hw, hl, q⟩ := h
    refine ⟨_, (pss_cons (ps_set (i := 2) c_l_no_share.nd rfl (.inl rfl) (pe_lst (pa_cons (pe_op op_add_str (pv 1) pe_str) (pa_cons (pe_op op_add_str (pe_op op_add_str (pv 1) pe_str) (pv 1)) (pa_cons pe_str (pa_cons pe_str (pa_cons pe_str (pa_cons pe_str (pa_cons pe_str (pa_cons pe_str (pa_cons pe_str (pa_cons pe_str (pa_cons pe_str (pa_cons pe_str (pa_cons pe_str (pa_cons pe_str pa_nil))))))))))))))))
      (pss_cons (ps_set (i := 2) c_l_no_share.nd rfl (.inl rfl) (pe_op op_cat (pv 2) (pe_lst (pa_cons pe_str (pa_cons pe_str (pa_cons pe_str (pa_cons pe_str (pa_cons pe_str (pa_cons pe_str (pa_cons (pe_op op_add_str (pv 1) pe_str) (pa_cons (pe_op op_add_str (pe_op op_add_str pe_str (pv 1)) pe_str) pa_nil)))))))))))
      (pss_one (ps_ret (pe_ix ix_list (pv 2) (pe_op op_mod (pe_ca f_l_next b_l_next hr (by decide) pass0 rfl (pa_cons (pv 0) pa_nil)) pe_int) (fun _ _ => rfl)))))), ?_⟩
    have lw : wd.length ≤ 450 := hl
    have l1 : (" " : Str).length ≤ 1 := lit_len
    have l3 : ("/3" : Str).length ≤ 2 := lit_len
    have ld : ("-" : Str).length ≤ 1 := lit_len
    have le : ∀ {a b : Str} {n m : Nat}, a.length ≤ n → b.length ≤ m → n + m ≤ 5000 → a.length + b.length ≤ sizeLine := fun ha hb h => Nat.le_trans (Nat.add_le_add ha hb) (Nat.le_trans h (by decide))
    have a1 := ap_len lw l1
    refine ⟨_, rfl, _, _, rfl, rfl, le lw l1 (by decide), _, rfl, _, _, rfl, rfl, le lw l1 (by decide), _, rfl, _, _, rfl, rfl, le a1 lw (by decide), ln _, fun p1 n1 => ?_⟩
    refine ⟨_, rfl, _, rfl, _, _, rfl, rfl, le lw l3 (by decide), _, rfl, _, _, rfl, rfl, le ld lw (by decide), _, _, rfl, rfl, le (ap_len ld lw) l1 (by decide), ln _, fun p2 n2 => ?_⟩
    have ne12 : p1 ≠ p2 := ne_of_none upd_same n2
    refine ⟨p1, p2, _, _, rfl, rfl, (by rw [upd_ne ne12]; exact upd_same), upd_same, (by show 22 ≤ sizeLine; decide), fun p3 n3 => ?_⟩
    have s1 := Same.new (o := .lst ([(wd ++ (" " : Str)), (wd ++ (" " : Str)) ++ wd, ("1/0" : Str), ("2/2" : Str), ("" : Str), ("-" : Str), ("/" : Str), ("1/1" : Str), ("01" : Str), ("1.5" : Str), (" 1" : Str), ("1 " : Str), ("+1" : Str), ("1_0" : Str)].map V.str)) n1
    have s2 := Same.new (o := .lst ([("3/-2" : Str), ("4/6" : Str), ("-0" : Str), ("x" : Str), ("1//2" : Str), ("0x1" : Str), wd ++ ("/3" : Str), (("-" : Str) ++ wd) ++ (" " : Str)].map V.str)) n2
    have s3 := Same.new (o := .lst (([(wd ++ (" " : Str)), (wd ++ (" " : Str)) ++ wd, ("1/0" : Str), ("2/2" : Str), ("" : Str), ("-" : Str), ("/" : Str), ("1/1" : Str), ("01" : Str), ("1.5" : Str), (" 1" : Str), ("1 " : Str), ("+1" : Str), ("1_0" : Str), ("3/-2" : Str), ("4/6" : Str), ("-0" : Str), ("x" : Str), ("1//2" : Str), ("0x1" : Str), wd ++ ("/3" : Str), (("-" : Str) ++ wd) ++ (" " : Str)] : List Str).map V.str)) n3
    have s13 := s1.trans (s2.trans s3)
    have e3 : ∀ {Hx : Hp}, L2.upd Hx p3 (.lst (([(wd ++ (" " : Str)), (wd ++ (" " : Str)) ++ wd, ("1/0" : Str), ("2/2" : Str), ("" : Str), ("-" : Str), ("/" : Str), ("1/1" : Str), ("01" : Str), ("1.5" : Str), (" 1" : Str), ("1 " : Str), ("+1" : Str), ("1_0" : Str), ("3/-2" : Str), ("4/6" : Str), ("-0" : Str), ("x" : Str), ("1//2" : Str), ("0x1" : Str), wd ++ ("/3" : Str), (("-" : Str) ++ wd) ++ (" " : Str)] : List Str).map V.str)) p3 = some (.lst (([(wd ++ (" " : Str)), (wd ++ (" " : Str)) ++ wd, ("1/0" : Str), ("2/2" : Str), ("" : Str), ("-" : Str), ("/" : Str), ("1/1" : Str), ("01" : Str), ("1.5" : Str), (" 1" : Str), ("1 " : Str), ("+1" : Str), ("1_0" : Str), ("3/-2" : Str), ("4/6" : Str), ("-0" : Str), ("x" : Str), ("1//2" : Str), ("0x1" : Str), wd ++ ("/3" : Str), (("-" : Str) ++ wd) ++ (" " : Str)] : List Str).map V.str)) := fun {Hx} => upd_same
    refine ⟨_, rfl, _, rfl, l, n, rfl, d.same s13 (Nat.le_refl _), by omega, fun v H4 v0 v1 b4 d4 => ?_⟩
    have w0 := Int.emod_nonneg v (show (22 : Int) ≠ 0 by decide)
    have w1 := Int.emod_lt_of_pos v (show (0 : Int) < 22 by decide)
    obtain ⟨y, hy, hP⟩ := pickS (P := fun y => Sb y (max (2 * wd.length + 1) 4)) (z := v % 22) w0 (ys := [(wd ++ (" " : Str)), (wd ++ (" " : Str)) ++ wd, ("1/0" : Str), ("2/2" : Str), ("" : Str), ("-" : Str), ("/" : Str), ("1/1" : Str), ("01" : Str), ("1.5" : Str), (" 1" : Str), ("1 " : Str), ("+1" : Str), ("1_0" : Str), ("3/-2" : Str), ("4/6" : Str), ("-0" : Str), ("x" : Str), ("1//2" : Str), ("0x1" : Str), wd ++ ("/3" : Str), (("-" : Str) ++ wd) ++ (" " : Str)]) w1 (by
      have big : 4 ≤ max (2 * wd.length + 1) 4 := Nat.le_max_right _ _
      have bg : wd.length + 2 ≤ max (2 * wd.length + 1) 4 := by omega
      intro y hy
      simp only [List.mem_cons, List.not_mem_nil, or_false] at hy
      rcases hy with rfl | rfl | rfl | rfl | rfl | rfl | rfl | rfl | rfl | rfl | rfl | rfl | rfl | rfl | rfl | rfl | rfl | rfl | rfl | rfl | rfl | rfl
      · exact hw.app (m := 1) Sb.lit (by omega)
      · exact (hw.app (m := 1) (k := wd.length + 1) Sb.lit (by omega)).app hw (by omega)
      all_goals first
        | exact (Sb.lit (n := 4)).mono big
        | exact hw.app (m := 2) Sb.lit (by omega)
        | exact ((Sb.lit (n := 1)).app hw (k := wd.length + 1) (by omega)).app (m := 1) Sb.lit (by omega))
    have ne3 : p3 ≠ l := ls_ne e3 (d.same s13 (Nat.le_refl _))
    refine ⟨_, _, rfl, rfl, md, p3, _, _, _, rfl, rfl, SqL.of (b4 _ _ ne3 e3), hy, ?_⟩
    exact q y H4 hP ((But.same s13).trans b4) d4
end
/-! ### fractions that may make no calendar, and their lines -/
theorem tp_int {H : Hp} {t : Addr} (i : Int) : Tp (L2.upd H t (.tup [.int i, .int 1])) t (i : Rat) := upd_same
theorem q765 : (⟨765, 2, by decide, by decide⟩ : Rat).num = 765 := rfl
section
variable {P : Program} {w : World} {K : PySem.W.Frag} {mg : Str → Option Value} {base : Heap}
theorem ok_lfb (D : Df K mg "_law_four_bent" s_l_four_bent []) (f_l_next : Ca P w K mg base CX0 1 "_law_next" s_l_next [] ["_law_draws_here"] spNext) (f_l_low : Ca P w K mg base CX0 1 "_law_low" s_l_low [] ["_law_top", "_law_bottom"] spLow) : Ca P w K mg base CX0 2 "_law_four_bent" s_l_four_bent [] ["_law_draws_here", "_law_four_here"] spFb := by
  refine ca0 (k := 1) D c_l_four_bent (fun vs H Q E h => ?_) fun f cdv A outer s H vs Q E hr h => ?_
  · obtain ⟨l, r, n, m, y, o, k, rfl, _⟩ := h
    rfl
  · obtain ⟨l, r, n, m, y, o, k, rfl, d, hn, fo, g, q⟩ := h
    refine ⟨_, (pss_cons (ps_set (i := 2) c_l_four_bent.nd rfl (.inl rfl) (pe_ca f_l_next b_l_next hr (by decide) pass0 rfl (pa_cons (pv 0) pa_nil)))
      (pss_cons (ps_set (i := 3) c_l_four_bent.nd rfl (.inl rfl) (pe_lst (pa_cons (pe_tup (pa_cons (pe_tup (pa_cons (pe_op op_sub (pe_op op_mod (pe_op op_fdiv (pv 2) pe_int) pe_int) pe_int) (pa_cons pe_int pa_nil))) (pa_cons (pe_ix ix_tup (pv 1) pe_int (fun _ _ => rfl)) pa_nil))) (pa_cons (pe_tup (pa_cons (pe_ix ix_tup (pv 1) pe_int (fun _ _ => rfl)) (pa_cons (pe_tup (pa_cons (pe_op op_mod (pe_op op_fdiv (pv 2) pe_int) pe_int) (pa_cons pe_int pa_nil))) pa_nil))) (pa_cons (pe_tup (pa_cons (pe_ix ix_tup (pv 1) pe_int (fun _ _ => rfl)) (pa_cons (pe_tup (pa_cons (pe_op op_mul pe_int (pe_op op_mod (pe_op op_fdiv (pv 2) pe_int) pe_int)) (pa_cons pe_int pa_nil))) pa_nil))) pa_nil)))))
      (pss_cons (ps_set (i := 3) c_l_four_bent.nd rfl (.inl rfl) (pe_op op_cat (pv 3) (pe_lst (pa_cons (pe_tup (pa_cons (pe_tup (pa_cons pe_int (pa_cons pe_int pa_nil))) (pa_cons (pe_tup (pa_cons pe_int (pa_cons pe_int pa_nil))) pa_nil))) (pa_cons (pe_tup (pa_cons (pe_tup (pa_cons pe_int (pa_cons pe_int pa_nil))) (pa_cons (pe_tup (pa_cons pe_int (pa_cons pe_int pa_nil))) pa_nil))) (pa_cons (pe_tup (pa_cons (pe_tup (pa_cons pe_int (pa_cons pe_int pa_nil))) (pa_cons (pe_tup (pa_cons pe_int (pa_cons pe_int pa_nil))) pa_nil))) (pa_cons (pe_tup (pa_cons (pe_tup (pa_cons pe_int (pa_cons pe_int pa_nil))) (pa_cons (pe_tup (pa_cons pe_int (pa_cons pe_int pa_nil))) pa_nil))) pa_nil)))))))
      (pss_cons (ps_expr (pe_bm PySem.F.plainAttrs_list PySem.F.slot_list_append PySem.F.type_list_append mt_append (pv 3) (pa_cons (pe_tup (pa_cons (pe_tup (pa_cons pe_int (pa_cons pe_int pa_nil))) (pa_cons (pe_tup (pa_cons pe_int (pa_cons pe_int pa_nil))) pa_nil))) pa_nil)))
      (pss_cons (ps_asg (pe_ix ix_list (pv 3) (pe_op op_mod (pv 2) pe_int) (fun _ _ => rfl)) (pg_tup rfl (pgs_cons (pg_name (i := 4) c_l_four_bent.nd rfl (.inl rfl)) (pgs_cons (pg_name (i := 5) c_l_four_bent.nd rfl (.inl rfl)) pgs_nil))))
      (pss_one (ps_ret (pe_tup (pa_cons (pe_ca f_l_low b_l_low hr (by decide) pass0 rfl (pa_cons (pe_ix ix_tup (pv 4) pe_int (fun _ _ => rfl)) (pa_cons (pe_ix ix_tup (pv 4) pe_int (fun _ _ => rfl)) pa_nil))) (pa_cons (pv 5) (pa_cons (pe_ix ix_tup (pv 1) pe_int (fun _ _ => rfl)) (pa_cons (pe_ix ix_tup (pv 1) pe_int (fun _ _ => rfl)) pa_nil)))))))))))), ?_⟩
    refine ⟨_, rfl, l, n, rfl, d, by omega, fun v H1 v0 v1 b1 d1 => ?_⟩
    obtain ⟨a, b, c, e4, e, h1, h2, h3, h4⟩ := fo.but b1 d
    have w1 := Int.emod_nonneg (v / 8) (show (3 : Int) ≠ 0 by decide)
    have w2 := Int.emod_lt_of_pos (v / 8) (show (0 : Int) < 3 by decide)
    have w3 := Int.emod_nonneg (v / 8) (show (30 : Int) ≠ 0 by decide)
    have w4 := Int.emod_lt_of_pos (v / 8) (show (0 : Int) < 30 by decide)
    have w5 := Int.emod_nonneg (v / 8) (show (40 : Int) ≠ 0 by decide)
    have w6 := Int.emod_lt_of_pos (v / 8) (show (0 : Int) < 40 by decide)
    have k1 : Sz 70 (v / 8 % 3 - 1) := Sz.of (by omega) (by omega)
    have k2 : Rz 70 ((v / 8 % 30 : Int) : Rat) := Rz.int (Sz.of (by omega) (by omega)) (by decide)
    have k3 : Rz 70 ((12 * (v / 8 % 40) : Int) : Rat) := Rz.int (Sz.of (by omega) (by omega)) (by decide)
    -- three pairs
    refine ⟨_, rfl, _, _, rfl, rfl, ⟨by decide, by decide⟩, _, _, rfl, rfl, md, _, _, rfl, rfl, ln _, fun t1 n1 => ?_⟩
    have s1 := Same.new (o := .tup [.int (v / 8 % 3 - 1), .int 2]) n1
    refine ⟨_, rfl, r, _, _, _, rfl, rfl, SqT.of (s1 _ _ e), rfl, ln _, fun p1 m1 => ?_⟩
    have s2 := Same.new (o := .tup [.ref t1, .ref b]) m1
    have B1 : Bg _ (.ref p1) := ⟨p1, t1, b, _, _, y, rfl, upd_same, s2 _ _ (upd_same (H := H1) (a := t1) (o := .tup [.int (v / 8 % 3 - 1), .int 2])), by decide, k1, szi 2, (h2.same s1).same s2, g.zy⟩
    have S2 := s1.trans s2
    generalize L2.upd (L2.upd H1 t1 _) p1 _ = H2 at *
    refine ⟨_, rfl, r, _, _, _, rfl, rfl, SqT.of (S2 _ _ e), rfl, _, rfl, _, _, rfl, rfl, ⟨by decide, by decide⟩, _, _, rfl, rfl, md, ln _, fun t2 n2 => ?_⟩
    have s3 := Same.new (o := .tup [.int (v / 8 % 30), .int 1]) n2
    refine ⟨ln _, fun p2 m2 => ?_⟩
    have s4 := Same.new (o := .tup [.ref a, .ref t2]) m2
    have aT : ∀ {Hx : Hp}, Same H1 Hx → Hx a = some (.tup [.int m.num, .int m.den]) := fun s => h1.same s
    have S4 := S2.trans (s3.trans s4)
    have B2 : Bg _ (.ref p2) := ⟨p2, a, t2, _, _, _, rfl, upd_same, aT S4, den_pos m, g.zm.1, g.zm.2, (tp_int (v / 8 % 30)).same s4, k2⟩
    replace B1 := B1.same (s3.trans s4)
    generalize L2.upd (L2.upd H2 t2 _) p2 _ = H3 at *
    refine ⟨_, rfl, r, _, _, _, rfl, rfl, SqT.of (S4 _ _ e), rfl, _, rfl, _, _, rfl, rfl, ⟨by decide, by decide⟩, _, _, rfl, rfl, md, _, _, rfl, rfl, .inl ⟨by decide, by decide⟩, ln _, fun t3 n3 => ?_⟩
    have s5 := Same.new (o := .tup [.int (12 * (v / 8 % 40)), .int 1]) n3
    refine ⟨ln _, fun p3 m3 => ?_⟩
    have s6 := Same.new (o := .tup [.ref a, .ref t3]) m3
    have S6 := S4.trans (s5.trans s6)
    have B3 : Bg _ (.ref p3) := ⟨p3, a, t3, _, _, _, rfl, upd_same, aT S6, den_pos m, g.zm.1, g.zm.2, (tp_int (12 * (v / 8 % 40))).same s6, k3⟩
    replace B1 := B1.same (s5.trans s6)
    replace B2 := B2.same (s5.trans s6)
    generalize L2.upd (L2.upd H3 t3 _) p3 _ = H4 at *
    refine ⟨ln _, fun L1 nL1 => ?_⟩
    have s7 := Same.new (o := .lst [.ref p1, .ref p2, .ref p3]) nL1
    have eL1 := upd_same (H := H4) (a := L1) (o := .lst [.ref p1, .ref p2, .ref p3])
    have S7 := S6.trans s7
    replace B1 := B1.same s7
    replace B2 := B2.same s7
    replace B3 := B3.same s7
    generalize L2.upd H4 L1 _ = H5 at *
    -- four written ones
    refine ⟨_, rfl, ln _, fun t4 n4 => ⟨ln _, fun u4 o4 => ⟨ln _, fun p4 m4 => ?_⟩⟩⟩
    have s8 := Same.new (o := .tup [.int 59, .int 2]) n4
    have s9 := Same.new (o := .tup [.int 383, .int 1]) o4
    have sA := Same.new (o := .tup [.ref t4, .ref u4]) m4
    have B4 : Bg _ (.ref p4) := ⟨p4, t4, u4, _, _, ((383 : Int) : Rat), rfl, upd_same, sA _ _ (s9 _ _ (upd_same (H := H5) (a := t4) (o := .tup [.int 59, .int 2]))), by decide, szi _, szi _, (tp_int 383).same sA, Rz.int (szi 383) (by decide)⟩
    have q8 := s8.trans (s9.trans sA)
    generalize L2.upd (L2.upd (L2.upd H5 t4 _) u4 _) p4 _ = H6 at *
    refine ⟨ln _, fun t5 n5 => ⟨ln _, fun u5 o5 => ⟨ln _, fun p5 m5 => ?_⟩⟩⟩
    have s8' := Same.new (o := .tup [.int 59, .int 2]) n5
    have s9' := Same.new (o := .tup [.int 765, .int 2]) o5
    have sA' := Same.new (o := .tup [.ref t5, .ref u5]) m5
    have B5 : Bg _ (.ref p5) := ⟨p5, t5, u5, _, _, (⟨765, 2, by decide, by decide⟩ : Rat), rfl, upd_same, sA' _ _ (s9' _ _ (upd_same (H := H6) (a := t5) (o := .tup [.int 59, .int 2]))), by decide, szi _, szi _, sA' _ _ upd_same, ⟨szi _, szi _⟩⟩
    have q9 := s8'.trans (s9'.trans sA')
    generalize L2.upd (L2.upd (L2.upd H6 t5 _) u5 _) p5 _ = H7 at *
    refine ⟨ln _, fun t6 n6 => ⟨ln _, fun u6 o6 => ⟨ln _, fun p6 m6 => ?_⟩⟩⟩
    have s8a := Same.new (o := .tup [.int 30, .int 1]) n6
    have s9a := Same.new (o := .tup [.int 389, .int 1]) o6
    have sAa := Same.new (o := .tup [.ref t6, .ref u6]) m6
    have B6 : Bg _ (.ref p6) := ⟨p6, t6, u6, _, _, ((389 : Int) : Rat), rfl, upd_same, sAa _ _ (s9a _ _ (upd_same (H := H7) (a := t6) (o := .tup [.int 30, .int 1]))), by decide, szi _, szi _, (tp_int 389).same sAa, Rz.int (szi 389) (by decide)⟩
    have q10 := s8a.trans (s9a.trans sAa)
    generalize L2.upd (L2.upd (L2.upd H7 t6 _) u6 _) p6 _ = H8 at *
    refine ⟨ln _, fun t7 n7 => ⟨ln _, fun u7 o7 => ⟨ln _, fun p7 m7 => ?_⟩⟩⟩
    have s8b := Same.new (o := .tup [.int 61, .int 2]) n7
    have s9b := Same.new (o := .tup [.int 372, .int 1]) o7
    have sAb := Same.new (o := .tup [.ref t7, .ref u7]) m7
    have B7 : Bg _ (.ref p7) := ⟨p7, t7, u7, _, _, ((372 : Int) : Rat), rfl, upd_same, sAb _ _ (s9b _ _ (upd_same (H := H8) (a := t7) (o := .tup [.int 61, .int 2]))), by decide, szi _, szi _, (tp_int 372).same sAb, Rz.int (szi 372) (by decide)⟩
    have q11 := s8b.trans (s9b.trans sAb)
    generalize L2.upd (L2.upd (L2.upd H8 t7 _) u7 _) p7 _ = H9 at *
    refine ⟨ln _, fun L2' nL2 => ?_⟩
    have sL2 := Same.new (o := .lst [.ref p4, .ref p5, .ref p6, .ref p7]) nL2
    have eL2 := upd_same (H := H9) (a := L2') (o := .lst [.ref p4, .ref p5, .ref p6, .ref p7])
    have qall := q8.trans (q9.trans (q10.trans (q11.trans sL2)))
    refine ⟨L1, L2', _, _, rfl, rfl, qall _ _ eL1, eL2, (by show 7 ≤ sizeLine; decide), fun L3 nL3 => ?_⟩
    have sL3 := Same.new (o := .lst ([.ref p1, .ref p2, .ref p3] ++ [.ref p4, .ref p5, .ref p6, .ref p7])) nL3
    have eL3 : ∀ {Hx : Hp}, L2.upd Hx L3 (.lst ([.ref p1, .ref p2, .ref p3] ++ [.ref p4, .ref p5, .ref p6, .ref p7])) L3 = some (.lst [.ref p1, .ref p2, .ref p3, .ref p4, .ref p5, .ref p6, .ref p7]) := fun {Hx} => upd_same
    have q12 := sL2.trans sL3
    replace B1 := B1.same (qall.trans sL3)
    replace B2 := B2.same (qall.trans sL3)
    replace B3 := B3.same (qall.trans sL3)
    replace B4 := B4.same (q9.trans (q10.trans (q11.trans q12)))
    replace B5 := B5.same (q10.trans (q11.trans q12))
    replace B6 := B6.same (q11.trans q12)
    replace B7 := B7.same q12
    have S12 := S7.trans (qall.trans sL3)
    have eL3' := eL3 (Hx := L2.upd H9 L2' (.lst [.ref p4, .ref p5, .ref p6, .ref p7]))
    generalize L2.upd (L2.upd H9 L2' _) L3 _ = Ha at *
    -- one more
    refine ⟨_, rfl, .inl ⟨rfl, _, SqL.of eL3'⟩, ln _, fun t8 n8 => ⟨ln _, fun u8 o8 => ⟨ln _, fun p8 m8 => ?_⟩⟩⟩
    have s8c := Same.new (o := .tup [.int 1, .int 1]) n8
    have s9c := Same.new (o := .tup [.int 12, .int 1]) o8
    have sAc := Same.new (o := .tup [.ref t8, .ref u8]) m8
    have B8 : Bg _ (.ref p8) := ⟨p8, t8, u8, _, _, ((12 : Int) : Rat), rfl, upd_same, sAc _ _ (s9c _ _ (upd_same (H := Ha) (a := t8) (o := .tup [.int 1, .int 1]))), by decide, szi _, szi _, (tp_int 12).same sAc, Rz.int (szi 12) (by decide)⟩
    have q13 := s8c.trans (s9c.trans sAc)
    replace B1 := B1.same q13
    replace B2 := B2.same q13
    replace B3 := B3.same q13
    replace B4 := B4.same q13
    replace B5 := B5.same q13
    replace B6 := B6.same q13
    replace B7 := B7.same q13
    have S13 := S12.trans q13
    have eL4 := q13 _ _ eL3'
    generalize L2.upd (L2.upd (L2.upd Ha t8 _) u8 _) p8 _ = Hb at *
    refine ⟨L3, _, _, rfl, rfl, eL4, (by show 7 < sizeLine; decide), ?_⟩
    have ap : ∀ {x : V}, Bg Hb x → Bg (L2.upd Hb L3 (.lst ([.ref p1, .ref p2, .ref p3, .ref p4, .ref p5, .ref p6, .ref p7] ++ [.ref p8]))) x := fun {x} ⟨r', a', c', i, j, y', z1, z2, z3, z4, z5, z6, z7, z8⟩ => by
      have nt : ∀ {pp : Addr} {xs : List V}, Hb pp = some (.tup xs) → L2.upd Hb L3 (.lst ([.ref p1, .ref p2, .ref p3, .ref p4, .ref p5, .ref p6, .ref p7] ++ [.ref p8])) pp = some (.tup xs) := fun {pp xs} hh => by
        rw [upd_ne (ne_of hh eL4 (by intro z; cases z))]
        exact hh
      exact ⟨r', a', c', i, j, y', z1, nt z2, nt z3, z4, z5, z6, nt z7, z8⟩
    have nt : ∀ {pp : Addr} {xs : List V}, Hb pp = some (.tup xs) → L2.upd Hb L3 (.lst ([.ref p1, .ref p2, .ref p3, .ref p4, .ref p5, .ref p6, .ref p7] ++ [.ref p8])) pp = some (.tup xs) := fun {pp xs} hh => by
      rw [upd_ne (ne_of hh eL4 (by intro z; cases z))]
      exact hh
    have w7 := Int.emod_nonneg v (show (8 : Int) ≠ 0 by decide)
    have w8 := Int.emod_lt_of_pos v (show (0 : Int) < 8 by decide)
    obtain ⟨x, hx, r', a', c', i, j, y', rfl, z2, z3, z4, z5, z6, z7, z8⟩ := pick (P := fun x => Bg (L2.upd Hb L3 (.lst ([.ref p1, .ref p2, .ref p3, .ref p4, .ref p5, .ref p6, .ref p7] ++ [.ref p8]))) x) (xs := [.ref p1, .ref p2, .ref p3, .ref p4, .ref p5, .ref p6, .ref p7, .ref p8]) w7 w8 (by
      intro x hx
      simp only [List.mem_cons, List.not_mem_nil, or_false] at hx
      rcases hx with rfl | rfl | rfl | rfl | rfl | rfl | rfl | rfl
      · exact ap B1
      · exact ap B2
      · exact ap B3
      · exact ap B4
      · exact ap B5
      · exact ap B6
      · exact ap B7
      · exact ap B8)
    have eL5 : L2.upd Hb L3 (.lst ([.ref p1, .ref p2, .ref p3, .ref p4, .ref p5, .ref p6, .ref p7] ++ [.ref p8])) L3 = some (.lst [.ref p1, .ref p2, .ref p3, .ref p4, .ref p5, .ref p6, .ref p7, .ref p8]) := upd_same
    have eF := nt (S13 _ _ e)
    have f3 : Tp (L2.upd Hb L3 (.lst ([.ref p1, .ref p2, .ref p3, .ref p4, .ref p5, .ref p6, .ref p7] ++ [.ref p8]))) c o := nt (S13 _ _ h3)
    have f4 : Tp (L2.upd Hb L3 (.lst ([.ref p1, .ref p2, .ref p3, .ref p4, .ref p5, .ref p6, .ref p7] ++ [.ref p8]))) e4 k := nt (S13 _ _ h4)
    have dB := d1.same S13 (Nat.le_refl _)
    have neL3 : L3 ≠ l := by
      obtain ⟨g0, g1, g2, el, _⟩ := dB
      refine ne_of eL4 el fun z => ?_
      injection z with z1
      injection z1 with z2
      cases z2
    have dC : Dr (L2.upd Hb L3 (.lst ([.ref p1, .ref p2, .ref p3, .ref p4, .ref p5, .ref p6, .ref p7] ++ [.ref p8]))) l (n + 1) := by
      obtain ⟨g0, g1, g2, el, rest⟩ := dB
      exact ⟨g0, g1, g2, by rw [upd_ne neL3.symm]; exact el, rest⟩
    have nLH1 : H1 L3 = none := by
      cases hh : H1 L3 with
      | none => rfl
      | some o' =>
        have := qall.trans sL3
        rw [(S7.trans qall) _ _ hh] at nL3
        cases nL3
    have bC : But l H1 (L2.upd Hb L3 (.lst ([.ref p1, .ref p2, .ref p3, .ref p4, .ref p5, .ref p6, .ref p7] ++ [.ref p8]))) := fun cc u hc he => by
      rw [upd_ne (ne_of_none he nLH1)]
      exact S13 _ _ he
    generalize L2.upd Hb L3 _ = Hc at *
    refine ⟨_, rfl, _, rfl, _, _, rfl, rfl, md, L3, _, _, _, rfl, rfl, SqL.of eL5, hx, r', _, rfl, SqT.of z2, rfl, _, _, rfl, _, _, rfl, rfl, ?_⟩
    refine ⟨_, rfl, a', _, _, _, rfl, rfl, SqT.of z3, rfl, _, rfl, a', _, _, _, rfl, rfl, SqT.of z3, rfl, i, j, rfl, by omega, z5.mono (by decide), z6.mono (by decide), fun tl ntl => ?_⟩
    have st := Same.new (o := .tup [.int (Rat.divInt i j).num, .int (Rat.divInt i j).den]) ntl
    refine ⟨_, rfl, _, rfl, r, _, _, _, rfl, rfl, SqT.of (st _ _ eF), rfl, _, rfl, r, _, _, _, rfl, rfl, SqT.of (st _ _ eF), rfl, ln _, fun r9 n9 => ?_⟩
    have s99 := Same.new (o := .tup [.ref tl, .ref c', .ref c, .ref e4]) n9
    have stt := st.trans s99
    exact q r9 _ (Rat.divInt i j) y' o k ⟨tl, c', c, e4, upd_same, s99 _ _ upd_same, z7.same stt, f3.same stt, f4.same stt⟩ ⟨Rz.divInt z5 z6 (by decide), z8, g.zo, g.zk⟩ ((b1.trans bC).trans (But.same stt)) (dC.same stt (Nat.le_refl _))
end
/-! ### lines, and lines at fault -/
theorem ne_of_none' {H : Hp} {l p : Addr} {n : Nat} (d : Dr H l n) (e : H p = none) : p ≠ l := by
  obtain ⟨_, _, _, h, _⟩ := d
  exact (ne_of_none h e).symm
theorem take_sub {ys : List Str} {B : Nat} (h : ∀ y ∈ ys, Sb y B) (i : Nat) : ∀ y ∈ ys.take i, Sb y B := fun y hy => h y (List.mem_of_mem_take hy)
theorem drop_sub {ys : List Str} {B : Nat} (h : ∀ y ∈ ys, Sb y B) (i : Nat) : ∀ y ∈ ys.drop i, Sb y B := fun y hy => h y (List.mem_of_mem_drop hy)
theorem cut_map (ys : List Str) (lo hi : Option Int) : cutV (ys.map V.str) lo hi = ((ys.drop (HT.sIx ys.length 0 lo)).take (HT.sIx ys.length ys.length hi - HT.sIx ys.length 0 lo)).map V.str := by
  unfold cutV
  rw [List.length_map, ← List.map_drop, ← List.map_take]
theorem cut_one {ys : List Str} {i : Nat} : ((ys.drop (HT.sIx ys.length 0 (some ((i : Nat) : Int)))).take (HT.sIx ys.length ys.length (some (((i : Nat) : Int) + 1)) - HT.sIx ys.length 0 (some ((i : Nat) : Int)))).length ≤ 1 := by
  have e1 : HT.sIx ys.length 0 (some ((i : Nat) : Int)) = min i ys.length := HT.sIx_nat _ _ i
  have e2 : HT.sIx ys.length ys.length (some (((i : Nat) : Int) + 1)) = min (i + 1) ys.length := HT.sIx_nat _ _ (i + 1)
  rw [e1, e2, List.length_take]
  omega
def spBent76 : Sp := fun vs H Q _ => ∃ (l a : Addr) (n k B : Nat), vs = [.ref l, .ref a] ∧ Dr H l n ∧ n ≤ 800 ∧ Ls H a k B ∧ k ≤ 10 ∧ 53 ≤ B ∧ B ≤ 212 ∧ ∀ (a' : Addr) (H' : Hp), Ls H' a' (k + 1) (2 * B) → But l H H' → Dr H' l (n + 2) → Q (.ref a') H'
section
variable {P : Program} {w : World} {K : PySem.W.Frag} {mg : Str → Option Value} {base : Heap}
theorem ok_lln76 (D : Df K mg "_law_lines" s_l_lines []) (f_l_next : Ca P w K mg base CX0 1 "_law_next" s_l_next [] ["_law_draws_here"] spNext) (f_l_four : Ca P w K mg base CX0 4 "_law_four" s_l_four [] ["_law_draws_here"] spFour) (g_zip : mg "zip" = none) (g_len : mg "len" = none) (f_l_four_bent : Ca P w K mg base CX0 2 "_law_four_bent" s_l_four_bent [] ["_law_draws_here", "_law_four_here"] spFb) (f_l_share_text : Ca P w K mg base CX0 1 "_law_share_text" s_l_share_text [] ["_law_fraction"] spTx75) : Ca P w K mg base CX0 5 "_law_lines" s_l_lines [] ["_law_draws_here"] spLn76 := by
  refine ca0 (k := 4) D c_l_lines (fun vs H Q E h => ?_) fun f cdv A outer s H vs Q E hr h => ?_
  · obtain ⟨l, rfl, _⟩ := h
    rfl
  · obtain ⟨l, rfl, d0, q⟩ := h
    refine ⟨_, (pss_cons (ps_set (i := 1) c_l_lines.nd rfl (.inl rfl) (pe_ca f_l_four b_l_four hr (by decide) pass0 rfl (pa_cons (pv 0) pa_nil)))
      (C8.pss_cut (ps_if (pt_cmpR op_eq (pe_op op_mod (pe_ca f_l_next b_l_next hr (by decide) pass0 rfl (pa_cons (pv 0) pa_nil)) pe_int) pe_int (nomark _)) (pss_one (ps_set (i := 1) c_l_lines.nd rfl (.inl rfl) (pe_ca f_l_four_bent b_l_four_bent hr (by decide) pass0 rfl (pa_cons (pv 0) (pa_cons (pv 1) pa_nil))))) pss_nil)
      (pss_cons (ps_set (i := 2) c_l_lines.nd rfl (.inl rfl) (pe_lst pa_nil))
      (pss_cons (ps_for PassesOwn.never rfl (pi_zipM rfl g_zip (pa_cons (pe_lst (pa_cons pe_str (pa_cons pe_str (pa_cons pe_str (pa_cons pe_str pa_nil))))) (pa_cons (pv 1) pa_nil))) (pg_tup rfl (pgs_cons (pg_name (i := 3) c_l_lines.nd rfl (.inl rfl)) (pgs_cons (pg_name (i := 4) c_l_lines.nd rfl (.inl rfl)) pgs_nil))) (pss_one (ps_expr (pe_bm PySem.F.plainAttrs_list PySem.F.slot_list_insert PySem.F.type_list_insert mt_insert (pv 2) (pa_cons (pe_op op_mod (pe_ca f_l_next b_l_next hr (by decide) pass0 rfl (pa_cons (pv 0) pa_nil)) (pe_op op_add (pe_callB call_len_seq rfl g_len (by decide +kernel) (pa_cons (pv 2) pa_nil)) pe_int)) (pa_cons (pe_op op_add_str (pe_op op_add_str (pv 3) pe_str) (pe_ca f_l_share_text b_l_share_text hr (by decide) pass0 rfl (pa_cons (pv 4) pa_nil))) pa_nil))))))
      (pss_one (ps_ret (pv 2))))))), ?_⟩
    refine ⟨_, rfl, l, 0, rfl, d0, by decide, fun r H1 m y o k g b1 d1 fo => ?_⟩
    refine ⟨fun σ' H' => ∃ (r' : Addr) (m' y' o' k' : Rat), σ' = [some (.ref l), some (.ref r'), none, none, none] ∧ Fo H' r' m' y' o' k' ∧ R4 m' y' o' k' ∧ But l H H' ∧ Dr H' l 60, ?_, ?_⟩
    · refine ⟨_, rfl, l, _, rfl, d1, by decide, fun v H2 v0 v1 b2 d2 => ⟨_, _, rfl, rfl, md, rfl, _, rfl, ite2 (fun _ => ?_) (fun _ => ?_)⟩⟩
      · refine ⟨_, rfl, _, rfl, l, r, _, m, y, o, k, rfl, d2, by decide, fo.but b2 d1, ⟨g.zm, g.zy, g.zo, g.zk⟩, fun r' H3 m' y' o' k' f3 g3 b3 d3 => ?_⟩
        exact ⟨r', m', y', o', k', rfl, f3, g3, (b1.trans b2).trans b3, d3.mono (by omega)⟩
      · exact ⟨r, m, y, o, k, rfl, fo.but b2 d1, ⟨g.zm, g.zy, g.zo, g.zk⟩, b1.trans b2, d2.mono (by omega)⟩
    rintro σ' H2 ⟨r, m, y, o, k, rfl, fo, g, b2, d2⟩
    obtain ⟨a, b, c, d, e, h1, h2, h3, h4⟩ := id fo
    refine ⟨ln _, fun D1 nD1 => ?_⟩
    have s1 := Same.new (o := .lst []) nD1
    have eD1 := upd_same (H := H2) (a := D1) (o := .lst [])
    have neDl : D1 ≠ l := ne_of_none' d2 nD1
    refine ⟨ln _, fun L3 n3 => ?_⟩
    have s3 := Same.new (o := .lst [.str ("month" : Str), .str ("year" : Str), .str ("moon" : Str), .str ("mark" : Str)]) n3
    have eL := upd_same (H := L2.upd H2 D1 (.lst [])) (a := L3) (o := .lst [.str ("month" : Str), .str ("year" : Str), .str ("moon" : Str), .str ("mark" : Str)])
    have s13 := s1.trans s3
    have eD3 := s3 _ _ eD1
    have d3 := d2.same s13 (Nat.le_refl _)
    have nLD : L3 ≠ D1 := fun z => by
      rw [z, upd_same] at n3
      cases n3
    have neLl : L3 ≠ l := ls_ne (ys := [("month" : Str), ("year" : Str), ("moon" : Str), ("mark" : Str)]) eL d3
    generalize L2.upd (L2.upd H2 D1 _) L3 _ = H3 at *
    refine ⟨_, rfl, L3, r, _, _, rfl, SqL.of eL, SqT.of (s13 _ _ e), ?_⟩
    refine for_it (walk_zipM (K := K) (a := L3) (b := r) (xs := [.str ("month" : Str), .str ("year" : Str), .str ("moon" : Str), .str ("mark" : Str)]) (ys := [.ref a, .ref b, .ref c, .ref d]) (n := 4) rfl rfl)
      (fun i σ Hx => ∃ (v3 v4 : Option V) (ys : List Str), σ = [some (.ref l), some (.ref r), some (.ref D1), v3, v4] ∧ But l H Hx ∧ Dr Hx l (60 + i) ∧ Hx L3 = some (.lst [.str ("month" : Str), .str ("year" : Str), .str ("moon" : Str), .str ("mark" : Str)]) ∧ Fo Hx r m y o k ∧ Hx r = some (.tup [.ref a, .ref b, .ref c, .ref d]) ∧ Tp Hx a m ∧ Tp Hx b y ∧ Tp Hx c o ∧ Tp Hx d k ∧ Hx D1 = some (.lst (ys.map V.str)) ∧ ys.length = i ∧ ∀ y ∈ ys, Sb y 53)
      ⟨_, _, [], rfl, b2.trans (But.same s13), d3, eL, fo.same s13, s13 _ _ e, h1.same s13, h2.same s13, h3.same s13, h4.same s13, eD3, rfl, fun y hy => by cases hy⟩ (fun i σ Hx _ ⟨_, _, _, _, _, _, eLx, _, eRx, _⟩ => ⟨SqL.of eLx, SqT.of eRx⟩) ?_ ?_
    · rintro i x σ Ha Hb hi ⟨v3, v4, ys, rfl, ba, da, eLa, foa, ea, h1a, h2a, h3a, h4a, eDa, lys, hys⟩ ⟨T1, u, z, rfl, nT, rfl, hu, hz⟩
      have sT := Same.new (o := .tup [u, z]) nT
      obtain ⟨t, xq, rfl, hq, ht⟩ := fo_at (h1a.same sT) (h2a.same sT) (h3a.same sT) (h4a.same sT) hz
      have zx := g.z4 hq
      obtain ⟨wd, rfl, hw⟩ : ∃ wd : Str, u = .str wd ∧ Sb wd 5 := by
        match i, hu with
        | 0, hu => cases hu; exact ⟨_, rfl, Sb.lit⟩
        | 1, hu => cases hu; exact ⟨_, rfl, Sb.lit⟩
        | 2, hu => cases hu; exact ⟨_, rfl, Sb.lit⟩
        | 3, hu => cases hu; exact ⟨_, rfl, Sb.lit⟩
        | j + 4, hu => simp at hu
      refine ⟨T1, _, rfl, SqT.of upd_same, rfl, _, _, rfl, _, _, rfl, rfl, ?_⟩
      have eDT := sT _ _ eDa
      have dT := da.same sT (Nat.le_refl _)
      have keepT : ∀ {pp : Addr} {o' : HO}, Ha pp = some o' → L2.upd Ha T1 (.tup [.str wd, .ref t]) pp = some o' := fun hh => sT _ _ hh
      generalize L2.upd Ha T1 _ = Hc at *
      have neDl' : D1 ≠ l := neDl
      refine ⟨_, rfl, .inl ⟨rfl, _, SqL.of eDT⟩, _, rfl, l, _, rfl, dT, by omega, fun v Hd v0 v1 bd dd => ?_⟩
      have eDd := bd _ _ neDl eDT
      refine ⟨_, rfl, D1, _, rfl, .inl (SqL.of eDd), _, _, rfl, rfl, ?_⟩
      have el : (((ys.map V.str).length : Nat) : Int) = (i : Int) := by rw [List.length_map, lys]
      have j0 := Int.emod_nonneg v (show (((ys.map V.str).length : Nat) : Int) + 1 ≠ 0 by omega)
      have j1 := Int.emod_lt_of_pos v (show (0 : Int) < (((ys.map V.str).length : Nat) : Int) + 1 by omega)
      have ht2 := ht.but bd dT
      have lb : (" " : Str).length ≤ 1 := lit_len
      refine ⟨_, _, rfl, rfl, (show (0 : Int) < (((ys.map V.str).length : Nat) : Int) + 1 by omega), _, rfl, _, _, rfl, rfl, le5 hw.len lb, _, rfl, t, xq, rfl, ht2, zx, _, _, rfl, rfl, le5 (ap_len hw.len lb) (txS_len zx), D1, _, _, _, rfl, rfl, eDd, (by rw [List.length_map, lys]; show i < 16777216; omega), j0, (by omega), ?_⟩
      generalize (v % ((((ys.map V.str).length : Nat) : Int) + 1)).toNat = j at *
      have sb := (hw.app (b := (" " : Str)) (m := 1) (k := 6) Sb.lit (by decide)).app (shS_sb zx) (k := 53) (by decide)
      have eins : (ys.map V.str).take j ++ [V.str ((wd ++ (" " : Str)) ++ shS xq)] ++ (ys.map V.str).drop j = (ys.take j ++ [(wd ++ (" " : Str)) ++ shS xq] ++ ys.drop j).map V.str := by
        simp only [List.map_append, List.map_take, List.map_drop, List.map_cons, List.map_nil]
      have nD1H : ∀ {pp : Addr} {o' : HO}, pp ≠ D1 → Hd pp = some o' → L2.upd Hd D1 (.lst ((ys.map V.str).take j ++ [V.str ((wd ++ (" " : Str)) ++ shS xq)] ++ (ys.map V.str).drop j)) pp = some o' := fun hne hh => by
        rw [upd_ne hne]
        exact hh
      have tne : ∀ {pp : Addr} {xs : List V}, Hd pp = some (.tup xs) → pp ≠ D1 := fun hh => ne_of hh eDd (by intro z; cases z)
      have fr := bd.tup dT (keepT ea)
      have f1 := (show Tp Hc a m from keepT h1a).but bd dT
      have f2 := (show Tp Hc b y from keepT h2a).but bd dT
      have f3 := (show Tp Hc c o from keepT h3a).but bd dT
      have f4 := (show Tp Hc d k from keepT h4a).but bd dT
      refine ⟨_, _, ys.take j ++ [(wd ++ (" " : Str)) ++ shS xq] ++ ys.drop j, rfl, ?_, ?_, ?_, ?_, ?_, ?_, ?_, ?_, ?_, ?_, ?_, ?_⟩
      · exact fun cc uu hc he => by
          have h5 := ba _ _ hc he
          by_cases z : cc = D1
          · subst z
            exact absurd (b2 _ _ hc he) (by rw [nD1]; intro z; cases z)
          · rw [upd_ne z]
            exact bd _ _ hc (keepT h5)
      · obtain ⟨w0, w1, w2, el', rest⟩ := dd
        exact ⟨w0, w1, w2, by rw [upd_ne neDl.symm]; exact el', rest⟩
      · exact nD1H nLD (bd _ _ neLl (keepT eLa))
      · exact ⟨a, b, c, d, nD1H (tne fr) fr, nD1H (tne f1) f1, nD1H (tne f2) f2, nD1H (tne f3) f3, nD1H (tne f4) f4⟩
      · exact nD1H (tne fr) fr
      · exact nD1H (tne f1) f1
      · exact nD1H (tne f2) f2
      · exact nD1H (tne f3) f3
      · exact nD1H (tne f4) f4
      · rw [upd_same, ← eins]
      · rw [List.length_append, List.length_append, List.length_take, List.length_drop]
        show min j ys.length + 1 + (ys.length - j) = i + 1
        omega
      · intro y' hy
        rcases List.mem_append.mp hy with hy | hy
        · rcases List.mem_append.mp hy with hy | hy
          · exact hys y' (List.mem_of_mem_take hy)
          · rw [List.mem_singleton.mp hy]
            exact sb
        · exact hys y' (List.mem_of_mem_drop hy)
    · rintro σ Ha ⟨v3, v4, ys, rfl, ba, da, eLa, foa, ea, h1a, h2a, h3a, h4a, eDa, lys, hys⟩
      exact ⟨_, rfl, q D1 Ha ⟨ys, eDa, by omega, hys⟩ ba (da.mono (by omega))⟩
end
/-! ### lines at fault -/
theorem tk_min (ys : List Str) (i : Nat) : ys.take (min i ys.length) = ys.take i := by
  by_cases h : i ≤ ys.length
  · rw [Nat.min_eq_left h]
  · rw [Nat.min_eq_right (by omega), List.take_length, List.take_of_length_le (by omega)]
theorem dr_min (ys : List Str) (i : Nat) : ys.drop (min i ys.length) = ys.drop i := by
  by_cases h : i ≤ ys.length
  · rw [Nat.min_eq_left h]
  · rw [Nat.min_eq_right (by omega), List.drop_length, List.drop_of_length_le (by omega)]
theorem cut_lo (ys : List Str) (i : Nat) : cutV (ys.map V.str) none (some ((i : Nat) : Int)) = (ys.take i).map V.str := by
  rw [cut_map]
  have e1 : HT.sIx ys.length 0 none = 0 := rfl
  have e2 : HT.sIx ys.length ys.length (some ((i : Nat) : Int)) = min i ys.length := HT.sIx_nat _ _ i
  rw [e1, e2, List.drop_zero, Nat.sub_zero, tk_min]
theorem cut_hi (ys : List Str) (i : Nat) : cutV (ys.map V.str) (some ((i : Nat) : Int)) none = (ys.drop i).map V.str := by
  rw [cut_map]
  have e1 : HT.sIx ys.length ys.length none = ys.length := rfl
  have e2 : HT.sIx ys.length 0 (some ((i : Nat) : Int)) = min i ys.length := HT.sIx_nat _ _ i
  rw [e1, e2, dr_min, List.take_of_length_le (by rw [List.length_drop]; omega)]
section
variable {P : Program} {w : World} {K : PySem.W.Frag} {mg : Str → Option Value} {base : Heap}
set_option maxHeartbeats 8000000 in
theorem ok_lbent76 (D : Df K mg "_law_bent" s_l_bent []) (f_l_next : Ca P w K mg base CX0 1 "_law_next" s_l_next [] ["_law_draws_here"] spNext) (g_len : mg "len" = none) (g_max : mg "max" = none) (f_l_no_share : Ca P w K mg base CX0 2 "_law_no_share" s_l_no_share [] ["_law_draws_here", "_law_word"] spNoSh) : Ca P w K mg base CX0 3 "_law_bent" s_l_bent [] ["_law_draws_here", "_law_lines_here"] spBent76 := by
  refine ca0 (k := 2) D c_l_bent (fun vs H Q E h => ?_) fun f cdv A outer s H vs Q E hr h => ?_
  · obtain ⟨l, a, n, k, B, rfl, _⟩ := h
    rfl
  · obtain ⟨l, a, n, k, B, rfl, d, hn, hL, hk, hB1, hB2, q⟩ := h
    obtain ⟨ys, ea, lys, hys⟩ := id hL
    refine ⟨_, (pss_cons (ps_set (i := 2) c_l_bent.nd rfl (.inl rfl) (pe_ca f_l_next b_l_next hr (by decide) pass0 rfl (pa_cons (pv 0) pa_nil)))
      (pss_cons (ps_set (i := 3) c_l_bent.nd rfl (.inl rfl) (pe_op op_mod (pe_op op_fdiv (pv 2) pe_int) (pe_callB (call_max2 rfl) rfl g_max (by decide +kernel) (pa_cons pe_int (pa_cons (pe_callB call_len_seq rfl g_len (by decide +kernel) (pa_cons (pv 1) pa_nil)) pa_nil)))))
      (pss_cons (ps_asg (pe_m1 PySem.F.slot_str_partition PySem.F.type_str_partition mt_partition (pe_m1 PySem.F.slot_str_join PySem.F.type_str_join mt_join pe_str (pe_slice sl_list (pv 1) (po_some (pv 3)) (po_some (pe_op op_add (pv 3) pe_int)))) pe_str) (pg_tup rfl (pgs_cons (pg_name (i := 4) c_l_bent.nd rfl (.inl rfl)) (pgs_cons (pg_name (i := 5) c_l_bent.nd rfl (.inl rfl)) (pgs_cons (pg_name (i := 6) c_l_bent.nd rfl (.inl rfl)) pgs_nil)))))
      (pss_cons (ps_set (i := 7) c_l_bent.nd rfl (.inl rfl) (pe_op op_mod (pv 2) pe_int))
      (pss_cons (ps_if (pt_cmpR op_lt (pv 7) pe_int (nomark _)) (pss_cons (ps_set (i := 8) c_l_bent.nd rfl (.inl rfl) (pe_ix ix_list (pe_lst (pa_cons pe_str (pa_cons pe_str (pa_cons pe_str (pa_cons pe_str pa_nil))))) (pe_op op_mod (pe_op op_fdiv (pv 2) pe_int) pe_int) (fun _ _ => rfl)))
      (pss_cons (ps_set (i := 9) c_l_bent.nd rfl (.inl rfl) (pe_lst (pa_cons pe_str (pa_cons pe_str (pa_cons pe_str (pa_cons pe_str (pa_cons pe_str (pa_cons pe_str (pa_cons (pv 8) (pa_cons (pv 8) (pa_cons pe_str pa_nil)))))))))))
      (pss_cons (ps_set (i := 9) c_l_bent.nd rfl (.inl rfl) (pe_op op_cat (pv 9) (pe_lst (pa_cons pe_str (pa_cons pe_str (pa_cons pe_str pa_nil))))))
      (pss_one (ps_ret (pe_op op_cat (pe_op op_cat (pe_slice sl_list (pv 1) po_none (po_some (pv 3))) (pe_lst (pa_cons (pe_ix ix_list (pv 9) (pe_op op_mod (pe_op op_fdiv (pv 2) pe_int) pe_int) (fun _ _ => rfl)) pa_nil))) (pe_slice sl_list (pv 1) (po_some (pv 3)) po_none))))))) pss_nil)
      (pss_cons (ps_if (pt_cmpR op_lt (pv 7) pe_int (nomark _)) (pss_one (ps_ret (pe_op op_cat (pe_slice sl_list (pv 1) po_none (po_some (pv 3))) (pe_slice sl_list (pv 1) (po_some (pe_op op_add (pv 3) pe_int)) po_none)))) pss_nil)
      (pss_cons (ps_if (pt_cmpR op_lt (pv 7) pe_int (nomark _)) (pss_one (ps_ret (pe_op op_cat (pe_op op_cat (pe_slice sl_list (pv 1) po_none (po_some (pv 3))) (pe_lst (pa_cons (pe_op op_add_str (pe_op op_add_str (pv 4) pe_str) (pe_ca f_l_no_share b_l_no_share hr (by decide) pass0 rfl (pa_cons (pv 0) (pa_cons (pv 6) pa_nil)))) pa_nil))) (pe_slice sl_list (pv 1) (po_some (pe_op op_add (pv 3) pe_int)) po_none)))) pss_nil)
      (pss_cons (ps_set (i := 9) c_l_bent.nd rfl (.inl rfl) (pe_lst (pa_cons (pe_op op_add_str (pe_op op_add_str (pe_op op_add_str pe_str (pv 4)) (pv 5)) (pv 6)) (pa_cons (pe_op op_add_str (pe_op op_add_str (pv 4) pe_str) (pv 6)) (pa_cons (pe_op op_add_str (pv 4) (pv 6)) (pa_cons (pe_op op_add_str (pe_op op_add_str (pe_m0 PySem.F.slot_str_upper PySem.F.type_str_upper mt_upper (pv 4)) (pv 5)) (pv 6)) (pa_cons (pv 4) (pa_cons (pe_op op_add_str (pv 4) (pv 5)) pa_nil))))))))
      (pss_cons (ps_if (pt_cmpR op_lt (pv 7) pe_int (nomark _)) (pss_one (ps_ret (pe_op op_cat (pe_op op_cat (pe_slice sl_list (pv 1) po_none (po_some (pv 3))) (pe_lst (pa_cons (pe_ix ix_list (pv 9) (pe_op op_mod (pe_op op_fdiv (pv 2) pe_int) pe_int) (fun _ _ => rfl)) pa_nil))) (pe_slice sl_list (pv 1) (po_some (pe_op op_add (pv 3) pe_int)) po_none)))) pss_nil)
      (pss_one (ps_ret (pv 1)))))))))))), ?_⟩
    refine ⟨_, rfl, l, n, rfl, d, by omega, fun v H1 v0 v1 b1 d1 => ?_⟩
    have nal := ls_ne ea d
    have ea1 := b1 _ _ nal ea
    have el : (((ys.map V.str).length : Nat) : Int) = (ys.length : Int) := by rw [List.length_map]
    -- the place
    have mx : ∃ (mz : Int), 1 ≤ mz ∧ mz ≤ 11 ∧ (if ((((ys.map V.str).length : Nat) : Int)) > 1 then ((((ys.map V.str).length : Nat) : Int)) else 1) = mz := by
      refine ⟨_, ?_, ?_, rfl⟩ <;> rw [el] <;> split <;> omega
    obtain ⟨mz, mz1, mz2, emz⟩ := mx
    have p0 := Int.emod_nonneg (v / 16) (show mz ≠ 0 by omega)
    have p1 := Int.emod_lt_of_pos (v / 16) (show 0 < mz by omega)
    obtain ⟨i, hi⟩ : ∃ i : Nat, v / 16 % mz = (i : Int) := ⟨(v / 16 % mz).toNat, by omega⟩
    refine ⟨_, rfl, _, _, rfl, rfl, ⟨by decide, by decide⟩, _, rfl, a, _, rfl, .inl (SqL.of ea1), _, _, rfl, ?_⟩
    rw [emz]
    refine ⟨_, _, rfl, rfl, (show 0 < mz by omega), ?_⟩
    show tSeq _ _ _ [_, _, _, some (V.int (v / 16 % mz)), _, _, _, _, _, _] _
    rw [hi]
    have hi12 : i ≤ 11 := by omega
    -- the line
    refine ⟨⟨_, rfl⟩, _, rfl, _, rfl, _, rfl, _, rfl, _, _, rfl, rfl, _, rfl, a, _, rfl, SqL.of ea1, fun L2' nL2 => ?_⟩
    rw [cut_map]
    have hone := cut_one (ys := ys) (i := i)
    have hsub : ∀ y ∈ ((ys.drop (HT.sIx ys.length 0 (some ((i : Nat) : Int)))).take (HT.sIx ys.length ys.length (some (((i : Nat) : Int) + 1)) - HT.sIx ys.length 0 (some ((i : Nat) : Int)))), Sb y B := fun y hy => hys y (List.mem_of_mem_drop (List.mem_of_mem_take hy))
    generalize ((ys.drop (HT.sIx ys.length 0 (some ((i : Nat) : Int)))).take (HT.sIx ys.length ys.length (some (((i : Nat) : Int) + 1)) - HT.sIx ys.length 0 (some ((i : Nat) : Int)))) = zs at *
    have s2 := Same.new (o := .lst (zs.map V.str)) nL2
    have e2 := upd_same (H := H1) (a := L2') (o := .lst (zs.map V.str))
    have sbj : Sb (Txt.join ("" : Str) zs) B := by
      match zs, hone, hsub with
      | [], _, _ => exact (Sb.lit (s := Txt.join ("" : Str) []) (n := 0)).mono (by omega)
      | [z], _, hs => exact hs z List.mem_cons_self
      | z1 :: z2 :: zs, ho, _ => simp at ho
    have d2 := d1.same s2 (Nat.le_refl _)
    have ea2 := s2 _ _ ea1
    generalize L2.upd H1 L2' _ = H2 at *
    have lenz : (zs.map (·.length)).sum + zs.length * ("" : Str).length ≤ 16777216 := by
      match zs, hone, hsub with
      | [], _, _ => decide
      | [z], _, hs =>
        have := (hs z List.mem_cons_self).len
        have e0 : ("" : Str).length = 0 := by decide +kernel
        rw [e0]
        show z.length + 0 + 1 * 0 ≤ _
        omega
      | z1 :: z2 :: zs, ho, _ => simp at ho
    refine ⟨_, L2', zs, rfl, rfl, .inl (SqL.of e2), lenz, ⟨_, rfl⟩, _, _, rfl, rfl, rfl, Nat.le_trans sbj.len (Nat.le_trans hB2 (by decide)), fun T1 nT => ?_⟩
    obtain ⟨wd, bl, rs, ep, sw, sbl, srs, lsum, hbl⟩ := sbj.part
    rw [ep]
    have sT := Same.new (o := .tup [.str wd, .str bl, .str rs]) nT
    refine ⟨T1, _, rfl, SqT.of upd_same, rfl, _, _, rfl, _, _, rfl, _, _, rfl, rfl, ?_⟩
    have d3 := d2.same sT (Nat.le_refl _)
    have ea3 := sT _ _ ea2
    have b03 : But l H (L2.upd H2 T1 (.tup [.str wd, .str bl, .str rs])) := b1.trans (But.same (s2.trans sT))
    generalize L2.upd H2 T1 _ = H3 at *
    have sbl0 := sbl.len
    have lz : sizeLine = 16777216 := rfl
    refine ⟨_, rfl, _, _, rfl, rfl, md, ?_⟩
    -- a line put in, or in the stead of another
    have put : ∀ {Hy : Hp} {q1 : Addr} {x : Str} {m : Nat} {lo hi : List Str} {U L : Option Int} {n' : Nat}, Hy a = some (.lst (ys.map V.str)) → Hy q1 = some (.lst (lo.map V.str)) → (∀ y ∈ lo, Sb y (2 * B)) → (∀ y ∈ hi, Sb y (2 * B)) → lo.length + hi.length ≤ k → Sb x (2 * B) → But l H Hy → Dr Hy l n' → n' ≤ n + 2 →
        ∀ (p2 p3 p4 p5 : Addr), Hy p2 = none → L2.upd Hy p2 (.lst [.str x]) p3 = none → L2.upd (L2.upd Hy p2 (.lst [.str x])) p3 (.lst (lo.map V.str ++ [.str x])) p4 = none → L2.upd (L2.upd (L2.upd Hy p2 (.lst [.str x])) p3 (.lst (lo.map V.str ++ [.str x]))) p4 (.lst (hi.map V.str)) p5 = none →
        Q (.ref p5) (L2.upd (L2.upd (L2.upd (L2.upd Hy p2 (.lst [.str x])) p3 (.lst (lo.map V.str ++ [.str x]))) p4 (.lst (hi.map V.str))) p5 (.lst ((lo.map V.str ++ [.str x]) ++ hi.map V.str))) := by
      intro Hy q1 x m lo hi U L n' ey e1 hlo hhi hle hx by' dy hn' p2 p3 p4 p5 m2 m3 m4 m5
      have t2 := Same.new (o := .lst [.str x]) m2
      have t3 := Same.new (o := .lst (lo.map V.str ++ [.str x])) m3
      have t4 := Same.new (o := .lst (hi.map V.str)) m4
      have t5 := Same.new (o := .lst ((lo.map V.str ++ [.str x]) ++ hi.map V.str)) m5
      have tt := t2.trans (t3.trans (t4.trans t5))
      refine q p5 _ ⟨(lo ++ [x]) ++ hi, ?_, ?_, ?_⟩ (by'.trans (But.same tt)) ((dy.same tt (Nat.le_refl _)).mono hn')
      · rw [upd_same, List.map_append, List.map_append]
        rfl
      · rw [List.length_append, List.length_append]
        show lo.length + 1 + hi.length ≤ k + 1
        omega
      · intro y hy
        rcases List.mem_append.mp hy with hy | hy
        · rcases List.mem_append.mp hy with hy | hy
          · exact hlo y hy
          · rw [List.mem_singleton.mp hy]
            exact hx
        · exact hhi y hy
    have hys2 : ∀ y ∈ ys, Sb y (2 * B) := fun y hy => (hys y hy).mono (by omega)
    have clo := cut_lo ys i
    have chi := cut_hi ys i
    have chi1 := cut_hi ys (i + 1)
    rw [show (((i + 1 : Nat)) : Int) = ((i : Nat) : Int) + 1 by omega] at chi1
    have ltk : (ys.take i).length ≤ ys.length := by rw [List.length_take]; omega
    have len2 : (ys.take i).length + (ys.drop i).length ≤ k := by rw [List.length_take, List.length_drop]; omega
    have len3 : (ys.take i).length + (ys.drop (i + 1)).length ≤ k := by rw [List.length_take, List.length_drop]; omega
    have mlen : ∀ zs : List Str, (zs.map V.str).length = zs.length := fun zs => List.length_map _
    refine ⟨_, rfl, _, _, rfl, rfl, _, rfl, ite2 (fun _ => ?_) (fun _ => ?_)⟩
    · -- one more line
      refine ⟨ln _, fun r1 nr1 => ?_⟩
      have u1 := Same.new (o := .lst [.str ("moon 0" : Str), .str ("year 1/3" : Str), .str ("mark -2" : Str), .str ("month 30" : Str)]) nr1
      have w0 := Int.emod_nonneg (v / 64) (show (4 : Int) ≠ 0 by decide)
      have w1 := Int.emod_lt_of_pos (v / 64) (show (0 : Int) < 4 by decide)
      obtain ⟨ag, hag, sag⟩ := pickS (P := fun y => Sb y 10) (z := v / 64 % 4) w0 (ys := [("moon 0" : Str), ("year 1/3" : Str), ("mark -2" : Str), ("month 30" : Str)]) w1 (by
        intro y hy
        simp only [List.mem_cons, List.not_mem_nil, or_false] at hy
        rcases hy with rfl | rfl | rfl | rfl <;> exact Sb.lit)
      refine ⟨_, rfl, _, _, rfl, rfl, ⟨by decide, by decide⟩, _, _, rfl, rfl, md, r1, _, _, _, rfl, rfl, SqL.of upd_same, hag, ?_⟩
      refine ⟨_, rfl, _, rfl, ln _, fun r2 nr2 => ?_⟩
      have u2 := Same.new (o := .lst ([("Month 1" : Str), ("months 1" : Str), ("moon" : Str), ("" : Str), (" moon 1" : Str), ("day 3" : Str), ag, ag, ("mark-1" : Str)].map V.str)) nr2
      refine ⟨_, rfl, ln _, fun r3 nr3 => ?_⟩
      have u3 := Same.new (o := .lst ([("moon:1" : Str), ("month  3" : Str), ("?" : Str)].map V.str)) nr3
      have e2' : ∀ {Hx : Hp}, L2.upd Hx r2 (.lst ([("Month 1" : Str), ("months 1" : Str), ("moon" : Str), ("" : Str), (" moon 1" : Str), ("day 3" : Str), ag, ag, ("mark-1" : Str)].map V.str)) r2 = some (.lst ([("Month 1" : Str), ("months 1" : Str), ("moon" : Str), ("" : Str), (" moon 1" : Str), ("day 3" : Str), ag, ag, ("mark-1" : Str)].map V.str)) := fun {Hx} => upd_same
      refine ⟨r2, r3, _, _, rfl, rfl, u3 _ _ e2', upd_same, (by show 12 ≤ sizeLine; decide), fun r4 nr4 => ?_⟩
      have u4 := Same.new (o := .lst (([("Month 1" : Str), ("months 1" : Str), ("moon" : Str), ("" : Str), (" moon 1" : Str), ("day 3" : Str), ag, ag, ("mark-1" : Str), ("moon:1" : Str), ("month  3" : Str), ("?" : Str)] : List Str).map V.str)) nr4
      have e4' : ∀ {Hx : Hp}, L2.upd Hx r4 (.lst (([("Month 1" : Str), ("months 1" : Str), ("moon" : Str), ("" : Str), (" moon 1" : Str), ("day 3" : Str), ag, ag, ("mark-1" : Str), ("moon:1" : Str), ("month  3" : Str), ("?" : Str)] : List Str).map V.str)) r4 = some (.lst (([("Month 1" : Str), ("months 1" : Str), ("moon" : Str), ("" : Str), (" moon 1" : Str), ("day 3" : Str), ag, ag, ("mark-1" : Str), ("moon:1" : Str), ("month  3" : Str), ("?" : Str)] : List Str).map V.str)) := fun {Hx} => upd_same
      have u14 := u1.trans (u2.trans (u3.trans u4))
      have w2 := Int.emod_nonneg (v / 256) (show (12 : Int) ≠ 0 by decide)
      have w3 := Int.emod_lt_of_pos (v / 256) (show (0 : Int) < 12 by decide)
      obtain ⟨x, hx, sx⟩ := pickS (P := fun y => Sb y (2 * B)) (z := v / 256 % 12) w2 (ys := [("Month 1" : Str), ("months 1" : Str), ("moon" : Str), ("" : Str), (" moon 1" : Str), ("day 3" : Str), ag, ag, ("mark-1" : Str), ("moon:1" : Str), ("month  3" : Str), ("?" : Str)]) w3 (by
        intro y hy
        simp only [List.mem_cons, List.not_mem_nil, or_false] at hy
        rcases hy with rfl | rfl | rfl | rfl | rfl | rfl | rfl | rfl | rfl | rfl | rfl | rfl
        all_goals first
          | exact (Sb.lit (n := 10)).mono (by omega)
          | exact sag.mono (by omega))
      refine ⟨_, rfl, _, rfl, _, rfl, a, _, rfl, SqL.of (u14 _ _ ea3), fun q1 nq1 => ?_⟩
      rw [clo]
      have t1 := Same.new (o := .lst ((ys.take i).map V.str)) nq1
      refine ⟨_, rfl, _, rfl, _, _, rfl, rfl, ⟨by decide, by decide⟩, _, _, rfl, rfl, md, r4, _, _, _, rfl, rfl, SqL.of (t1 _ _ e4'), hx, ln _, fun q2 nq2 => ?_⟩
      have t2 := Same.new (o := .lst [.str x]) nq2
      refine ⟨q1, q2, _, _, rfl, rfl, t2 _ _ upd_same, upd_same, (by rw [mlen]; show _ + 1 ≤ 16777216; omega), fun q3 nq3 => ?_⟩
      have t3 := Same.new (o := .lst ((ys.take i).map V.str ++ [.str x])) nq3
      have t13 := t1.trans (t2.trans t3)
      refine ⟨_, rfl, _, rfl, _, rfl, a, _, rfl, SqL.of ((u14.trans t13) _ _ ea3), fun q4 nq4 => ?_⟩
      rw [chi]
      have t4 := Same.new (o := .lst ((ys.drop i).map V.str)) nq4
      refine ⟨q3, q4, _, _, rfl, rfl, t4 _ _ upd_same, upd_same, (by rw [List.length_append, mlen, mlen]; show _ + 1 + _ ≤ 16777216; omega), fun q5 nq5 => ?_⟩
      exact put (q1 := q1) (U := none) (L := none) (m := 0) ((u14.trans t1) _ _ ea3) upd_same (take_sub hys2 i) (drop_sub hys2 i) len2 sx (b03.trans (But.same (u14.trans t1))) (d3.same (u14.trans t1) (Nat.le_refl _)) (by omega) q2 q3 q4 q5 nq2 nq3 nq4 nq5
    refine ⟨_, rfl, _, _, rfl, rfl, _, rfl, ite2 (fun _ => ?_) (fun _ => ?_)⟩
    · -- a line left out
      refine ⟨_, rfl, _, rfl, _, rfl, a, _, rfl, SqL.of ea3, fun q1 nq1 => ?_⟩
      rw [clo]
      have t1 := Same.new (o := .lst ((ys.take i).map V.str)) nq1
      refine ⟨_, rfl, _, rfl, _, _, rfl, rfl, _, rfl, a, _, rfl, SqL.of (t1 _ _ ea3), fun q4 nq4 => ?_⟩
      rw [chi1]
      have t4 := Same.new (o := .lst ((ys.drop (i + 1)).map V.str)) nq4
      refine ⟨q1, q4, _, _, rfl, rfl, t4 _ _ upd_same, upd_same, (by rw [mlen, mlen]; omega), fun q5 nq5 => ?_⟩
      have t5 := Same.new (o := .lst ((ys.take i).map V.str ++ (ys.drop (i + 1)).map V.str)) nq5
      have tt := t1.trans (t4.trans t5)
      refine q q5 _ ⟨ys.take i ++ ys.drop (i + 1), ?_, ?_, ?_⟩ (b03.trans (But.same tt)) ((d3.same tt (Nat.le_refl _)).mono (by omega))
      · rw [upd_same, List.map_append]
      · rw [List.length_append]
        omega
      · intro y hy
        rcases List.mem_append.mp hy with hy | hy
        · exact take_sub hys2 i y hy
        · exact drop_sub hys2 (i + 1) y hy
    have l1 : (" " : Str).length ≤ 1 := lit_len
    have lW : wd.length ≤ 212 := by omega
    have lR : rs.length ≤ 212 := by omega
    refine ⟨_, rfl, _, _, rfl, rfl, _, rfl, ite2 (fun _ => ?_) (fun _ => ?_)⟩
    · -- a share that is none
      refine ⟨_, rfl, _, rfl, _, rfl, a, _, rfl, SqL.of ea3, fun q1 nq1 => ?_⟩
      rw [clo]
      have t1 := Same.new (o := .lst ((ys.take i).map V.str)) nq1
      have e1 := upd_same (H := H3) (a := q1) (o := .lst ((ys.take i).map V.str))
      have dt := d3.same t1 (Nat.le_refl _)
      have ea4 := t1 _ _ ea3
      refine ⟨_, rfl, _, _, rfl, rfl, le5 lW l1, _, rfl, _, rfl, l, _, rs, rfl, dt, by omega, srs, by omega, fun y H5 sy b5 d5 => ?_⟩
      have nq1l : q1 ≠ l := ne_of_none' d3 nq1
      have e15 := b5 _ _ nq1l e1
      have ea5 := b5 _ _ nal ea4
      have ly : y.length ≤ 500 := Nat.le_trans sy.len (by omega)
      refine ⟨_, _, rfl, rfl, le5 (ap_len lW l1) ly, ln _, fun q2 nq2 => ?_⟩
      have t2 := Same.new (o := .lst [.str ((wd ++ (" " : Str)) ++ y)]) nq2
      refine ⟨q1, q2, _, _, rfl, rfl, t2 _ _ e15, upd_same, (by rw [mlen]; show _ + 1 ≤ 16777216; omega), fun q3 nq3 => ?_⟩
      have t3 := Same.new (o := .lst ((ys.take i).map V.str ++ [.str ((wd ++ (" " : Str)) ++ y)])) nq3
      refine ⟨_, rfl, _, rfl, _, _, rfl, rfl, _, rfl, a, _, rfl, SqL.of ((t2.trans t3) _ _ ea5), fun q4 nq4 => ?_⟩
      rw [chi1]
      have t4 := Same.new (o := .lst ((ys.drop (i + 1)).map V.str)) nq4
      refine ⟨q3, q4, _, _, rfl, rfl, t4 _ _ upd_same, upd_same, (by rw [List.length_append, mlen, mlen]; show _ + 1 + _ ≤ 16777216; omega), fun q5 nq5 => ?_⟩
      have sx : Sb ((wd ++ (" " : Str)) ++ y) (2 * B) := (sw.app (b := (" " : Str)) (m := 1) (k := wd.length + 1) Sb.lit (by omega)).app sy (by omega)
      exact put (q1 := q1) (U := none) (L := none) (m := 0) ea5 e15 (take_sub hys2 i) (drop_sub hys2 (i + 1)) len3 sx ((b03.trans (But.same t1)).trans b5) d5 (by omega) q2 q3 q4 q5 nq2 nq3 nq4 nq5
    -- six more ways
    have sup : Sb (Txt.upper wd) wd.length := sw.upper
    have l2 : ("  " : Str).length ≤ 2 := lit_len
    refine ⟨_, rfl, _, _, rfl, rfl, le5 l1 lW, _, rfl, _, _, rfl, rfl, le5 (ap_len l1 lW) sbl0, _, rfl, _, _, rfl, rfl, le5 (ap_len (ap_len l1 lW) sbl0) lR, ?_⟩
    refine ⟨_, rfl, _, _, rfl, rfl, le5 lW l2, _, rfl, _, _, rfl, rfl, le5 (ap_len lW l2) lR, ?_⟩
    refine ⟨_, rfl, _, rfl, _, _, rfl, rfl, le5 lW lR, ?_⟩
    refine ⟨_, rfl, ⟨_, rfl⟩, wd, rfl, rfl, (by show wd.length ≤ 5592405; omega), _, rfl, _, _, rfl, rfl, le5 (Nat.le_trans sup.len lW) sbl0, _, rfl, _, _, rfl, rfl, le5 (ap_len (Nat.le_trans sup.len lW) sbl0) lR, ?_⟩
    refine ⟨_, rfl, _, rfl, _, rfl, _, _, rfl, rfl, le5 lW sbl0, ln _, fun r1 nr1 => ?_⟩
    have u1 := Same.new (o := .lst (([((((" " : Str) ++ wd) ++ bl) ++ rs), ((wd ++ ("  " : Str)) ++ rs), (wd ++ rs), ((Txt.upper wd ++ bl) ++ rs), wd, (wd ++ bl)] : List Str).map V.str)) nr1
    have er1 := upd_same (H := H3) (a := r1) (o := .lst (([((((" " : Str) ++ wd) ++ bl) ++ rs), ((wd ++ ("  " : Str)) ++ rs), (wd ++ rs), ((Txt.upper wd ++ bl) ++ rs), wd, (wd ++ bl)] : List Str).map V.str))
    have w2 := Int.emod_nonneg (v / 256) (show (6 : Int) ≠ 0 by decide)
    have w3 := Int.emod_lt_of_pos (v / 256) (show (0 : Int) < 6 by decide)
    obtain ⟨x, hx, sx⟩ := pickS (P := fun y => Sb y (2 * B)) (z := v / 256 % 6) w2 (ys := [((((" " : Str) ++ wd) ++ bl) ++ rs), ((wd ++ ("  " : Str)) ++ rs), (wd ++ rs), ((Txt.upper wd ++ bl) ++ rs), wd, (wd ++ bl)]) w3 (by
      have sbl' : Sb bl bl.length := sbl.self
      intro y hy
      simp only [List.mem_cons, List.not_mem_nil, or_false] at hy
      rcases hy with rfl | rfl | rfl | rfl | rfl | rfl
      · exact (((Sb.lit (s := (" " : Str)) (n := 1)).app sw (k := 1 + wd.length) (by omega)).app sbl' (k := 1 + wd.length + bl.length) (by omega)).app srs (by omega)
      · exact (sw.app (Sb.lit (s := ("  " : Str)) (n := 2)) (k := wd.length + 2) (by omega)).app srs (by omega)
      · exact sw.app srs (by omega)
      · exact (sup.app sbl' (k := wd.length + bl.length) (by omega)).app srs (by omega)
      · exact sw.mono (by omega)
      · exact sw.app sbl' (by omega))
    have ea4 := u1 _ _ ea3
    have d4 := d3.same u1 (Nat.le_refl _)
    refine ⟨_, rfl, _, _, rfl, rfl, _, rfl, ite2 (fun _ => ?_) (fun _ => ?_)⟩
    · refine ⟨_, rfl, _, rfl, _, rfl, a, _, rfl, SqL.of ea4, fun q1 nq1 => ?_⟩
      rw [clo]
      have t1 := Same.new (o := .lst ((ys.take i).map V.str)) nq1
      refine ⟨_, rfl, _, rfl, _, _, rfl, rfl, ⟨by decide, by decide⟩, _, _, rfl, rfl, md, r1, _, _, _, rfl, rfl, SqL.of (t1 _ _ er1), hx, ln _, fun q2 nq2 => ?_⟩
      have t2 := Same.new (o := .lst [.str x]) nq2
      refine ⟨q1, q2, _, _, rfl, rfl, t2 _ _ upd_same, upd_same, (by rw [mlen]; show _ + 1 ≤ 16777216; omega), fun q3 nq3 => ?_⟩
      have t3 := Same.new (o := .lst ((ys.take i).map V.str ++ [.str x])) nq3
      have t13 := t1.trans (t2.trans t3)
      refine ⟨_, rfl, _, rfl, _, _, rfl, rfl, _, rfl, a, _, rfl, SqL.of (t13 _ _ ea4), fun q4 nq4 => ?_⟩
      rw [chi1]
      have t4 := Same.new (o := .lst ((ys.drop (i + 1)).map V.str)) nq4
      refine ⟨q3, q4, _, _, rfl, rfl, t4 _ _ upd_same, upd_same, (by rw [List.length_append, mlen, mlen]; show _ + 1 + _ ≤ 16777216; omega), fun q5 nq5 => ?_⟩
      exact put (q1 := q1) (U := none) (L := none) (m := 0) (t1 _ _ ea4) upd_same (take_sub hys2 i) (drop_sub hys2 (i + 1)) len3 sx ((b03.trans (But.same u1)).trans (But.same t1)) (d4.same t1 (Nat.le_refl _)) (by omega) q2 q3 q4 q5 nq2 nq3 nq4 nq5
    · exact ⟨_, rfl, q a _ ⟨ys, ea4, by omega, hys2⟩ (b03.trans (But.same u1)) (d4.mono (by omega))⟩
end
/-! ### what the law says of a text -/
theorem num_lt_den (q : Rat) : q.num < (q.den : Int) ↔ q < 1 := by
  have h := lt_iff' q 1
  rw [show (((1 : Rat).den : Nat) : Int) = 1 from rfl, show (1 : Rat).num = 1 from rfl, Int.mul_one, Int.one_mul] at h
  exact h.symm
theorem num_lt_int (q : Rat) (i : Int) : q.num < i * (q.den : Int) ↔ q < (i : Rat) := by
  have h := lt_iff' q (i : Rat)
  rw [show ((((i : Rat)).den : Nat) : Int) = 1 from rfl, show ((i : Rat)).num = i from rfl, Int.mul_one] at h
  exact h.symm
theorem ceil_law (m : Rat) : 0 - (0 - m.num).fdiv (m.den : Int) = m.ceil := by
  rw [Int.fdiv_eq_ediv_of_nonneg _ (by omega), Int.zero_sub, Int.zero_sub]
  exact neg_div_ceil m
theorem btw_iff (m y : Rat) : y.num < 12 * m.ceil * (y.den : Int) ↔ y / 12 < (m.ceil : Rat) := by
  rw [num_lt_int, Rat.intCast_mul]
  have e : ((12 : Int) : Rat) = 12 := rfl
  rw [e]
  constructor
  · intro h
    grind
  · intro h
    grind
theorem thr_iff (m y : Rat) : 13 * m.num * (y.den : Int) < (y.num + (y.den : Int)) * (m.den : Int) ↔ 13 * m < y + 1 := by
  have hm := m_den m
  have hy := m_den y
  have pm : (0 : Rat) < ((m.den : Int) : Rat) := Rat.intCast_pos.mpr (den_pos m)
  have py : (0 : Rat) < ((y.den : Int) : Rat) := Rat.intCast_pos.mpr (den_pos y)
  have e13 : ((13 : Int) : Rat) = 13 := rfl
  have pp : (0 : Rat) < ((m.den : Int) : Rat) * ((y.den : Int) : Rat) := Rat.mul_pos pm py
  rw [← Rat.intCast_lt_intCast, Rat.intCast_mul, Rat.intCast_mul, Rat.intCast_mul, Rat.intCast_add, ← hm, ← hy, e13]
  generalize ((m.den : Int) : Rat) = a at *
  generalize ((y.den : Int) : Rat) = b at *
  have e1 : 13 * (m * a) * b = (13 * m) * (a * b) := by grind
  have e2 : (y * b + b) * a = (y + 1) * (a * b) := by grind
  rw [e1, e2]
  constructor
  · intro h
    apply Rat.not_le.mp
    intro z
    have := Rat.mul_le_mul_of_nonneg_right z (Rat.le_of_lt pp)
    exact absurd h (Rat.not_lt.mpr this)
  · intro h
    exact Rat.mul_lt_mul_of_pos_right h pp
theorem fault_iff (m y : Rat) : faultS m y = ("" : Str) ↔ Fit m y := by
  have n1 : ¬ ("month" : Str) = ("" : Str) := by decide +kernel
  have n2 : ¬ ("between" : Str) = ("" : Str) := by decide +kernel
  have n3 : ¬ ("thirteen" : Str) = ("" : Str) := by decide +kernel
  unfold faultS
  constructor
  · intro h
    by_cases c1 : m < 1
    · rw [if_pos c1] at h
      exact absurd h n1
    rw [if_neg c1] at h
    by_cases c2 : y / 12 < (m.ceil : Rat)
    · rw [if_pos c2] at h
      exact absurd h n2
    rw [if_neg c2] at h
    by_cases c3 : 13 * m < y + 1
    · rw [if_pos c3] at h
      exact absurd h n3
    exact fault_fit c1 c2 c3
  · intro h
    rw [if_neg (Rat.not_lt.mpr h.one), if_neg (Rat.not_lt.mpr h.between), if_neg (Rat.not_lt.mpr h.thirteen)]
def outL : Out → List V
  | .text l => [.str ("text" : Str), .str l]
  | .cal w => [.str ("calendar" : Str), .str w]
  | .good => [.str ("good" : Str), .str ("" : Str)]
def spWhy : Sp := fun vs H Q _ => ∃ (L ta tb tc td : Addr) (m y : Rat), vs = [.ref L] ∧ H L = some (.lst [.ref ta, .ref tb, .ref tc, .ref td]) ∧ Tp H ta m ∧ Tp H tb y ∧ Rz 1810 m ∧ Rz 1810 y ∧ ∀ H', Same H H' → Q (.str (faultS m y)) H'
def spOut : Sp := fun vs H Q _ => ∃ t : Str, vs = [.str t] ∧ ShT9 t ∧ ∀ (L : Addr) (H' : Hp), Same H H' → H' L = some (.lst (outL (rdF t))) → Q (.ref L) H'
abbrev TE_l_due1 (K : PySem.W.Frag) : TE := tCall (spDue K) [] E0 (tCons (tDGet (tVar 2) (tVar 4)) tNil)
section
variable {P : Program} {w : World} {K : PySem.W.Frag} {mg : Str → Option Value} {base : Heap}
theorem ok_lwhy (D : Df K mg "_law_why" s_l_why []) : Ca P w K mg base CX0 1 "_law_why" s_l_why [] ["_law_four_here"] spWhy := by
  refine ca0 (k := 0) D c_l_why (fun vs H Q E h => ?_) fun f cdv A outer s H vs Q E hr h => ?_
  · obtain ⟨L, ta, tb, tc, td, m, y, rfl, _⟩ := h
    rfl
  · obtain ⟨L, ta, tb, tc, td, m, y, rfl, eL, h1, h2, zm, zy, q⟩ := h
    refine ⟨_, (pss_cons (ps_asg (pe_slice sl_list (pv 0) po_none (po_some pe_int)) (pg_unl rfl (pgs_cons (pg_name (i := 1) c_l_why.nd rfl (.inl rfl)) (pgs_cons (pg_name (i := 2) c_l_why.nd rfl (.inl rfl)) pgs_nil))))
      (pss_cons (ps_set (i := 3) c_l_why.nd rfl (.inl rfl) (pe_op op_sub pe_int (pe_op op_fdivA (pe_op op_sub pe_int (pe_ix ix_tup (pv 1) pe_int (fun _ _ => rfl))) (pe_ix ix_tup (pv 1) pe_int (fun _ _ => rfl)))))
      (pss_cons (ps_if (pt_cmpR op_lt (pe_ix ix_tup (pv 1) pe_int (fun _ _ => rfl)) (pe_ix ix_tup (pv 1) pe_int (fun _ _ => rfl)) (nomark _)) (pss_one (ps_ret pe_str)) pss_nil)
      (pss_cons (ps_if (pt_cmpR op_lt (pe_ix ix_tup (pv 2) pe_int (fun _ _ => rfl)) (pe_op op_mulA (pe_op op_mulA pe_int (pv 3)) (pe_ix ix_tup (pv 2) pe_int (fun _ _ => rfl))) (nomark _)) (pss_one (ps_ret pe_str)) pss_nil)
      (pss_cons (ps_if (pt_cmpR op_lt (pe_op op_mulA (pe_op op_mulA pe_int (pe_ix ix_tup (pv 1) pe_int (fun _ _ => rfl))) (pe_ix ix_tup (pv 2) pe_int (fun _ _ => rfl))) (pe_op op_mulA (pe_op op_add (pe_ix ix_tup (pv 2) pe_int (fun _ _ => rfl)) (pe_ix ix_tup (pv 2) pe_int (fun _ _ => rfl))) (pe_ix ix_tup (pv 1) pe_int (fun _ _ => rfl))) (nomark _)) (pss_one (ps_ret pe_str)) pss_nil)
      (pss_one (ps_ret pe_str))))))), ?_⟩
    refine ⟨_, rfl, _, rfl, L, _, rfl, SqL.of eL, fun p1 n1 => ?_⟩
    have s1 := Same.new (o := .lst (cutV [.ref ta, .ref tb, .ref tc, .ref td] none (some 2))) n1
    refine ⟨p1, _, rfl, SqL.of upd_same, rfl, _, _, rfl, _, _, rfl, rfl, ?_⟩
    have g1 := SqT.of (K := K) (s1 _ _ h1)
    have g2 := SqT.of (K := K) (s1 _ _ h2)
    have hd := den_pos m
    have zc : Sz 1810 m.ceil := Sz.ceil zm
    generalize L2.upd H p1 _ = H1 at *
    refine ⟨_, rfl, ta, _, _, _, rfl, rfl, g1, rfl, _, _, rfl, rfl, _, rfl, ta, _, _, _, rfl, rfl, g1, rfl, _, _, rfl, rfl, ⟨by omega, zm.2.mono (by decide)⟩, _, _, rfl, rfl, ?_⟩
    show tSeq _ _ _ [_, _, _, some (V.int (0 - (0 - m.num).fdiv (m.den : Int)))] _
    rw [ceil_law]
    refine ⟨_, rfl, ta, _, _, _, rfl, rfl, g1, rfl, _, rfl, ta, _, _, _, rfl, rfl, g1, rfl, _, _, rfl, rfl, _, rfl, ?_⟩
    have qq := q H1 s1
    unfold faultS at qq
    by_cases c1 : m.num < (m.den : Int)
    · rw [decide_eq_true c1]
      rw [if_pos ((num_lt_den m).mp c1)] at qq
      exact iteT qq
    rw [decide_eq_false c1]
    rw [if_neg (fun z => c1 ((num_lt_den m).mpr z))] at qq
    have z12 : Sz 1815 (12 * m.ceil) := (Sz.mul (n := 4) (szi 12) zc).mono (by decide)
    refine iteF ⟨_, rfl, tb, _, _, _, rfl, rfl, g2, rfl, _, rfl, _, _, rfl, rfl, ⟨(szi (n := 4) 12).mono (by decide), zc.mono (by decide)⟩, _, rfl, tb, _, _, _, rfl, rfl, g2, rfl, _, _, rfl, rfl, ⟨z12.mono (by decide), zy.2.mono (by decide)⟩, _, _, rfl, rfl, _, rfl, ?_⟩
    by_cases c2 : y.num < 12 * m.ceil * (y.den : Int)
    · rw [decide_eq_true c2]
      rw [if_pos ((btw_iff m y).mp c2)] at qq
      exact iteT qq
    rw [decide_eq_false c2]
    rw [if_neg (fun z => c2 ((btw_iff m y).mpr z))] at qq
    have z13 : Sz 1815 (13 * m.num) := (Sz.mul (n := 4) (szi 13) zm.1).mono (by decide)
    have zs : Sz 1815 (y.num + (y.den : Int)) := Sz.add (n := 1810) zy.1 zy.2 (by decide)
    refine iteF ⟨_, rfl, ta, _, _, _, rfl, rfl, g1, rfl, _, _, rfl, rfl, ⟨(szi (n := 4) 13).mono (by decide), zm.1.mono (by decide)⟩, _, rfl, tb, _, _, _, rfl, rfl, g2, rfl, _, _, rfl, rfl, ⟨z13.mono (by decide), zy.2.mono (by decide)⟩, _, rfl, tb, _, _, _, rfl, rfl, g2, rfl, _, rfl, tb, _, _, _, rfl, rfl, g2, rfl, _, _, rfl, rfl, _, rfl, ta, _, _, _, rfl, rfl, g1, rfl, _, _, rfl, rfl, ⟨zs.mono (by decide), zm.2.mono (by decide)⟩, _, _, rfl, rfl, _, rfl, ?_⟩
    by_cases c3 : 13 * m.num * (y.den : Int) < (y.num + (y.den : Int)) * (m.den : Int)
    · rw [decide_eq_true c3]
      rw [if_pos ((thr_iff m y).mp c3)] at qq
      exact iteT qq
    rw [decide_eq_false c3]
    rw [if_neg (fun z => c3 ((thr_iff m y).mpr z))] at qq
    exact iteF qq
set_option maxHeartbeats 8000000 in
theorem ok_ldue76 (D : Df K mg "_law_due" s_l_due []) (g_int : mg "int" = none) (f_l_share_in : Ca P w K mg base CX0 2 "_law_share_in" s_l_share_in [] ["_law_text"] (spDue K)) (f_l_why : Ca P w K mg base CX0 1 "_law_why" s_l_why [] ["_law_four_here"] spWhy) : Ca P w K mg base CX0 4 "_law_due" s_l_due [] ["_law_text"] spOut := by
  refine ca0 (k := 3) D c_l_due (fun vs H Q E h => ?_) fun f cdv A outer s H vs Q E hr h => ?_
  · obtain ⟨t, rfl, _⟩ := h
    rfl
  · obtain ⟨t, rfl, hs, q⟩ := h
    refine ⟨_, (pss_cons (ps_set (i := 1) c_l_due.nd rfl (.inl rfl) (pe_lst (pa_cons pe_str (pa_cons pe_str (pa_cons pe_str (pa_cons pe_str pa_nil))))))
      (pss_cons (ps_set (i := 2) c_l_due.nd rfl (.inr rfl) pe_dnewK)
      (C8.pss_cut (ps_for PassesOwn.never rfl (pi_list (pe_m1 PySem.F.slot_str_split PySem.F.type_str_split mt_split (pv 0) pe_str)) (pg_name (i := 3) c_l_due.nd rfl (.inl rfl)) (pss_cons (ps_asg (pe_m1 PySem.F.slot_str_partition PySem.F.type_str_partition mt_partition (pv 3) pe_str) (pg_tup rfl (pgs_cons (pg_name (i := 4) c_l_due.nd rfl (.inl rfl)) (pgs_cons (pg_name (i := 5) c_l_due.nd rfl (.inl rfl)) (pgs_cons (pg_name (i := 6) c_l_due.nd rfl (.inl rfl)) pgs_nil)))))
      (pss_cons (ps_if (PW.pt (pw_or (pt_cmpR op_notIn_seq (pv 4) (pv 1) rfl) (pw_or (pt_cmpR op_eq (pv 5) pe_str (nomark _)) (pw_or1 (pt_cmp (pc_din (hu1 hr) (pv 4) (pv 2))))))) (pss_one (ps_ret (pe_lst (pa_cons pe_str (pa_cons (pv 3) pa_nil))))) pss_nil)
      (pss_one (ps_dput (hu1 hr) (pv 2) (pv 4) (pv 6) rfl)))))
      (C8.pss_cut (ps_for PassesOwn.never rfl (pi_list (pv 1)) (pg_name (i := 4) c_l_due.nd rfl (.inl rfl)) (pss_one (ps_if (pt_cmp (pc_dnotin (hu1 hr) (pv 4) (pv 2))) (pss_one (ps_ret (pe_lst (pa_cons pe_str (pa_cons (pv 4) pa_nil))))) pss_nil)))
      (C8.pss_cut (ps_for PassesOwn.never rfl (pi_list (pe_m1 PySem.F.slot_str_split PySem.F.type_str_split mt_split (pv 0) pe_str)) (pg_name (i := 3) c_l_due.nd rfl (.inl rfl)) (pss_one (ps_if (pt_cmp (pc_isN (pe_ca f_l_share_in b_l_share_in hr (by decide) pass0 rfl (pa_cons (pe_ix ix_tup (pe_m1 PySem.F.slot_str_partition PySem.F.type_str_partition mt_partition (pv 3) pe_str) pe_int (fun _ _ => rfl)) pa_nil)))) (pss_one (ps_ret (pe_lst (pa_cons pe_str (pa_cons (pv 3) pa_nil))))) pss_nil)))
      (pss_cons (ps_set (i := 7) c_l_due.nd rfl (.inl rfl) (pe_ca f_l_why b_l_why hr (by decide) pass0 rfl (pa_cons (pe_lc (own := [("_law_word", 4)]) (g := gName 4) (tt := tYes) (te := TE_l_due1 K) rfl c_l_due.nd (pi_list (pv 1)) (blkOk_by (N := ["_law_text", "_law_words", "_law_rests", "_law_line", "_law_word", "_law_blank", "_law_rest", "_law_why_here"]) (sc := defScope s_l_due) (by decide +kernel)) (fun _ _ _ _ _ => (pg_name (i := 4) c_l_due.nd rfl (.inl rfl))) (fun _ _ _ _ _ => by exact pts_nil) (fun _ _ _ _ _ => by exact (pe_ca f_l_share_in b_l_share_in hr (by decide) pass0 rfl (pa_cons (pe_dget (hu1 hr) (pv 2) (pv 4) (fun _ _ => rfl)) pa_nil)))) pa_nil)))
      (pss_one (ps_ret (pe_ix ix_list (pe_lst (pa_cons (pe_lst (pa_cons pe_str (pa_cons (pv 7) pa_nil))) (pa_cons (pe_lst (pa_cons pe_str (pa_cons pe_str pa_nil))) pa_nil))) (pe_callTy call_int1 rfl g_int (by decide +kernel) (pa_cons (pe_cmpR op_eq (pv 7) pe_str (nomark _)) pa_nil)) (fun _ _ => rfl)))))))))), ?_⟩
    refine ⟨ln _, fun Lw nLw => ?_⟩
    have s1 := Same.new (o := .lst (wrds.map V.str)) nLw
    have eLw := upd_same (H := H) (a := Lw) (o := .lst (wrds.map V.str))
    intro D nD
    have nDH : H D = none := s1.free nD
    have nDL : D ≠ Lw := fun z => by
      rw [z, upd_same] at nD
      cases nD
    have s2 := Same.new (o := .dK []) nD
    generalize hH2 : L2.upd (L2.upd H Lw _) D _ = H2
    have eD : H2 D = some (.dK []) := by rw [← hH2]; exact upd_same
    have eLw2 : H2 Lw = some (.lst (wrds.map V.str)) := by rw [← hH2]; exact s2 _ _ eLw
    have s12 : Same H H2 := by rw [← hH2]; exact s1.trans s2
    have h1 := hs.len
    have hln := hs.ln
    have few := hs.few
    have put1 : ∀ {Hx : Hp} {x y : Str} {p : Addr}, Same H Hx → Hx p = none → outL (rdF t) = [.str x, .str y] → Q (.ref p) (L2.upd Hx p (.lst [.str x, .str y])) := fun {Hx x y p} sx np eo => q p _ (sx.trans (Same.new np)) (by rw [upd_same, eo])
    -- the lines
    refine ⟨fun σ' H' => ∃ (v3 v4 v5 v6 v7 : Option V) (W : List (Str × Str)), σ' = [some (.str t), some (.ref Lw), some (.ref D), v3, v4, v5, v6, v7] ∧ Same H H' ∧ H' Lw = some (.lst (wrds.map V.str)) ∧ H' D = some (.dK (W.map enS)) ∧ tbF [] (Txt.split t ("\n" : Str)) = .inr W, ?_, ?_⟩
    · refine ⟨_, rfl, ⟨_, rfl⟩, t, _, rfl, rfl, rfl, (by show t.length + 2 ≤ 16777216; omega), fun L nL => ?_⟩
      have nLD : L ≠ D := fun z => by
        rw [z, eD] at nL
        cases nL
      have sL := Same.new (o := .lst ((Txt.split t ("\n" : Str)).map V.str)) nL
      have eL := upd_same (H := H2) (a := L) (o := .lst ((Txt.split t ("\n" : Str)).map V.str))
      have eD3 := sL _ _ eD
      have eLw3 := sL _ _ eLw2
      have s13 := s12.trans sL
      have er : ∀ l, tbF [] (Txt.split t ("\n" : Str)) = .inl l → outL (rdF t) = [.str ("text" : Str), .str l] := fun l e => by
        unfold rdF
        rw [e]
        rfl
      generalize L2.upd H2 L _ = H3 at *
      generalize Txt.split t ("\n" : Str) = ls at *
      refine ⟨L, rfl, ⟨_, SqL.of eL⟩, for_list (K := K) (a := L) (xs := ls.map V.str) (fun i σ H' => ∃ (v3 v4 v5 v6 v7 : Option V) (W : List (Str × Str)), σ = [some (.str t), some (.ref Lw), some (.ref D), v3, v4, v5, v6, v7] ∧ Same H H' ∧ H' L = some (.lst (ls.map V.str)) ∧ H' Lw = some (.lst (wrds.map V.str)) ∧ H' D = some (.dK (W.map enS)) ∧ tbF [] ls = tbF W (ls.drop i) ∧ W.length ≤ i)
        ⟨_, _, _, _, _, [], rfl, s13, eL, eLw3, eD3, rfl, Nat.le_refl _⟩ (fun i σ H' _ ⟨_, _, _, _, _, _, _, _, e, _⟩ => SqL.of e) ?_ ?_⟩
      · rintro i x σ Ha hi ⟨v3, v4, v5, v6, v7, W, rfl, sa, eLa, eLwa, eDa, ht, lW⟩
        rw [List.getElem?_map] at hi
        obtain ⟨l, hl, rfl⟩ : ∃ l, ls[i]? = some l ∧ x = .str l := by
          cases hb : ls[i]? with
          | none => rw [hb] at hi; cases hi
          | some p => rw [hb] at hi; exact ⟨p, rfl, (Option.some.inj hi).symm⟩
        have hil := (List.getElem?_eq_some_iff.mp hl).1
        have hlen := hln l (List.mem_of_getElem? hl)
        rw [List.drop_eq_getElem_cons hil, (List.getElem?_eq_some_iff.mp hl).2] at ht
        refine ⟨_, rfl, ⟨_, rfl⟩, l, _, rfl, rfl, rfl, Nat.le_trans hlen (by decide), fun T1 nT => ?_⟩
        have sT := Same.new (o := .tup [.str (Txt.partition l (" " : Str)).1, .str (Txt.partition l (" " : Str)).2.1, .str (Txt.partition l (" " : Str)).2.2]) nT
        refine ⟨T1, _, rfl, SqT.of upd_same, rfl, _, _, rfl, _, _, rfl, _, _, rfl, rfl, ?_⟩
        have eDT := sT _ _ eDa
        have eLT := sT _ _ eLa
        have eLwT := sT _ _ eLwa
        have s0T := sa.trans sT
        generalize L2.upd Ha T1 _ = Hb at *
        have bad : badL W l → outL (rdF t) = [.str ("text" : Str), .str l] := fun hb => er l (by
          rw [ht]
          unfold tbF
          rw [if_pos hb])
        refine ⟨_, rfl, _, rfl, Lw, _, rfl, .inl (SqL.of eLwT), rfl, (by decide +kernel), _, rfl, ?_⟩
        rw [inV_w]
        by_cases c2 : (Txt.partition l (" " : Str)).1 ∈ wrds
        · rw [decide_eq_true c2]
          refine iteF ⟨_, rfl, rfl, _, rfl, ?_⟩
          by_cases c1 : (Txt.partition l (" " : Str)).2.1 = ("" : Str)
          · rw [decide_eq_true (congrArg V.str c1)]
            exact iteT (iteT ⟨_, rfl, ln _, fun p np => put1 s0T np (bad (.inl c1))⟩)
          rw [decide_eq_false (fun z => c1 (V.str.inj z))]
          refine iteF ⟨_, rfl, _, rfl, D, _, rfl, DGet.k (k := .inr (Txt.partition l (" " : Str)).1) eDT, _, rfl, ?_⟩
          rw [valV_ent]
          by_cases c3 : (Txt.partition l (" " : Str)).1 ∈ W.map (·.1)
          · rw [decide_eq_true c3]
            exact iteT ⟨_, rfl, ln _, fun p np => put1 s0T np (bad (.inr (.inr c3)))⟩
          rw [decide_eq_false c3]
          have nb : ¬ badL W l := fun z => z.elim c1 fun z => z.elim (fun z => z c2) c3
          refine iteF ⟨_, rfl, _, rfl, _, rfl, D, _, rfl, DPut.k (k := .inr (Txt.partition l (" " : Str)).1) eDT (by rw [List.length_map]; show W.length < 16777216; omega), ?_⟩
          refine ⟨_, _, _, _, _, W ++ [((Txt.partition l (" " : Str)).1, (Txt.partition l (" " : Str)).2.2)], rfl, upd_keep nDH s0T, ?_, ?_, ?_, ?_, ?_⟩
          · rw [upd_ne nLD]
            exact eLT
          · rw [upd_ne nDL.symm]
            exact eLwT
          · rw [upd_same, put_new (valV_no c3), List.map_append]
            rfl
          · rw [ht]
            unfold tbF
            rw [if_neg nb]
            cases ls.drop (i + 1) <;> rfl
          · rw [List.length_append]
            show W.length + 1 ≤ i + 1
            omega
        · rw [decide_eq_false c2]
          exact iteT (iteT ⟨_, rfl, ln _, fun p np => put1 s0T np (bad (.inr (.inl c2)))⟩)
      · rintro σ Ha ⟨v3, v4, v5, v6, v7, W, rfl, sa, eLa, eLwa, eDa, ht, lW⟩
        rw [List.length_map, List.drop_length] at ht
        exact ⟨_, _, _, _, _, W, rfl, sa, eLwa, eDa, ht⟩
    rintro σ' H3 ⟨v3, v4, v5, v6, v7, W, rfl, s3, eLw3, eD3, eW⟩
    have gW : GoodT W := tbF_good _ [] ⟨List.nodup_nil, (fun p hp => by cases hp), (fun p hp => by cases hp)⟩ hs.ln eW
    have er : rdF t = rdW W := by unfold rdF; rw [eW]
    -- every word leads a line
    refine ⟨fun σ' H' => (∃ v4 : Option V, σ' = [some (.str t), some (.ref Lw), some (.ref D), v3, v4, v5, v6, v7]) ∧ H' = H3 ∧ ∀ x ∈ wrds, x ∈ W.map (·.1), ?_, ?_⟩
    · refine ⟨_, rfl, Lw, rfl, ⟨_, SqL.of eLw3⟩, for_it (walk_list (K := K) (a := Lw) (xs := wrds.map V.str)) (fun i σ H' => (∃ v4 : Option V, σ = [some (.str t), some (.ref Lw), some (.ref D), v3, v4, v5, v6, v7]) ∧ H' = H3 ∧ ∀ x ∈ wrds.take i, x ∈ W.map (·.1)) ⟨⟨_, rfl⟩, rfl, fun x hx => by simp at hx⟩ (fun _ _ H' _ ⟨_, z, _⟩ => by rw [z]; exact SqL.of eLw3) ?_ (fun σ H' ⟨h1, h2, h3⟩ => ⟨h1, h2, by rw [List.length_map, List.take_length] at h3; exact h3⟩)⟩
      rintro i x σ Ha Hb hi ⟨⟨v2, rfl⟩, rfl, hseen⟩ ⟨rfl, hx⟩
      rw [List.getElem?_map] at hx
      obtain ⟨wd, hwd, rfl⟩ : ∃ wd, wrds[i]? = some wd ∧ x = .str wd := by
        cases hb : wrds[i]? with
        | none => rw [hb] at hx; cases hx
        | some p => rw [hb] at hx; exact ⟨p, rfl, (Option.some.inj hx).symm⟩
      refine ⟨_, rfl, _, rfl, D, _, rfl, DGet.k (k := .inr wd) eD3, _, rfl, ?_⟩
      rw [valV_ent]
      by_cases c : wd ∈ W.map (·.1)
      · rw [decide_eq_true c]
        refine iteF ⟨⟨_, rfl⟩, rfl, fun x hx => ?_⟩
        rw [List.take_succ, hwd] at hx
        rcases List.mem_append.mp hx with hx | hx
        · exact hseen x hx
        · rw [List.mem_singleton.mp hx]
          exact c
      · rw [decide_eq_false c]
        have em : rdW W = .text wd := by
          have : missF W = some wd := find_here hwd (by rw [decide_eq_false c]; rfl) fun x hx => by rw [decide_eq_true (hseen x hx)]; rfl
          unfold rdW
          rw [this]
        exact iteT ⟨_, rfl, ln _, fun p np => put1 s3 np (by rw [er, em]; rfl)⟩
    rintro σ' H' ⟨⟨v4', rfl⟩, rfl, hall⟩
    have hmiss : missF W = none := List.find?_eq_none.mpr fun x hx => by rw [decide_eq_true (hall x hx)]; simp
    obtain ⟨hWl, hlines⟩ := tbF_lines _ _ eW
    rw [List.nil_append] at hWl
    -- the shares
    refine ⟨fun σ' Hx => ∃ (v3 v4 v5 v6 v7 : Option V), σ' = [some (.str t), some (.ref Lw), some (.ref D), v3, v4, v5, v6, v7] ∧ Same H' Hx ∧ ∀ p ∈ W, ∃ q, p.2 = shS q, ?_, ?_⟩
    · refine ⟨_, rfl, ⟨_, rfl⟩, t, _, rfl, rfl, rfl, (by show t.length + 2 ≤ 16777216; omega), fun L nL => ?_⟩
      have sL := Same.new (o := .lst ((Txt.split t ("\n" : Str)).map V.str)) nL
      have eL := upd_same (H := H') (a := L) (o := .lst ((Txt.split t ("\n" : Str)).map V.str))
      generalize L2.upd H' L _ = H4 at *
      generalize Txt.split t ("\n" : Str) = ls at *
      refine ⟨L, rfl, ⟨_, SqL.of eL⟩, for_list (K := K) (a := L) (xs := ls.map V.str) (fun i σ Hx => ∃ (v3 v4 v5 v6 v7 : Option V), σ = [some (.str t), some (.ref Lw), some (.ref D), v3, v4, v5, v6, v7] ∧ Same H' Hx ∧ Hx L = some (.lst (ls.map V.str)) ∧ ∀ p ∈ W.take i, ∃ q, p.2 = shS q)
        ⟨_, _, _, _, _, rfl, sL, eL, fun p hp => by simp at hp⟩ (fun i σ Hx _ ⟨_, _, _, _, _, _, _, e, _⟩ => SqL.of e) ?_ ?_⟩
      · rintro i x σ Ha hi ⟨w3, w4, w5, w6, w7, rfl, sa, eLa, hk⟩
        rw [List.getElem?_map] at hi
        obtain ⟨l, hl, rfl⟩ : ∃ l, ls[i]? = some l ∧ x = .str l := by
          cases hb : ls[i]? with
          | none => rw [hb] at hi; cases hi
          | some p => rw [hb] at hi; exact ⟨p, rfl, (Option.some.inj hi).symm⟩
        have hlm := List.mem_of_getElem? hl
        have hlen := hln l hlm
        have hp : W[i]? = some ((Txt.partition l (" " : Str)).1, (Txt.partition l (" " : Str)).2.2) := by
          rw [hWl, List.getElem?_map, hl]
          rfl
        have hll := hlines l hlm
        refine ⟨_, rfl, ⟨_, rfl⟩, l, _, rfl, rfl, rfl, Nat.le_trans hlen (by decide), fun T1 nT => ?_⟩
        have sT := Same.new (o := .tup [.str (Txt.partition l (" " : Str)).1, .str (Txt.partition l (" " : Str)).2.1, .str (Txt.partition l (" " : Str)).2.2]) nT
        refine ⟨T1, _, _, _, rfl, rfl, SqT.of upd_same, rfl, (Txt.partition l (" " : Str)).2.2, rfl, Nat.le_trans (part_lenB l).2 hlen, fun x ex r Hd sd hsh => ?_, fun hno Hd sd => ?_⟩
        · refine ⟨_, rfl, iteF ⟨_, _, _, _, _, rfl, sa.trans (sT.trans sd), sd _ _ (sT _ _ eLa), fun p' hp' => ?_⟩⟩
          rw [List.take_succ, hp] at hp'
          rcases List.mem_append.mp hp' with h | h
          · exact hk p' h
          · rw [List.mem_singleton.mp h]
            exact ⟨x, ex⟩
        · have em : rdW W = .text (lnT ((Txt.partition l (" " : Str)).1, (Txt.partition l (" " : Str)).2.2)) := by
            have : (W.find? fun p => (shOf p.2).isNone) = some ((Txt.partition l (" " : Str)).1, (Txt.partition l (" " : Str)).2.2) := find_here hp (by rw [shOf_none hno]; rfl) fun x hx => by
              obtain ⟨q', h0⟩ := hk x hx
              rw [shOf_eq h0]
              rfl
            unfold rdW
            rw [hmiss]
            show (match W.find? fun p => (shOf p.2).isNone with | some p => Out.text (lnT p) | none => _) = _
            rw [this]
          exact ⟨_, rfl, iteT ⟨_, rfl, ln _, fun p np => put1 (s3.trans (sa.trans (sT.trans sd))) np (by rw [er, em, ← hll]; rfl)⟩⟩
      · rintro σ Ha ⟨w3, w4, w5, w6, w7, rfl, sa, eLa, hk⟩
        rw [List.length_map] at hk
        have : W.length = ls.length := by rw [hWl, List.length_map]
        rw [← this, List.take_length] at hk
        exact ⟨_, _, _, _, _, rfl, sa, hk⟩
    rintro σ' H4 ⟨w3, w4, w5, w6, w7, rfl, s4, hk⟩
    have hfind : (W.find? fun p => (shOf p.2).isNone) = none := List.find?_eq_none.mpr fun x hx => by
      obtain ⟨q', h0⟩ := hk x hx
      rw [shOf_eq h0]
      simp
    have ee : rdW W = endF (svF W ("month" : Str)) (svF W ("year" : Str)) := by
      unfold rdW
      rw [hmiss]
      show (match W.find? fun p => (shOf p.2).isNone with | some p => Out.text (lnT p) | none => _) = _
      rw [hfind]
    have eD4 := s4 _ _ eD3
    have at4 : ∀ {w : Str}, w ∈ wrds → ∃ tx : Str, valV (W.map enS) (.inr w) = some (.str tx) ∧ tx = shS (svF W w) ∧ tx.length ≤ 450 := fun {w} hw => by
      obtain ⟨p0, hp0, e0⟩ := List.mem_map.mp (hall w hw)
      cases hf : W.find? fun p => decide (p.1 = w) with
      | none => exact absurd (decide_eq_true e0) (List.find?_eq_none.mp hf p0 hp0)
      | some p =>
        have hpw : p.1 = w := by
          have h := List.find?_some hf
          exact of_decide_eq_true h
        have hpm : p ∈ W := List.mem_of_find?_eq_some hf
        obtain ⟨q', h0⟩ := hk p hpm
        have ev : svF W w = q' := by
          unfold svF
          rw [hf]
          show (shOf p.2).getD 0 = q'
          rw [shOf_eq h0]
          rfl
        refine ⟨p.2, ?_, by rw [ev]; exact h0, gW.ln p hpm⟩
        unfold valV
        rw [List.find?_map]
        have : (W.find? ((fun kv : Key × V => decide (kv.1 = (Sum.inr w : Key))) ∘ enS)) = some p := by
          rw [← hf]
          congr 1
          funext x
          show decide ((Sum.inr x.1 : Key) = Sum.inr w) = decide (x.1 = w)
          by_cases c : x.1 = w
          · rw [c]
            simp
          · rw [decide_eq_false c, decide_eq_false fun z => c (Sum.inr.inj z)]
        rw [this]
        rfl
    have eLw4 := s4 _ _ eLw3
    refine ⟨_, rfl, Lw, rfl, ⟨_, SqL.of eLw4⟩, fun D5 nD5 => ?_⟩
    refine lc_all (walk_list (K := K) (a := Lw) (xs := wrds.map V.str)) yAt_same nD5 (by show 4 < sizeLine; decide) (fun j v Hx => ∃ (wd : Str) (tq : Addr), wrds[j]? = some wd ∧ v = .ref tq ∧ Tp Hx tq (svF W wd)) (fun j v H1 H2 s ⟨wd, tq, e1, e2, e3⟩ => ⟨wd, tq, e1, e2, e3.same s⟩)
      (fun j v H1 acc acc' hacc ⟨wd, tq, e1, e2, e3⟩ => ⟨wd, tq, e1, e2, by show L2.upd _ _ _ _ = _; rw [upd_ne (ne_of e3 hacc (by intro z; cases z))]; exact e3⟩) (fun Hx sx => SqL.of (sx _ _ eLw4)) ?_ ?_
    · rintro j x Ha Hb R hj sa ⟨rfl, hx⟩ k1
      rw [List.getElem?_map] at hx
      obtain ⟨wd, hwd, rfl⟩ : ∃ wd, wrds[j]? = some wd ∧ x = .str wd := by
        cases hb : wrds[j]? with
        | none => rw [hb] at hx; cases hx
        | some p => rw [hb] at hx; exact ⟨p, rfl, (Option.some.inj hx).symm⟩
      obtain ⟨tx, hv, etx, ltx⟩ := at4 (List.mem_of_getElem? hwd)
      have dg : DGet Hb D (.str wd) (some (.str tx)) := by
        have := DGet.k (k := .inr wd) (sa _ _ eD4)
        rw [hv] at this
        exact this
      refine ⟨rfl, _, rfl, _, rfl, D, _, rfl, dg, tx, rfl, ltx, fun x ex r Hd sd hsh => ?_, fun hno => absurd etx (hno _)⟩
      have e2 : x = svF W wd := shS_inj (ex.symm.trans etx)
      rw [e2] at hsh
      exact k1 _ Hd sd ⟨wd, r, hwd, rfl, hsh⟩
    · intro us H5 hl eD5 s5 hp
      match us, hl with
      | [u1, u2, u3, u4], _ =>
        obtain ⟨x1, t1, e1, rfl, f1⟩ := hp 0 _ rfl
        obtain ⟨x2, t2, e2, rfl, f2⟩ := hp 1 _ rfl
        obtain ⟨x3, t3, e3, rfl, f3⟩ := hp 2 _ rfl
        obtain ⟨x4, t4, e4, rfl, f4⟩ := hp 3 _ rfl
        cases e1
        cases e2
        obtain ⟨txm, _, etm, ltm⟩ := at4 (w := ("month" : Str)) (by decide +kernel)
        obtain ⟨txy, _, ety, lty⟩ := at4 (w := ("year" : Str)) (by decide +kernel)
        refine ⟨D5, t1, t2, t3, t4, _, _, rfl, eD5, f1, f2, shS_sz ltm etm, shS_sz lty ety, fun H6 s6 => ?_⟩
        have s06 := s3.trans (s4.trans (s5.trans s6))
        generalize svF W ("month" : Str) = mq at *
        generalize svF W ("year" : Str) = yq at *
        refine ⟨_, rfl, ln _, fun p1 n1 => ⟨ln _, fun p2 n2 => ⟨ln _, fun p3 n3 => ?_⟩⟩⟩
        have g1 := Same.new (o := .lst [.str ("calendar" : Str), .str (faultS mq yq)]) n1
        have g2 := Same.new (o := .lst [.str ("good" : Str), .str ("" : Str)]) n2
        have g3 := Same.new (o := .lst [.ref p1, .ref p2]) n3
        refine ⟨_, rfl, rfl, .inr ⟨_, rfl, ?_⟩⟩
        by_cases c : faultS mq yq = ("" : Str)
        · rw [decide_eq_true (congrArg V.str c)]
          refine ⟨p3, _, _, _, rfl, rfl, SqL.of upd_same, rfl, q p2 _ (s06.trans (g1.trans (g2.trans g3))) ?_⟩
          rw [g3 _ _ upd_same, er, ee]
          unfold endF
          rw [if_pos ((fault_iff mq yq).mp c)]
          rfl
        · rw [decide_eq_false (fun z => c (V.str.inj z))]
          refine ⟨p3, _, _, _, rfl, rfl, SqL.of upd_same, rfl, q p1 _ (s06.trans (g1.trans (g2.trans g3))) ?_⟩
          rw [g3 _ _ (g2 _ _ upd_same), er, ee]
          unfold endF
          rw [if_neg (fun z => c ((fault_iff mq yq).mpr z))]
          rfl
end
/-! ### which kind a kept error is -/
/-- the ten classes of errors, and what an error of the class D is an instance of -/
structure KdF (K : PySem.W.Frag) (mg : Str → Option Value) (D : Addr) (b0 b1 b2 b3 b4 b5 b6 b7 b8 b9 c0 c1 c2 c3 c4 c5 : Bool) (C_NoShare C_NoCalendar C_NoDate C_NoWheel C_NoName C_NoDay C_Taken C_NoText C_NoNote C_NoDeed : Addr) : Prop where
  xc : XcF K D
  m0 : mg "NoShare" = some (.ref C_NoShare)
  m1 : mg "NoCalendar" = some (.ref C_NoCalendar)
  m2 : mg "NoDate" = some (.ref C_NoDate)
  m3 : mg "NoWheel" = some (.ref C_NoWheel)
  m4 : mg "NoName" = some (.ref C_NoName)
  m5 : mg "NoDay" = some (.ref C_NoDay)
  m6 : mg "Taken" = some (.ref C_Taken)
  m7 : mg "NoText" = some (.ref C_NoText)
  m8 : mg "NoNote" = some (.ref C_NoNote)
  m9 : mg "NoDeed" = some (.ref C_NoDeed)
  k0 : PySem.W.kitOne K (.ref D) (.ref C_NoShare) = some b0
  k1 : PySem.W.kitOne K (.ref D) (.ref C_NoCalendar) = some b1
  k2 : PySem.W.kitOne K (.ref D) (.ref C_NoDate) = some b2
  k3 : PySem.W.kitOne K (.ref D) (.ref C_NoWheel) = some b3
  k4 : PySem.W.kitOne K (.ref D) (.ref C_NoName) = some b4
  k5 : PySem.W.kitOne K (.ref D) (.ref C_NoDay) = some b5
  k6 : PySem.W.kitOne K (.ref D) (.ref C_Taken) = some b6
  k7 : PySem.W.kitOne K (.ref D) (.ref C_NoText) = some b7
  k8 : PySem.W.kitOne K (.ref D) (.ref C_NoNote) = some b8
  k9 : PySem.W.kitOne K (.ref D) (.ref C_NoDeed) = some b9
  t0 : PySem.W.kitOne K (.ref D) (.type "ZeroDivisionError") = some c0
  t1 : PySem.W.kitOne K (.ref D) (.type "LookupError") = some c1
  t2 : PySem.W.kitOne K (.ref D) (.type "ValueError") = some c2
  t3 : PySem.W.kitOne K (.ref D) (.type "KeyError") = some c3
  t4 : PySem.W.kitOne K (.ref D) (.type "IndexError") = some c4
  t5 : PySem.W.kitOne K (.ref D) (.type "RuntimeError") = some c5
/-! ### which kinds a kept error is of, either of two -/
def spKinds (D : Addr) (bs : List Bool) : Sp := fun vs H Q _ => ∃ (a d : Addr) (fs : List (Str × V)), vs = [.ref a] ∧ H a = some (KX a (.ref D) (some d)) ∧ H d = some (.xd fs) ∧ ∀ l H', Same H H' → H' l = some (.lst (bs.map V.bl)) → Q (.ref l) H'
def spKinds2 (CN CV : Addr) : Sp := fun vs H Q E => spKinds CN [false, false, false, false, false, false, false, true, false, false] vs H Q E ∨ spKinds CV [false, true, false, false, false, false, false, false, false, false] vs H Q E
section
variable {P : Program} {w : World} {K : PySem.W.Frag} {mg : Str → Option Value} {base : Heap} {CN CV : Addr} {C_NoShare C_NoCalendar C_NoDate C_NoWheel C_NoName C_NoDay C_Taken C_NoText C_NoNote C_NoDeed : Addr}
theorem ok_kinds2 (D : Df K mg "_law_kinds" s_l_kinds []) (T : KdF K mg CN false false false false false false false true false false false false true false false false C_NoShare C_NoCalendar C_NoDate C_NoWheel C_NoName C_NoDay C_Taken C_NoText C_NoNote C_NoDeed) (T' : KdF K mg CV false true false false false false false false false false false false true false false false C_NoShare C_NoCalendar C_NoDate C_NoWheel C_NoName C_NoDay C_Taken C_NoText C_NoNote C_NoDeed) (g_isinstance : mg "isinstance" = none) :
    Ca P w K mg base CX0 1 "_law_kinds" s_l_kinds [] ["_law_kept"] (spKinds2 CN CV) := by
  refine ca0 (k := 0) D c_l_kinds (fun vs H Q E h => ?_) fun f cdv A outer s H vs Q E hr h => ?_
  · rcases h with ⟨a, d, fs, rfl, _⟩ | ⟨a, d, fs, rfl, _⟩ <;> rfl
  · rcases h with ⟨a, d, fs, rfl, ha, hd, q⟩ | ⟨a, d, fs, rfl, ha, hd, q⟩
    · skip
      have XC := T.xc
      have h_NoShare := T.m0
      have h_NoCalendar := T.m1
      have h_NoDate := T.m2
      have h_NoWheel := T.m3
      have h_NoName := T.m4
      have h_NoDay := T.m5
      have h_Taken := T.m6
      have h_NoText := T.m7
      have h_NoNote := T.m8
      have h_NoDeed := T.m9
      refine ⟨_, (pss_cons (ps_set (i := 1) c_l_kinds.nd rfl (.inl rfl) (pe_lst (pa_cons (pe_callB (call_isK XC) rfl g_isinstance (by decide +kernel) (pa_cons (pv 0) (pa_cons (pe_glob (v := .ref C_NoShare) rfl h_NoShare rfl) pa_nil))) (pa_cons (pe_callB (call_isK XC) rfl g_isinstance (by decide +kernel) (pa_cons (pv 0) (pa_cons (pe_glob (v := .ref C_NoCalendar) rfl h_NoCalendar rfl) pa_nil))) (pa_cons (pe_callB (call_isK XC) rfl g_isinstance (by decide +kernel) (pa_cons (pv 0) (pa_cons (pe_glob (v := .ref C_NoDate) rfl h_NoDate rfl) pa_nil))) pa_nil)))))
      (pss_cons (ps_set (i := 1) c_l_kinds.nd rfl (.inl rfl) (pe_op op_cat (pv 1) (pe_lst (pa_cons (pe_callB (call_isK XC) rfl g_isinstance (by decide +kernel) (pa_cons (pv 0) (pa_cons (pe_glob (v := .ref C_NoWheel) rfl h_NoWheel rfl) pa_nil))) (pa_cons (pe_callB (call_isK XC) rfl g_isinstance (by decide +kernel) (pa_cons (pv 0) (pa_cons (pe_glob (v := .ref C_NoName) rfl h_NoName rfl) pa_nil))) (pa_cons (pe_callB (call_isK XC) rfl g_isinstance (by decide +kernel) (pa_cons (pv 0) (pa_cons (pe_glob (v := .ref C_NoDay) rfl h_NoDay rfl) pa_nil))) pa_nil))))))
      (pss_cons (ps_set (i := 1) c_l_kinds.nd rfl (.inl rfl) (pe_op op_cat (pv 1) (pe_lst (pa_cons (pe_callB (call_isK XC) rfl g_isinstance (by decide +kernel) (pa_cons (pv 0) (pa_cons (pe_glob (v := .ref C_Taken) rfl h_Taken rfl) pa_nil))) (pa_cons (pe_callB (call_isK XC) rfl g_isinstance (by decide +kernel) (pa_cons (pv 0) (pa_cons (pe_glob (v := .ref C_NoText) rfl h_NoText rfl) pa_nil))) (pa_cons (pe_callB (call_isK XC) rfl g_isinstance (by decide +kernel) (pa_cons (pv 0) (pa_cons (pe_glob (v := .ref C_NoNote) rfl h_NoNote rfl) pa_nil))) pa_nil))))))
      (pss_one (ps_ret (pe_op op_cat (pv 1) (pe_lst (pa_cons (pe_callB (call_isK XC) rfl g_isinstance (by decide +kernel) (pa_cons (pv 0) (pa_cons (pe_glob (v := .ref C_NoDeed) rfl h_NoDeed rfl) pa_nil))) pa_nil)))))))), ?_⟩
      refine ⟨_, rfl, a, d, fs, _, _, _, rfl, ha, hd, .own _, T.k0, _, rfl, a, d, fs, _, _, _, rfl, ha, hd, .own _, T.k1, _, rfl, a, d, fs, _, _, _, rfl, ha, hd, .own _, T.k2, ln _, fun p1 n1 => ?_⟩
      have s1 := Same.new (o := .lst [.bl false, .bl false, .bl false]) n1
      refine ⟨_, rfl, _, rfl, a, d, fs, _, _, _, rfl, s1 _ _ ha, s1 _ _ hd, .own _, T.k3, _, rfl, a, d, fs, _, _, _, rfl, s1 _ _ ha, s1 _ _ hd, .own _, T.k4, _, rfl, a, d, fs, _, _, _, rfl, s1 _ _ ha, s1 _ _ hd, .own _, T.k5, ln _, fun p2 n2 => ?_⟩
      have s2 := s1.trans (Same.new (o := .lst [.bl false, .bl false, .bl false]) n2)
      refine ⟨p1, p2, _, _, rfl, rfl, (Same.new n2 _ _ upd_same), upd_same, (by show 6 ≤ sizeLine; decide), fun p3 n3 => ?_⟩
      have s3 := s2.trans (Same.new (o := .lst ([.bl false, .bl false, .bl false] ++ [.bl false, .bl false, .bl false])) n3)
      refine ⟨_, rfl, _, rfl, a, d, fs, _, _, _, rfl, s3 _ _ ha, s3 _ _ hd, .own _, T.k6, _, rfl, a, d, fs, _, _, _, rfl, s3 _ _ ha, s3 _ _ hd, .own _, T.k7, _, rfl, a, d, fs, _, _, _, rfl, s3 _ _ ha, s3 _ _ hd, .own _, T.k8, ln _, fun p4 n4 => ?_⟩
      have s4 := s3.trans (Same.new (o := .lst [.bl false, .bl true, .bl false]) n4)
      refine ⟨p3, p4, _, _, rfl, rfl, (Same.new n4 _ _ upd_same), upd_same, (by show 9 ≤ sizeLine; decide), fun p5 n5 => ?_⟩
      have s5 := s4.trans (Same.new (o := .lst (([.bl false, .bl false, .bl false] ++ [.bl false, .bl false, .bl false]) ++ [.bl false, .bl true, .bl false])) n5)
      refine ⟨_, rfl, _, rfl, a, d, fs, _, _, _, rfl, s5 _ _ ha, s5 _ _ hd, .own _, T.k9, ln _, fun p6 n6 => ?_⟩
      have s6 := s5.trans (Same.new (o := .lst [.bl false]) n6)
      refine ⟨p5, p6, _, _, rfl, rfl, (Same.new n6 _ _ upd_same), upd_same, (by show 10 ≤ sizeLine; decide), fun p7 n7 => ?_⟩
      exact q p7 _ (s6.trans (Same.new n7)) upd_same
    · skip
      have XC := T'.xc
      have h_NoShare := T'.m0
      have h_NoCalendar := T'.m1
      have h_NoDate := T'.m2
      have h_NoWheel := T'.m3
      have h_NoName := T'.m4
      have h_NoDay := T'.m5
      have h_Taken := T'.m6
      have h_NoText := T'.m7
      have h_NoNote := T'.m8
      have h_NoDeed := T'.m9
      refine ⟨_, (pss_cons (ps_set (i := 1) c_l_kinds.nd rfl (.inl rfl) (pe_lst (pa_cons (pe_callB (call_isK XC) rfl g_isinstance (by decide +kernel) (pa_cons (pv 0) (pa_cons (pe_glob (v := .ref C_NoShare) rfl h_NoShare rfl) pa_nil))) (pa_cons (pe_callB (call_isK XC) rfl g_isinstance (by decide +kernel) (pa_cons (pv 0) (pa_cons (pe_glob (v := .ref C_NoCalendar) rfl h_NoCalendar rfl) pa_nil))) (pa_cons (pe_callB (call_isK XC) rfl g_isinstance (by decide +kernel) (pa_cons (pv 0) (pa_cons (pe_glob (v := .ref C_NoDate) rfl h_NoDate rfl) pa_nil))) pa_nil)))))
      (pss_cons (ps_set (i := 1) c_l_kinds.nd rfl (.inl rfl) (pe_op op_cat (pv 1) (pe_lst (pa_cons (pe_callB (call_isK XC) rfl g_isinstance (by decide +kernel) (pa_cons (pv 0) (pa_cons (pe_glob (v := .ref C_NoWheel) rfl h_NoWheel rfl) pa_nil))) (pa_cons (pe_callB (call_isK XC) rfl g_isinstance (by decide +kernel) (pa_cons (pv 0) (pa_cons (pe_glob (v := .ref C_NoName) rfl h_NoName rfl) pa_nil))) (pa_cons (pe_callB (call_isK XC) rfl g_isinstance (by decide +kernel) (pa_cons (pv 0) (pa_cons (pe_glob (v := .ref C_NoDay) rfl h_NoDay rfl) pa_nil))) pa_nil))))))
      (pss_cons (ps_set (i := 1) c_l_kinds.nd rfl (.inl rfl) (pe_op op_cat (pv 1) (pe_lst (pa_cons (pe_callB (call_isK XC) rfl g_isinstance (by decide +kernel) (pa_cons (pv 0) (pa_cons (pe_glob (v := .ref C_Taken) rfl h_Taken rfl) pa_nil))) (pa_cons (pe_callB (call_isK XC) rfl g_isinstance (by decide +kernel) (pa_cons (pv 0) (pa_cons (pe_glob (v := .ref C_NoText) rfl h_NoText rfl) pa_nil))) (pa_cons (pe_callB (call_isK XC) rfl g_isinstance (by decide +kernel) (pa_cons (pv 0) (pa_cons (pe_glob (v := .ref C_NoNote) rfl h_NoNote rfl) pa_nil))) pa_nil))))))
      (pss_one (ps_ret (pe_op op_cat (pv 1) (pe_lst (pa_cons (pe_callB (call_isK XC) rfl g_isinstance (by decide +kernel) (pa_cons (pv 0) (pa_cons (pe_glob (v := .ref C_NoDeed) rfl h_NoDeed rfl) pa_nil))) pa_nil)))))))), ?_⟩
      refine ⟨_, rfl, a, d, fs, _, _, _, rfl, ha, hd, .own _, T'.k0, _, rfl, a, d, fs, _, _, _, rfl, ha, hd, .own _, T'.k1, _, rfl, a, d, fs, _, _, _, rfl, ha, hd, .own _, T'.k2, ln _, fun p1 n1 => ?_⟩
      have s1 := Same.new (o := .lst [.bl false, .bl true, .bl false]) n1
      refine ⟨_, rfl, _, rfl, a, d, fs, _, _, _, rfl, s1 _ _ ha, s1 _ _ hd, .own _, T'.k3, _, rfl, a, d, fs, _, _, _, rfl, s1 _ _ ha, s1 _ _ hd, .own _, T'.k4, _, rfl, a, d, fs, _, _, _, rfl, s1 _ _ ha, s1 _ _ hd, .own _, T'.k5, ln _, fun p2 n2 => ?_⟩
      have s2 := s1.trans (Same.new (o := .lst [.bl false, .bl false, .bl false]) n2)
      refine ⟨p1, p2, _, _, rfl, rfl, (Same.new n2 _ _ upd_same), upd_same, (by show 6 ≤ sizeLine; decide), fun p3 n3 => ?_⟩
      have s3 := s2.trans (Same.new (o := .lst ([.bl false, .bl true, .bl false] ++ [.bl false, .bl false, .bl false])) n3)
      refine ⟨_, rfl, _, rfl, a, d, fs, _, _, _, rfl, s3 _ _ ha, s3 _ _ hd, .own _, T'.k6, _, rfl, a, d, fs, _, _, _, rfl, s3 _ _ ha, s3 _ _ hd, .own _, T'.k7, _, rfl, a, d, fs, _, _, _, rfl, s3 _ _ ha, s3 _ _ hd, .own _, T'.k8, ln _, fun p4 n4 => ?_⟩
      have s4 := s3.trans (Same.new (o := .lst [.bl false, .bl false, .bl false]) n4)
      refine ⟨p3, p4, _, _, rfl, rfl, (Same.new n4 _ _ upd_same), upd_same, (by show 9 ≤ sizeLine; decide), fun p5 n5 => ?_⟩
      have s5 := s4.trans (Same.new (o := .lst (([.bl false, .bl true, .bl false] ++ [.bl false, .bl false, .bl false]) ++ [.bl false, .bl false, .bl false])) n5)
      refine ⟨_, rfl, _, rfl, a, d, fs, _, _, _, rfl, s5 _ _ ha, s5 _ _ hd, .own _, T'.k9, ln _, fun p6 n6 => ?_⟩
      have s6 := s5.trans (Same.new (o := .lst [.bl false]) n6)
      refine ⟨p5, p6, _, _, rfl, rfl, (Same.new n6 _ _ upd_same), upd_same, (by show 10 ≤ sizeLine; decide), fun p7 n7 => ?_⟩
      exact q p7 _ (s6.trans (Same.new n7)) upd_same
end
/-! ### what is told of a text, or that it is refused -/
section
variable {P : Program} {w : World} {K : PySem.W.Frag} {mg : Str → Option Value} {base : Heap} {C Cc CN CV : Addr} {C_NoShare C_NoDate C_NoWheel C_NoName C_NoDay C_Taken C_NoNote C_NoDeed : Addr}
theorem ok_lasked76 (D : Df K mg "_law_asked" s_l_asked []) (T : KdF K mg CN false false false false false false false true false false false false true false false false C_NoShare CV C_NoDate C_NoWheel C_NoName C_NoDay C_Taken CN C_NoNote C_NoDeed) (T' : KdF K mg CV false true false false false false false false false false false false true false false false C_NoShare CV C_NoDate C_NoWheel C_NoName C_NoDay C_Taken CN C_NoNote C_NoDeed)
    (XA : ∃ B : Value → Bool, (∀ c ∈ [Value.ref CV, .ref C_NoDate, .ref C_NoDay, .ref C_NoDeed, .ref C_NoName, .ref C_NoNote, .ref C_NoShare, .ref CN, .ref C_NoWheel, .ref C_Taken], PySem.W.exmOne K (.ref CN) c = some (B c)) ∧ ([Value.ref CV, .ref C_NoDate, .ref C_NoDay, .ref C_NoDeed, .ref C_NoName, .ref C_NoNote, .ref C_NoShare, .ref CN, .ref C_NoWheel, .ref C_Taken]).any B = true)
    (XA' : ∃ B : Value → Bool, (∀ c ∈ [Value.ref CV, .ref C_NoDate, .ref C_NoDay, .ref C_NoDeed, .ref C_NoName, .ref C_NoNote, .ref C_NoShare, .ref CN, .ref C_NoWheel, .ref C_Taken], PySem.W.exmOne K (.ref CV) c = some (B c)) ∧ ([Value.ref CV, .ref C_NoDate, .ref C_NoDay, .ref C_NoDeed, .ref C_NoName, .ref C_NoNote, .ref C_NoShare, .ref CN, .ref C_NoWheel, .ref C_Taken]).any B = true)
    (n_at : PySem.W.findIn K (.ref CN) "at" = some none) (n_why : PySem.W.findIn K (.ref CN) "why" = some none) (n_at' : PySem.W.findIn K (.ref CV) "at" = some none) (n_why' : PySem.W.findIn K (.ref CV) "why" = some none) (h_Calendar : mg "Calendar" = some (.ref Cc)) (TC : CaT K C Cc) (TY : ∀ (H : Hp) (a dx : Addr) (fs : List (Str × V)), H a = some (.ins Cc dx fs) → TyX K H (.ref a) (.ref Cc)) (g_isinstance : mg "isinstance" = none) (g_ValueError : mg "ValueError" = none) (g_int : mg "int" = none)
    (f_read_calendar : Ca P w K mg base (L2.CX P w) 10 "read_calendar" s_read_calendar [] ["text"] (spRcX C Cc CN CV)) (f_l_kinds : Ca P w K mg base CX0 1 "_law_kinds" s_l_kinds [] ["_law_kept"] (spKinds2 CN CV)) :
    Ca P w K mg base CX0 11 "_law_asked" s_l_asked [] ["_law_text"] spOut := by
  refine ca0 (k := 10) D c_l_asked (fun vs H Q E h => ?_) fun f cdv A outer s H vs Q E hr h => ?_
  · obtain ⟨t, rfl, _⟩ := h
    rfl
  · obtain ⟨t, rfl, hs, q⟩ := h
    have h_NoShare := T.m0
    have h_NoCalendar := T.m1
    have h_NoDate := T.m2
    have h_NoWheel := T.m3
    have h_NoName := T.m4
    have h_NoDay := T.m5
    have h_Taken := T.m6
    have h_NoText := T.m7
    have h_NoNote := T.m8
    have h_NoDeed := T.m9
    by_cases hv : ∃ x, rdF t = .cal x
    · obtain ⟨x, ex⟩ := hv
      have XC := T'.xc
      have n_at := n_at'
      have n_why := n_why'
      rw [ex] at q
      refine ⟨_, (pss_cons (ps_set (i := 1) c_l_asked.nd rfl (.inl rfl) pe_non)
      (pss_cons (ps_set (i := 2) c_l_asked.nd rfl (.inl rfl) pe_non)
      (pss_cons (ps_try_keep (i := 3) (j := 1) rfl rfl rfl c_l_asked.nd rfl rfl rfl rfl (.cons rfl rfl h_NoCalendar (.cons rfl rfl h_NoDate (.cons rfl rfl h_NoDay (.cons rfl rfl h_NoDeed (.cons rfl rfl h_NoName (.cons rfl rfl h_NoNote (.cons rfl rfl h_NoShare (.cons rfl rfl h_NoText (.cons rfl rfl h_NoWheel (.cons rfl rfl h_Taken .nil)))))))))) (by show 10 ≤ 100; decide) (hb := fun W pn xe tk po =>
      (pss_one (ps_set (i := 2) c_l_asked.nd rfl (.inl rfl) (pe_caS f_read_calendar b_read_calendar hr (by decide) tk rfl (pa_cons (pv 0) pa_nil))))))
      (pss_cons (ps_if (pt_cmp (pc_isN (pv 1))) (pss_one (ps_ret (pe_lst (pa_cons pe_str (pa_cons (pe_ix ix_list (pe_lst (pa_cons pe_str (pa_cons pe_str pa_nil))) (pe_callTy call_int1 rfl g_int (by decide +kernel) (pa_cons (pe_callB call_isi rfl g_isinstance (by decide +kernel) (pa_cons (pv 2) (pa_cons (pe_glob (v := .ref Cc) rfl h_Calendar rfl) pa_nil))) pa_nil)) (fun _ _ => rfl)) pa_nil))))) pss_nil)
      (pss_cons (ps_set (i := 4) c_l_asked.nd rfl (.inl rfl) (pe_ca f_l_kinds b_l_kinds hr (by decide) pass0 rfl (pa_cons (pv 1) pa_nil)))
      (pss_cons (ps_if (PW.pt (pw_or (pt_cmpR op_ne (pe_bm PySem.F.plainAttrs_list PySem.F.slot_list_count PySem.F.type_list_count (mt_countG eqB_flat (hr.mono (by decide))) (pv 4) (pa_cons pe_bl pa_nil)) pe_int (nomark _)) (pw_or1 (pt_not (pt_val (pe_callB (call_isK XC) rfl g_isinstance (by decide +kernel) (pa_cons (pv 1) (pa_cons (pe_bltn (v := .ty "ValueError") rfl g_ValueError (by decide +kernel) rfl) pa_nil)))))))) (pss_one (ps_ret (pe_lst (pa_cons pe_str (pa_cons pe_str pa_nil))))) pss_nil)
      (pss_cons (ps_if (pt_val (pe_ix ix_list (pv 4) pe_int (fun _ _ => rfl))) (pss_one (ps_ret (pe_lst (pa_cons pe_str (pa_cons (pe_kf XC n_at (pv 1)) pa_nil))))) pss_nil)
      (pss_cons (ps_if (pt_val (pe_ix ix_list (pv 4) pe_int (fun _ _ => rfl))) (pss_one (ps_ret (pe_lst (pa_cons pe_str (pa_cons (pe_kf XC n_why (pv 1)) pa_nil))))) pss_nil)
      (pss_one (ps_ret (pe_lst (pa_cons pe_str (pa_cons pe_str pa_nil))))))))))))), ?_⟩
      refine ⟨_, rfl, t, rfl, hs, fun z => (by rw [ex] at z; cases z), fun l z => (by rw [ex] at z; cases z), fun x' z e' H2 ne' s2 he' => ?_⟩
      rw [ex] at z
      cases z
      refine ⟨XA', fun a' na' => ?_⟩
      have s3 := Same.new (o := KX a' (.ref CV) (some e')) na'
      have ka := upd_same (H := H2) (a := a') (o := KX a' (.ref CV) (some e'))
      have ke := s3 _ _ he'
      have s13 := s2.trans s3
      generalize L2.upd H2 a' _ = H3 at *
      refine ⟨_, rfl, _, rfl, iteF ?_⟩
      refine ⟨_, rfl, .inr ⟨a', e', _, rfl, ka, ke, fun ls H4 s4 el => ?_⟩⟩
      have ka4 := s4 _ _ ka
      have ke4 := s4 _ _ ke
      refine ⟨_, rfl, .inl ⟨rfl, _, SqL.of el⟩, ls, _, .bl true, fun j => decide (j = 1), rfl, rfl, el, ?_, fun H5 s5 => ?_⟩
      · intro j z hj H5 s5
        match j, hj with
        | 0, hj => cases hj; exact ⟨rfl, rfl, rfl⟩
        | 1, hj => cases hj; exact ⟨rfl, rfl, rfl⟩
        | 2, hj => cases hj; exact ⟨rfl, rfl, rfl⟩
        | 3, hj => cases hj; exact ⟨rfl, rfl, rfl⟩
        | 4, hj => cases hj; exact ⟨rfl, rfl, rfl⟩
        | 5, hj => cases hj; exact ⟨rfl, rfl, rfl⟩
        | 6, hj => cases hj; exact ⟨rfl, rfl, rfl⟩
        | 7, hj => cases hj; exact ⟨rfl, rfl, rfl⟩
        | 8, hj => cases hj; exact ⟨rfl, rfl, rfl⟩
        | 9, hj => cases hj; exact ⟨rfl, rfl, rfl⟩
        | j + 10, hj => simp at hj
      · have s45 : Same H4 H5 := s5
        refine ⟨rfl, _, rfl, no' rfl ?_⟩
        refine ⟨_, rfl, a', e', _, _, _, _, rfl, s45 _ _ ka4, s45 _ _ ke4, .ty _, T'.t2, _, rfl, no' rfl ?_⟩
        refine ⟨_, rfl, ls, _, _, _, rfl, rfl, SqL.of (s45 _ _ el), rfl, _, rfl, no' rfl ?_⟩
        refine ⟨_, rfl, ls, _, _, _, rfl, rfl, SqL.of (s45 _ _ el), rfl, _, rfl, iteT ?_⟩
        refine ⟨_, rfl, a', e', _, _, rfl, s45 _ _ ka4, s45 _ _ ke4, rfl, ln _, fun p np => ?_⟩
        exact q p _ ((s13.trans (s4.trans s45)).trans (Same.new np)) upd_same
    by_cases ht : ∃ l, rdF t = .text l
    · obtain ⟨l, el'⟩ := ht
      have XC := T.xc
      rw [el'] at q
      refine ⟨_, (pss_cons (ps_set (i := 1) c_l_asked.nd rfl (.inl rfl) pe_non)
      (pss_cons (ps_set (i := 2) c_l_asked.nd rfl (.inl rfl) pe_non)
      (pss_cons (ps_try_keep (i := 3) (j := 1) rfl rfl rfl c_l_asked.nd rfl rfl rfl rfl (.cons rfl rfl h_NoCalendar (.cons rfl rfl h_NoDate (.cons rfl rfl h_NoDay (.cons rfl rfl h_NoDeed (.cons rfl rfl h_NoName (.cons rfl rfl h_NoNote (.cons rfl rfl h_NoShare (.cons rfl rfl h_NoText (.cons rfl rfl h_NoWheel (.cons rfl rfl h_Taken .nil)))))))))) (by show 10 ≤ 100; decide) (hb := fun W pn xe tk po =>
      (pss_one (ps_set (i := 2) c_l_asked.nd rfl (.inl rfl) (pe_caS f_read_calendar b_read_calendar hr (by decide) tk rfl (pa_cons (pv 0) pa_nil))))))
      (pss_cons (ps_if (pt_cmp (pc_isN (pv 1))) (pss_one (ps_ret (pe_lst (pa_cons pe_str (pa_cons (pe_ix ix_list (pe_lst (pa_cons pe_str (pa_cons pe_str pa_nil))) (pe_callTy call_int1 rfl g_int (by decide +kernel) (pa_cons (pe_callB call_isi rfl g_isinstance (by decide +kernel) (pa_cons (pv 2) (pa_cons (pe_glob (v := .ref Cc) rfl h_Calendar rfl) pa_nil))) pa_nil)) (fun _ _ => rfl)) pa_nil))))) pss_nil)
      (pss_cons (ps_set (i := 4) c_l_asked.nd rfl (.inl rfl) (pe_ca f_l_kinds b_l_kinds hr (by decide) pass0 rfl (pa_cons (pv 1) pa_nil)))
      (pss_cons (ps_if (PW.pt (pw_or (pt_cmpR op_ne (pe_bm PySem.F.plainAttrs_list PySem.F.slot_list_count PySem.F.type_list_count (mt_countG eqB_flat (hr.mono (by decide))) (pv 4) (pa_cons pe_bl pa_nil)) pe_int (nomark _)) (pw_or1 (pt_not (pt_val (pe_callB (call_isK XC) rfl g_isinstance (by decide +kernel) (pa_cons (pv 1) (pa_cons (pe_bltn (v := .ty "ValueError") rfl g_ValueError (by decide +kernel) rfl) pa_nil)))))))) (pss_one (ps_ret (pe_lst (pa_cons pe_str (pa_cons pe_str pa_nil))))) pss_nil)
      (pss_cons (ps_if (pt_val (pe_ix ix_list (pv 4) pe_int (fun _ _ => rfl))) (pss_one (ps_ret (pe_lst (pa_cons pe_str (pa_cons (pe_kf XC n_at (pv 1)) pa_nil))))) pss_nil)
      (pss_cons (ps_if (pt_val (pe_ix ix_list (pv 4) pe_int (fun _ _ => rfl))) (pss_one (ps_ret (pe_lst (pa_cons pe_str (pa_cons (pe_kf XC n_why (pv 1)) pa_nil))))) pss_nil)
      (pss_one (ps_ret (pe_lst (pa_cons pe_str (pa_cons pe_str pa_nil))))))))))))), ?_⟩
      refine ⟨_, rfl, t, rfl, hs, fun z => (by rw [el'] at z; cases z), fun l z e' H2 ne' s2 he' => ?_, fun x z => (by rw [el'] at z; cases z)⟩
      rw [el'] at z
      cases z
      refine ⟨XA, fun a' na' => ?_⟩
      have s3 := Same.new (o := KX a' (.ref CN) (some e')) na'
      have ka := upd_same (H := H2) (a := a') (o := KX a' (.ref CN) (some e'))
      have ke := s3 _ _ he'
      have s13 := s2.trans s3
      generalize L2.upd H2 a' _ = H3 at *
      refine ⟨_, rfl, _, rfl, iteF ?_⟩
      refine ⟨_, rfl, .inl ⟨a', e', _, rfl, ka, ke, fun ls H4 s4 el => ?_⟩⟩
      have ka4 := s4 _ _ ka
      have ke4 := s4 _ _ ke
      refine ⟨_, rfl, .inl ⟨rfl, _, SqL.of el⟩, ls, _, .bl true, fun j => decide (j = 7), rfl, rfl, el, ?_, fun H5 s5 => ?_⟩
      · intro j z hj H5 s5
        match j, hj with
        | 0, hj => cases hj; exact ⟨rfl, rfl, rfl⟩
        | 1, hj => cases hj; exact ⟨rfl, rfl, rfl⟩
        | 2, hj => cases hj; exact ⟨rfl, rfl, rfl⟩
        | 3, hj => cases hj; exact ⟨rfl, rfl, rfl⟩
        | 4, hj => cases hj; exact ⟨rfl, rfl, rfl⟩
        | 5, hj => cases hj; exact ⟨rfl, rfl, rfl⟩
        | 6, hj => cases hj; exact ⟨rfl, rfl, rfl⟩
        | 7, hj => cases hj; exact ⟨rfl, rfl, rfl⟩
        | 8, hj => cases hj; exact ⟨rfl, rfl, rfl⟩
        | 9, hj => cases hj; exact ⟨rfl, rfl, rfl⟩
        | j + 10, hj => simp at hj
      · have s45 : Same H4 H5 := s5
        refine ⟨rfl, _, rfl, no' rfl ?_⟩
        refine ⟨_, rfl, a', e', _, _, _, _, rfl, s45 _ _ ka4, s45 _ _ ke4, .ty _, T.t2, _, rfl, no' rfl ?_⟩
        refine ⟨_, rfl, ls, _, _, _, rfl, rfl, SqL.of (s45 _ _ el), rfl, _, rfl, iteT ?_⟩
        refine ⟨_, rfl, a', e', _, _, rfl, s45 _ _ ka4, s45 _ _ ke4, rfl, ln _, fun p np => ?_⟩
        exact q p _ ((s13.trans (s4.trans s45)).trans (Same.new np)) upd_same
    · have hg : rdF t = .good := by
        cases h : rdF t with
        | text l => exact absurd ⟨l, h⟩ ht
        | cal x => exact absurd ⟨x, h⟩ hv
        | good => rfl
      have XC := T.xc
      rw [hg] at q
      refine ⟨_, (pss_cons (ps_set (i := 1) c_l_asked.nd rfl (.inl rfl) pe_non)
      (pss_cons (ps_set (i := 2) c_l_asked.nd rfl (.inl rfl) pe_non)
      (pss_cons (ps_try_keep (i := 3) (j := 1) rfl rfl rfl c_l_asked.nd rfl rfl rfl rfl (.cons rfl rfl h_NoCalendar (.cons rfl rfl h_NoDate (.cons rfl rfl h_NoDay (.cons rfl rfl h_NoDeed (.cons rfl rfl h_NoName (.cons rfl rfl h_NoNote (.cons rfl rfl h_NoShare (.cons rfl rfl h_NoText (.cons rfl rfl h_NoWheel (.cons rfl rfl h_Taken .nil)))))))))) (by show 10 ≤ 100; decide) (hb := fun W pn xe tk po =>
      (pss_one (ps_set (i := 2) c_l_asked.nd rfl (.inl rfl) (pe_caS f_read_calendar b_read_calendar hr (by decide) tk rfl (pa_cons (pv 0) pa_nil))))))
      (pss_cons (ps_if (pt_cmp (pc_isN (pv 1))) (pss_one (ps_ret (pe_lst (pa_cons pe_str (pa_cons (pe_ix ix_list (pe_lst (pa_cons pe_str (pa_cons pe_str pa_nil))) (pe_callTy call_int1 rfl g_int (by decide +kernel) (pa_cons (pe_callB call_isi rfl g_isinstance (by decide +kernel) (pa_cons (pv 2) (pa_cons (pe_glob (v := .ref Cc) rfl h_Calendar rfl) pa_nil))) pa_nil)) (fun _ _ => rfl)) pa_nil))))) pss_nil)
      (pss_cons (ps_set (i := 4) c_l_asked.nd rfl (.inl rfl) (pe_ca f_l_kinds b_l_kinds hr (by decide) pass0 rfl (pa_cons (pv 1) pa_nil)))
      (pss_cons (ps_if (PW.pt (pw_or (pt_cmpR op_ne (pe_bm PySem.F.plainAttrs_list PySem.F.slot_list_count PySem.F.type_list_count (mt_countG eqB_flat (hr.mono (by decide))) (pv 4) (pa_cons pe_bl pa_nil)) pe_int (nomark _)) (pw_or1 (pt_not (pt_val (pe_callB (call_isK XC) rfl g_isinstance (by decide +kernel) (pa_cons (pv 1) (pa_cons (pe_bltn (v := .ty "ValueError") rfl g_ValueError (by decide +kernel) rfl) pa_nil)))))))) (pss_one (ps_ret (pe_lst (pa_cons pe_str (pa_cons pe_str pa_nil))))) pss_nil)
      (pss_cons (ps_if (pt_val (pe_ix ix_list (pv 4) pe_int (fun _ _ => rfl))) (pss_one (ps_ret (pe_lst (pa_cons pe_str (pa_cons (pe_kf XC n_at (pv 1)) pa_nil))))) pss_nil)
      (pss_cons (ps_if (pt_val (pe_ix ix_list (pv 4) pe_int (fun _ _ => rfl))) (pss_one (ps_ret (pe_lst (pa_cons pe_str (pa_cons (pe_kf XC n_why (pv 1)) pa_nil))))) pss_nil)
      (pss_one (ps_ret (pe_lst (pa_cons pe_str (pa_cons pe_str pa_nil))))))))))))), ?_⟩
      refine ⟨_, rfl, t, rfl, hs, fun _ p H1 m y o k s1 hc => ?_, fun l z => (by rw [hg] at z; cases z), fun x z => (by rw [hg] at z; cases z)⟩
      obtain ⟨dx, _, _, _, _, er, _⟩ := id hc
      refine ⟨_, rfl, _, rfl, iteT ⟨ln _, fun p1 n1 => ?_⟩⟩
      have g1 := Same.new (o := .lst [.str ("?" : Str), .str ("" : Str)]) n1
      refine ⟨_, rfl, _, _, _, _, _, rfl, .own Cc, TY _ _ _ _ (g1 _ _ er), kit_self, .inr ⟨_, rfl, ?_⟩⟩
      refine ⟨p1, _, _, _, rfl, rfl, SqL.of upd_same, rfl, ln _, fun p2 n2 => ?_⟩
      exact q p2 _ (s1.trans (g1.trans (Same.new n2))) upd_same
end
/-! ### the law of texts of no calendar -/
theorem nl_tl : TL.tl ("\n" : Str) = [10] := by decide +kernel
theorem spl_one (l : List Nat) : ∀ (acc : List Nat) (B : Nat), acc.length + l.length ≤ B → ∀ p ∈ TL.spl [10] 0 acc l, p.length ≤ B := by
  induction l with
  | nil =>
    intro acc B h p hp
    rw [TL.spl_nil] at hp
    rw [List.mem_singleton.mp hp]
    exact Nat.le_trans (Nat.le_add_right _ _) h
  | cons c l ih =>
    intro acc B h p hp
    rw [List.length_cons] at h
    by_cases hc : c = 10
    · rw [hc, TL.spl_hit (show TL.pre [10] (10 :: l) = true from TL.pre_self [10] l)] at hp
      rcases List.mem_cons.mp hp with z | z
      · rw [z]
        omega
      · exact ih [] B (by rw [List.length_nil]; omega) p z
    · rw [TL.spl_miss (TL.pre_of_head [] l hc)] at hp
      exact ih (acc ++ [c]) B (by rw [List.length_append, List.length_singleton]; omega) p hp
theorem spl_two (rest : List Nat) (B : Nat) (hr : ∀ p ∈ TL.spl [10] 0 [] rest, p.length ≤ B) (l : List Nat) : ∀ (acc : List Nat), acc.length + l.length ≤ B → ∀ p ∈ TL.spl [10] 0 acc (l ++ 10 :: rest), p.length ≤ B := by
  induction l with
  | nil =>
    intro acc h p hp
    rw [List.nil_append, TL.spl_hit (show TL.pre [10] (10 :: rest) = true from TL.pre_self [10] rest)] at hp
    rcases List.mem_cons.mp hp with z | z
    · rw [z]
      exact Nat.le_trans (Nat.le_add_right _ _) h
    · exact hr p z
  | cons c l ih =>
    intro acc h p hp
    rw [List.length_cons] at h
    rw [List.cons_append] at hp
    by_cases hc : c = 10
    · rw [hc, TL.spl_hit (show TL.pre [10] (10 :: (l ++ 10 :: rest)) = true from TL.pre_self [10] _)] at hp
      rcases List.mem_cons.mp hp with z | z
      · rw [z]
        omega
      · exact ih [] (by rw [List.length_nil]; omega) p z
    · rw [TL.spl_miss (TL.pre_of_head [] _ hc)] at hp
      exact ih (acc ++ [c]) (by rw [List.length_append, List.length_singleton]; omega) p hp
/-- the signs of lines joined -/
def jnL : List Str → List Nat
  | [] => []
  | [y] => y.cps.toList
  | y :: z :: ys => y.cps.toList ++ 10 :: jnL (z :: ys)
theorem join_jn : ∀ ys : List Str, (Txt.join ("\n" : Str) ys).cps.toList = jnL ys
  | [] => by decide +kernel
  | y :: ys => by
    show ((ys.foldl (fun acc p => acc ++ ("\n" : Str).cps ++ p.cps) y.cps)).toList = _
    have e1 : ("\n" : Str).cps.toList = [10] := nl_tl
    have go : ∀ (zs : List Str) (acc : Array Nat) (y : Str), y.cps = acc → (zs.foldl (fun acc p => acc ++ ("\n" : Str).cps ++ p.cps) acc).toList = jnL (y :: zs) := fun zs => by
      have go2 : ∀ (zs : List Str) (a b : Array Nat), (zs.foldl (fun acc p => acc ++ ("\n" : Str).cps ++ p.cps) (a ++ b)).toList = a.toList ++ (zs.foldl (fun acc p => acc ++ ("\n" : Str).cps ++ p.cps) b).toList := fun zs => by
        induction zs with
        | nil =>
          intro a b
          rw [List.foldl_nil, List.foldl_nil, Array.toList_append]
        | cons z zs ih =>
          intro a b
          rw [List.foldl_cons, List.foldl_cons, Array.append_assoc, Array.append_assoc, ih, Array.append_assoc]
      induction zs with
      | nil =>
        intro acc y h
        rw [← h]
        rfl
      | cons z zs ih =>
        intro acc y h
        rw [List.foldl_cons, go2, Array.toList_append, e1, ih z.cps z rfl, ← h, List.append_assoc]
        rfl
    exact go ys y.cps y rfl
theorem jn_spl {B : Nat} : ∀ (ys : List Str), (∀ y ∈ ys, y.length ≤ B) → ∀ p ∈ TL.spl [10] 0 [] (jnL ys), p.length ≤ B
  | [], _ => fun p hp => by
    have : p ∈ [([] : List Nat)] := hp
    rw [List.mem_singleton.mp this]
    exact Nat.zero_le _
  | [y], h => spl_one _ [] B (by have := h y List.mem_cons_self; rw [len_cps] at this; show 0 + y.cps.toList.length ≤ B; omega)
  | y :: z :: ys, h => spl_two _ B (jn_spl (z :: ys) fun x hx => h x (List.mem_cons_of_mem _ hx)) _ [] (by have := h y List.mem_cons_self; rw [len_cps] at this; simpa using this)
theorem jnl_len : ∀ (ys : List Str), (jnL ys).length ≤ (ys.map (·.length)).sum + ys.length
  | [] => Nat.le_refl _
  | [y] => by
    show y.cps.toList.length ≤ _
    rw [← len_cps]
    simp
  | y :: z :: ys => by
    have ih := jnl_len (z :: ys)
    show (y.cps.toList ++ 10 :: jnL (z :: ys)).length ≤ _
    rw [List.length_append, List.length_cons, ← len_cps, List.map_cons, List.sum_cons, List.length_cons]
    omega
theorem sum_le {B : Nat} (ys : List Str) (h : ∀ y ∈ ys, y.length ≤ B) : (ys.map (·.length)).sum ≤ B * ys.length := by
  induction ys with
  | nil => exact Nat.le_refl _
  | cons y ys ih =>
    rw [List.map_cons, List.sum_cons, List.length_cons, Nat.mul_succ]
    have a := h y List.mem_cons_self
    have b := ih fun x hx => h x (List.mem_cons_of_mem _ hx)
    omega
theorem join_sht {ys : List Str} (hl : ys.length ≤ 7) (h : ∀ y ∈ ys, y.length ≤ 450) : ShT9 (Txt.join ("\n" : Str) ys) := by
  have hln : (Txt.join ("\n" : Str) ys).length ≤ 3200 := by
    rw [len_cps, join_jn]
    have a := jnl_len ys
    have b := sum_le ys h
    have c : 450 * ys.length ≤ 450 * 7 := Nat.mul_le_mul_left _ hl
    omega
  refine ⟨Nat.le_trans hln (by decide), fun l hm => ?_, ?_⟩
  · have e := TL.split_spl (Txt.join ("\n" : Str) ys) ("\n" : Str) (by rw [nl_tl]; simp) (TL.kind_ok (by decide +kernel))
    rw [nl_tl] at e
    have hm2 : TL.tl l ∈ TL.spl [10] 0 [] (jnL ys) := by
      rw [← join_jn, ← e]
      exact List.mem_map.mpr ⟨l, hm, rfl⟩
    have := jn_spl ys h _ hm2
    rw [TL.len_tl]
    exact this
  · exact Nat.le_trans (PyProof.Rows.split_le _ _) (by omega)
theorem join_ok {ys : List Str} (hl : ys.length ≤ 7) (h : ∀ y ∈ ys, y.length ≤ 450) : (ys.map (·.length)).sum + ys.length * ("\n" : Str).length ≤ 16777216 := by
  have b := sum_le ys h
  have c : 450 * ys.length ≤ 450 * 7 := Nat.mul_le_mul_left _ hl
  have ec : ("\n" : Str).length = 1 := by decide +kernel
  rw [ec]
  omega
theorem emp_sht : ShT9 ("" : Str) := by
  have e : Txt.split ("" : Str) ("\n" : Str) = [("" : Str)] := by decide +kernel
  refine ⟨by decide +kernel, ?_, ?_⟩
  · rw [e]
    intro l hl
    rw [List.mem_singleton.mp hl]
    decide +kernel
  · rw [e]
    decide
theorem emp_rd : rdF ("" : Str) = .text ("" : Str) := by
  have e : Txt.split ("" : Str) ("\n" : Str) = [("" : Str)] := by decide +kernel
  have : badL [] ("" : Str) := .inl (by decide +kernel)
  unfold rdF
  rw [e]
  unfold tbF
  rw [if_pos this]
theorem strOk_of {x : Str} (h : ∀ c ∈ x.cps.toList, c < 0x110000) : PyData.strOk x = true := by
  unfold PyData.strOk
  rw [Array.all_eq_true_iff_forall_mem]
  intro c hc
  exact decide_eq_true (h c (by simpa using hc))
theorem sh_ss {a b : Str} (ha : PyData.strOk a = true) (hb : PyData.strOk b = true) : SeqAt.shaped (.list [.str a, .str b]) = true := by
  show (PyData.canLay0 (.list [.str a, .str b]) && decide (PyData.depth (.list [.str a, .str b]) ≤ 64)) = true
  rw [Bool.and_eq_true]
  refine ⟨by simp [PyData.canLay0, PyData.canLayAll0, ha, hb], decide_eq_true ?_⟩
  simp [PyData.depth, PyData.depthAll]
theorem spl_mem (l : List Nat) : ∀ (acc : List Nat), ∀ p ∈ TL.spl [10] 0 acc l, ∀ c ∈ p, c ∈ acc ∨ c ∈ l := by
  induction l with
  | nil =>
    intro acc p hp c hc
    rw [TL.spl_nil] at hp
    rw [List.mem_singleton.mp hp] at hc
    exact .inl hc
  | cons x l ih =>
    intro acc p hp c hc
    by_cases hx : x = 10
    · rw [hx, TL.spl_hit (show TL.pre [10] (10 :: l) = true from TL.pre_self [10] l)] at hp
      rcases List.mem_cons.mp hp with z | z
      · rw [z] at hc
        exact .inl hc
      · rcases ih [] p z c hc with h | h
        · cases h
        · exact .inr (List.mem_cons_of_mem _ h)
    · rw [TL.spl_miss (TL.pre_of_head [] l hx)] at hp
      rcases ih (acc ++ [x]) p hp c hc with h | h
      · rcases List.mem_append.mp h with h | h
        · exact .inl h
        · rw [List.mem_singleton.mp h]
          exact .inr List.mem_cons_self
      · exact .inr (List.mem_cons_of_mem _ h)
theorem split_ok {t : Str} (h : ∀ c ∈ t.cps.toList, c < 128) : ∀ l ∈ Txt.split t ("\n" : Str), PyData.strOk l = true := fun l hm => by
  have e := TL.split_spl t ("\n" : Str) (by rw [nl_tl]; simp) (TL.kind_ok (by decide +kernel))
  rw [nl_tl] at e
  have hm2 : TL.tl l ∈ TL.spl [10] 0 [] (TL.tl t) := by
    rw [← e]
    exact List.mem_map.mpr ⟨l, hm, rfl⟩
  refine strOk_of fun c hc => ?_
  rcases spl_mem _ _ _ hm2 c hc with z | z
  · cases z
  · exact Nat.lt_trans (h c z) (by decide)
theorem tbF_mem : ∀ (ls : List Str) (seen : List (Str × Str)) {l : Str}, tbF seen ls = .inl l → l ∈ ls
  | [], seen, l, e => by cases e
  | x :: ls, seen, l, e => by
    unfold tbF at e
    by_cases h : badL seen x
    · rw [if_pos h] at e
      rw [Sum.inl.inj e]
      exact List.mem_cons_self
    · rw [if_neg h] at e
      exact List.mem_cons_of_mem _ (tbF_mem ls _ e)
theorem fault_ok (m y : Rat) : PyData.strOk (faultS m y) = true := by
  unfold faultS
  split
  · decide +kernel
  split
  · decide +kernel
  split <;> decide +kernel
def outOk : Out → Bool
  | .text l => PyData.strOk l
  | .cal x => PyData.strOk x
  | .good => true
theorem rd_ok {t : Str} (h : ∀ c ∈ t.cps.toList, c < 128) : outOk (rdF t) = true := by
  have hs := split_ok h
  unfold rdF
  cases e : tbF [] (Txt.split t ("\n" : Str)) with
  | inl l => exact hs l (tbF_mem _ _ e)
  | inr W =>
    show outOk (rdW W) = true
    obtain ⟨hW, hl⟩ := tbF_lines _ _ e
    rw [List.nil_append] at hW
    unfold rdW
    cases em : missF W with
    | some x =>
      have : x ∈ wrds := List.mem_of_find?_eq_some em
      have ok : ∀ x ∈ wrds, PyData.strOk x = true := by decide +kernel
      exact ok x this
    | none =>
      show outOk (match W.find? fun p => (shOf p.2).isNone with | some p => Out.text (lnT p) | none => _) = true
      cases ef : W.find? fun p => (shOf p.2).isNone with
      | some p =>
        have hp : p ∈ W := List.mem_of_find?_eq_some ef
        rw [hW] at hp
        obtain ⟨l, hl1, rfl⟩ := List.mem_map.mp hp
        show PyData.strOk (lnT _) = true
        rw [← hl l hl1]
        exact hs l hl1
      | none =>
        show outOk (endF _ _) = true
        unfold endF
        split
        · rfl
        · exact fault_ok _ _
theorem jn_asc : ∀ (ys : List Str), (∀ y ∈ ys, ∀ c ∈ y.cps.toList, c < 128) → ∀ c ∈ jnL ys, c < 128
  | [], _ => fun c hc => by cases hc
  | [y], h => h y List.mem_cons_self
  | y :: z :: ys, h => fun c hc => by
    have hc' : c ∈ y.cps.toList ++ 10 :: jnL (z :: ys) := hc
    rcases List.mem_append.mp hc' with q | q
    · exact h y List.mem_cons_self c q
    · rcases List.mem_cons.mp q with q | q
      · rw [q]
        decide
      · exact jn_asc (z :: ys) (fun x hx => h x (List.mem_cons_of_mem _ hx)) c q
theorem out_two {o : Out} (h : outOk o = true) : ∃ a b : Str, outL o = [.str a, .str b] ∧ PyData.strOk a = true ∧ PyData.strOk b = true := by
  cases o with
  | text l => exact ⟨_, _, rfl, by decide +kernel, h⟩
  | cal w => exact ⟨_, _, rfl, by decide +kernel, h⟩
  | good => exact ⟨_, _, rfl, by decide +kernel, by decide +kernel⟩
section
variable {P : Program} {w : World} {K : PySem.W.Frag} {mg : Str → Option Value} {base : Heap}
theorem ok_law (D : Df K mg "law" s_law []) (f_l_draws : Ca P w K mg base CX0 1 "_law_draws" s_l_draws [] ["_law_cell"] spDraws) (f_l_next : Ca P w K mg base CX0 1 "_law_next" s_l_next [] ["_law_draws_here"] spNext) (g_range : mg "range" = none) (f_l_lines : Ca P w K mg base CX0 5 "_law_lines" s_l_lines [] ["_law_draws_here"] spLn76) (f_l_bent : Ca P w K mg base CX0 3 "_law_bent" s_l_bent [] ["_law_draws_here", "_law_lines_here"] spBent76) (f_l_asked : Ca P w K mg base CX0 11 "_law_asked" s_l_asked [] ["_law_text"] spOut) (f_l_due : Ca P w K mg base CX0 4 "_law_due" s_l_due [] ["_law_text"] spOut) : Ca P w K mg base CX0 13 "law" s_law [] ["_law_script"] (spLaw K) := by
  refine ca0 (k := 12) D c_law (fun vs H Q E h => ?_) fun f cdv A outer s H vs Q E hr h => ?_
  · obtain ⟨a, ns, rfl, _⟩ := h
    rfl
  · obtain ⟨a, ns, rfl, hS, hlen, q⟩ := h
    refine ⟨_, (pss_cons (ps_if (pt_cmpR (op_neD hr.units) (pe_ca f_l_asked b_l_asked hr (by decide) pass0 rfl (pa_cons pe_str pa_nil)) (pe_lst (pa_cons pe_str (pa_cons pe_str pa_nil))) (nomark _)) (pss_one (ps_ret pe_bl)) pss_nil)
      (pss_cons (ps_for PassesOwn.never rfl (pi_list (pe_op op_cat (pe_slice sl_list (pv 0) po_none (po_some pe_int)) (pe_lst (pa_cons pe_int pa_nil)))) (pg_name (i := 1) c_law.nd rfl (.inl rfl)) (pss_cons (ps_set (i := 2) c_law.nd rfl (.inl rfl) (pe_ca f_l_draws b_l_draws hr (by decide) pass0 rfl (pa_cons (pv 1) pa_nil)))
      (pss_cons (ps_set (i := 3) c_law.nd rfl (.inl rfl) (pe_ca f_l_lines b_l_lines hr (by decide) pass0 rfl (pa_cons (pv 2) pa_nil)))
      (pss_cons (ps_for PassesOwn.never rfl (pi_range1 rfl g_range (pa_cons (pe_op op_mod (pe_ca f_l_next b_l_next hr (by decide) pass0 rfl (pa_cons (pv 2) pa_nil)) pe_int) pa_nil)) (pg_name (i := 4) c_law.nd rfl (.inl rfl)) (pss_one (ps_set (i := 3) c_law.nd rfl (.inl rfl) (pe_ca f_l_bent b_l_bent hr (by decide) pass0 rfl (pa_cons (pv 2) (pa_cons (pv 3) pa_nil))))))
      (pss_cons (ps_set (i := 5) c_law.nd rfl (.inl rfl) (pe_m1 PySem.F.slot_str_join PySem.F.type_str_join mt_join pe_str (pv 3)))
      (pss_one (ps_for PassesOwn.never rfl (pi_range1 rfl g_range (pa_cons pe_int pa_nil)) (pg_name (i := 6) c_law.nd rfl (.inl rfl)) (pss_one (ps_if (pt_cmpR (op_neD hr.units) (pe_ca f_l_asked b_l_asked hr (by decide) pass0 rfl (pa_cons (pv 5) pa_nil)) (pe_ca f_l_due b_l_due hr (by decide) pass0 rfl (pa_cons (pv 5) pa_nil)) (nomark _)) (pss_one (ps_ret pe_bl)) pss_nil)))))))))
      (pss_one (ps_ret pe_bl)))), ?_⟩
    refine ⟨("" : Str), rfl, emp_sht, fun L0 H0 s0 e0 => ?_⟩
    rw [emp_rd] at e0
    refine ⟨ln _, fun L00 n00 => ?_⟩
    have s00 := Same.new (o := .lst [.str ("text" : Str), .str ("" : Str)]) n00
    refine ⟨.list [.str ("text" : Str), .str ("" : Str)], .list [.str ("text" : Str), .str ("" : Str)], .lst (SqL.of (s00 _ _ e0)) (.cons (.str _) (.cons (.str _) .nil)), .lst (SqL.of upd_same) (.cons (.str _) (.cons (.str _) .nil)), (by decide +kernel), (by decide +kernel), _, rfl, no' (by simp [PyData.eqv, PyData.eqvAll]) ?_⟩
    have hS0 : SqL K _ a (ns.map V.int) := hS.imp (fun z => z.elim (fun z => .inl ((s0.trans s00) _ _ z)) fun ⟨o, z⟩ => .inr ⟨o, (s0.trans s00) _ _ z⟩) id
    generalize L2.upd H0 L00 _ = H00 at *
    refine ⟨_, rfl, _, rfl, a, _, rfl, hS0, fun p1 n1 => ?_⟩
    refine ⟨(by show 1 ≤ sizeLine; decide), fun p2 n2 => ?_⟩
    have ne12 : p1 ≠ p2 := ne_of_none upd_same n2
    refine ⟨p1, p2, _, _, rfl, rfl, (by rw [upd_ne ne12]; exact upd_same), upd_same, cut_len hlen, fun l3 n3 => ?_⟩
    generalize hH0 : L2.upd _ l3 (.lst (cutV (ns.map V.int) none (some 8) ++ [V.int 0])) = Hc
    have hl3 : Hc l3 = some (.lst (cutV (ns.map V.int) none (some 8) ++ [V.int 0])) := by rw [← hH0]; exact upd_same
    refine ⟨l3, rfl, ⟨_, SqL.of hl3⟩, for_list (K := K) (a := l3) (xs := cutV (ns.map V.int) none (some 8) ++ [V.int 0]) (fun i σ H' => ∃ v1 v2 v3 v4 v5 v6 : Option V, σ = [some (.ref a), v1, v2, v3, v4, v5, v6] ∧ H' l3 = some (.lst (cutV (ns.map V.int) none (some 8) ++ [V.int 0])))
      ⟨_, _, _, _, _, _, rfl, hl3⟩ (fun i σ H' _ ⟨_, _, _, _, _, _, _, e⟩ => SqL.of e) ?_ (fun σ H' ⟨_, _, _, _, _, _, e, _⟩ => by subst e; exact q H')⟩
    rintro i x σ H1 hi ⟨v1, v2, v3, v4, v5, v6, rfl, e3⟩
    obtain ⟨c, rfl⟩ := cut_ints hi
    refine ⟨_, rfl, c, rfl, fun l H2 nl s2 d2 => ?_⟩
    have nel : l3 ≠ l := ne_of_none e3 nl
    refine ⟨_, rfl, l, rfl, d2, fun La H3 ls3 b3 d3 => ?_⟩
    refine ⟨_, rfl, l, _, rfl, d3, by decide, fun v H4 h0 h1 b4 d4 => ?_⟩
    have ls4 := ls3.but b4 d3
    have m0 := md0 v (j := 4)
    have m1 := md1 v (j := 4)
    refine ⟨_, _, rfl, rfl, md, (v % 4).toNat, (by rw [show (((v % 4).toNat : Nat) : Int) = v % 4 by omega]), by omega, by omega, ?_⟩
    refine for_range (n := (v % 4).toNat) (fun j σ H' => ∃ (v4 : Option V) (Lj : Addr), σ = [some (.ref a), some (.int c), some (.ref l), some (.ref Lj), v4, v5, v6] ∧ But l H2 H' ∧ Dr H' l (101 + 2 * j) ∧ Ls H' Lj (4 + j) (53 * 2 ^ j)) ⟨_, La, rfl, b3.trans b4, d4.mono (by omega), ls4⟩ ?_ ?_
    · rintro j σ H5 hj ⟨w4, Lj, rfl, b5, d5, ls5⟩
      have hp : 53 ≤ 53 * 2 ^ j ∧ 53 * 2 ^ j ≤ 212 := by
        have : j = 0 ∨ j = 1 ∨ j = 2 := by omega
        rcases this with rfl | rfl | rfl <;> decide
      refine ⟨_, rfl, _, rfl, l, Lj, _, _, _, rfl, d5, by omega, ls5, by omega, hp.1, hp.2, fun Lk H6 ls6 b6 d6 => ?_⟩
      refine ⟨_, Lk, rfl, b5.trans b6, d6.mono (by omega), ?_⟩
      rw [show 53 * 2 ^ (j + 1) = 2 * (53 * 2 ^ j) by rw [Nat.pow_succ]; omega]
      exact ls6
    rintro σ H5 ⟨w4, Lj, rfl, b5, d5, ys, eys, hyl, hys⟩
    have hn3 : (v % 4).toNat ≤ 3 := by omega
    have hl7 : ys.length ≤ 7 := by omega
    have hB : 53 * 2 ^ (v % 4).toNat ≤ 450 := by
      have : (v % 4).toNat = 0 ∨ (v % 4).toNat = 1 ∨ (v % 4).toNat = 2 ∨ (v % 4).toNat = 3 := by omega
      rcases this with e | e | e | e <;> rw [e] <;> decide
    have hy4 : ∀ y ∈ ys, y.length ≤ 450 := fun y hy => Nat.le_trans (hys y hy).len hB
    have hsh := join_sht hl7 hy4
    refine ⟨⟨_, rfl⟩, _, rfl, _, Lj, ys, rfl, rfl, .inl (SqL.of eys), join_ok hl7 hy4, ?_⟩
    have hok : outOk (rdF (Txt.join ("\n" : Str) ys)) = true := rd_ok (by rw [join_jn]; exact jn_asc ys fun y hy => (hys y hy).asc)
    generalize Txt.join ("\n" : Str) ys = t at *
    have e35 := b5 _ _ nel (s2 _ _ e3)
    refine ⟨2, rfl, by decide, by decide, ?_⟩
    refine for_range (n := 2) (fun j σ H' => ∃ (v6 : Option V), σ = [some (.ref a), some (.int c), some (.ref l), some (.ref Lj), w4, some (.str t), v6] ∧ Same H5 H') ⟨_, rfl, Same.refl _⟩ ?_ ?_
    · rintro j σ H6 hj ⟨w6, rfl, s6⟩
      refine ⟨_, rfl, t, rfl, hsh, fun A1 H7 s7 e7 => ?_⟩
      refine ⟨_, rfl, t, rfl, hsh, fun A2 H8 s8 e8 => ?_⟩
      obtain ⟨x, y, exy, okx, oky⟩ := out_two hok
      rw [exy] at e7 e8
      refine ⟨.list [.str x, .str y], .list [.str x, .str y], .lst (SqL.of (s8 _ _ e7)) (.cons (.str _) (.cons (.str _) .nil)), .lst (SqL.of e8) (.cons (.str _) (.cons (.str _) .nil)), sh_ss okx oky, sh_ss okx oky, _, rfl, no' (by simp [PyData.eqv, PyData.eqvAll]) ?_⟩
      exact ⟨_, rfl, s6.trans (s7.trans s8)⟩
    · rintro σ H6 ⟨w6, rfl, s6⟩
      exact ⟨_, _, _, _, _, _, rfl, s6 _ _ e35⟩
end
/-! ### makers of facts -/
theorem dx_mk {K : PySem.W.Frag} {qual : Str} {st : Stmt} {f C : Addr} {oc kV doc pm cdv ct : Value} {od an : Option Addr} {osl : Array (Option Value)} (a : PySem.W.findIn K (.ref C) "__init__" = some (some (.ref f)))
    (l : K.lookup f = some ⟨oc, od, .func (PySem.W.fnOf "__init__" qual (defArgs st) (defBody st) (defScope st) .none kV doc pm an cdv ct), osl⟩) (c : PySem.W.codeIn K cdv qual = true) (k : PySem.W.keepIn K (.ref f) = true) (t : PySem.W.typeIn K (.ref f) = some (.type "function")) : Dx K C qual st :=
  ⟨f, _, ⟨⟨oc, od, .none, kV, doc, pm, an, cdv, ct, osl, rfl, l, c, .inl ⟨rfl, rfl⟩, .inl rfl⟩, k⟩, a, t⟩
theorem any_exm {K : PySem.W.Frag} {D : Addr} {cs : List Value} (h : ∀ c ∈ cs, ∃ b, PySem.W.exmOne K (.ref D) c = some b) {c : Value} (hc : c ∈ cs) (h1 : PySem.W.exmOne K (.ref D) c = some true) : ∃ B : Value → Bool, (∀ c ∈ cs, PySem.W.exmOne K (.ref D) c = some (B c)) ∧ cs.any B = true := by
  refine ⟨fun c => (PySem.W.exmOne K (.ref D) c).getD false, fun c hc => ?_, List.any_eq_true.mpr ⟨c, hc, by rw [h1]; rfl⟩⟩
  obtain ⟨b, hb⟩ := h c hc
  show _ = some ((PySem.W.exmOne K (.ref D) c).getD false)
  rw [hb]
  rfl
theorem oxv_mk {K : PySem.W.Frag} {C : Addr} {nm q N bs sn sub ab col dd k0 k1 k2 k3 k5} (l : K.lookup C = some (excClassObj nm q C N bs bmV true sn sub ab col dd k0 k1 k2 k3 k5 "ValueError.__new__")) (sa : PySem.W.findIn K (.ref C) "__setattr__" = some (some (.builtin "object.__setattr__")))
    (exC : PySem.W.subIn K (.ref C) (.type "BaseException") = some true) (tyC : PySem.W.typeIn K (.ref C) = some (.type "type")) (kC : PySem.W.keepIn K (.ref C) = true) : OxV K C := ⟨PySem.F.excBase_ValueError, PySem.F.store_ValueError, by decide +kernel, ⟨_, _, _, _, _, _, _, _, _, _, _, _, _, _, l⟩, sa, exC, tyC, kC⟩
theorem df_mkD {K : PySem.W.Frag} {h : Heap} {mg : Str → Option Value} {x : Str} {st : Stmt} {f T : Addr} {oc kV doc pm cdv ct : Value} {od an : Option Addr} {osl : Array (Option Value)} {nT : Nat} {its : List Value} {dvs : List V} (X : K.In h) (G : h.Ns mainGlobals mg) (a : PySem.W.nsIn K mainGlobals x = some (some (.ref f)))
    (l : K.lookup f = some ⟨oc, od, .func (PySem.W.fnOf x x (defArgs st) (defBody st) (defScope st) (.ref T) kV doc pm an cdv ct), osl⟩) (c : PySem.W.codeIn K cdv x = true) (k : PySem.W.keepIn K (.ref f) = true) {oT : Obj} (lT : K.lookup T = some oT) (eT : oT.data = .seq its.toArray nT) (r : Vals dvs its) (ne : dvs ≠ []) : Df K mg x st dvs :=
  ⟨f, _, ⟨⟨oc, od, .ref T, kV, doc, pm, an, cdv, ct, osl, rfl, l, c, .inr ⟨ne, T, _, its, nT, rfl, lT, eT, r⟩, .inl rfl⟩, k⟩, PySem.W.mg_of X G a⟩
theorem net_mk {K : PySem.W.Frag} {C : Addr} {nm q N bs hd sn sub ab col dd k0 k1 k2 k3 k5 nw} (ne : PySem.W.findIn K (.ref C) "__ne__" = some (some (.builtin "object.__ne__"))) (l : K.lookup C = some (excClassObj nm q C N bs [.type "object"] hd sn sub ab col dd k0 k1 k2 k3 k5 nw)) : NeT K C := ⟨ne, ⟨_, _, _, _, _, _, _, _, _, _, _, _, _, _, _, _, l⟩⟩
/-! ### what the top has written -/
theorem fin {P : Program} {w : World} {K : PySem.W.Frag} {mg : Str → Option Value} {fa C Cc CN CV C_NoShare C_NoDate C_NoWheel C_NoName C_NoDay C_Taken C_NoNote C_NoDeed : Addr} (hfa : mg "law" = some (.ref fa))
    (cl : Cls K C) (nT : PySem.W.findIn K (.ref C) "top" = some none) (nB : PySem.W.findIn K (.ref C) "bottom" = some none) (ha : PySem.W.findIn K (.ref C) "__class__" = some (some (.builtin "object.__class__")))
    (hn : PySem.W.specialIn K (.builtin "object.__class__") "__get__" = some (some (.builtin "getset_descriptor.__get__"))) (htk : PySem.W.takesIn K (.builtin "object.__class__") = some true) (hm : PySem.W.mroIn K C (.type "object") = some true)
    (iC : PySem.W.isClsIn K C = true) (tC : PySem.W.typeIn K (.ref C) = some (.type "type")) (sI : PySem.W.subIn K (.type "int") (.ref C) = some false) (hC : mg "Share" = some (.ref C))
    (dShare : Di K mg "Share" C "Share.__init__" s_Share_init [.int 1])
    (clc : Cls K Cc) (n1 : PySem.W.findIn K (.ref Cc) "month" = some none) (n2 : PySem.W.findIn K (.ref Cc) "year" = some none) (n3 : PySem.W.findIn K (.ref Cc) "moon" = some none) (n4 : PySem.W.findIn K (.ref Cc) "mark" = some none) (ne : Cc ≠ C) {uM : Value} (aM : mg "MARKS" = some uM) (rM : RelV (.int 12) uM)
    (dCal : Di K mg "Calendar" Cc "Calendar.__init__" s_Calendar_init [.non, .non])
    (dStr : Dm K C "__str__" "Share.__str__" s_Share_str)
    (hac : PySem.W.findIn K (.ref Cc) "__class__" = some (some (.builtin "object.__class__"))) (hmc : PySem.W.mroIn K Cc (.type "object") = some true) (hCal : mg "Calendar" = some (.ref Cc))
    (to_NoShare : Oc K mg CN "NoShare" C_NoShare false) (to_NoCalendar : Oc K mg CN "NoCalendar" CV false) (to_NoDate : Oc K mg CN "NoDate" C_NoDate false) (to_NoWheel : Oc K mg CN "NoWheel" C_NoWheel false) (to_NoName : Oc K mg CN "NoName" C_NoName false) (to_NoDay : Oc K mg CN "NoDay" C_NoDay false) (to_Taken : Oc K mg CN "Taken" C_Taken false) (to_NoText : Oc K mg CN "NoText" CN true) (to_NoNote : Oc K mg CN "NoNote" C_NoNote false) (to_NoDeed : Oc K mg CN "NoDeed" C_NoDeed false)
    (tr_NoShare : CN ≠ C_NoShare) (tr_NoCalendar : CN ≠ CV) (tr_NoDate : CN ≠ C_NoDate) (tr_NoWheel : CN ≠ C_NoWheel) (tr_NoName : CN ≠ C_NoName) (tr_NoDay : CN ≠ C_NoDay) (tr_Taken : CN ≠ C_Taken) (tr_NoNote : CN ≠ C_NoNote) (tr_NoDeed : CN ≠ C_NoDeed)
    (tt_ZeroDivisionError : PySem.W.subIn K (.ref CN) (.type "ZeroDivisionError") = some false) (tt_LookupError : PySem.W.subIn K (.ref CN) (.type "LookupError") = some false) (tt_ValueError : PySem.W.subIn K (.ref CN) (.type "ValueError") = some true) (tt_KeyError : PySem.W.subIn K (.ref CN) (.type "KeyError") = some false) (tt_IndexError : PySem.W.subIn K (.ref CN) (.type "IndexError") = some false) (tt_RuntimeError : PySem.W.subIn K (.ref CN) (.type "RuntimeError") = some false)
    (txc : XcF K CN) (tox : OxV K CN) (tno_at : PySem.W.findIn K (.ref CN) "at" = some none) (tno_why : PySem.W.findIn K (.ref CN) "why" = some none) (vV : PySem.W.findCls K (.type "ValueError") (.type "type") "__init__" = some (.val (.builtin "ValueError.__init__")))
    (tdEx : Dx K CN "NoText.__init__" s_NoText_init)
    (vo_NoShare : Oc K mg CV "NoShare" C_NoShare false) (vo_NoCalendar : Oc K mg CV "NoCalendar" CV true) (vo_NoDate : Oc K mg CV "NoDate" C_NoDate false) (vo_NoWheel : Oc K mg CV "NoWheel" C_NoWheel false) (vo_NoName : Oc K mg CV "NoName" C_NoName false) (vo_NoDay : Oc K mg CV "NoDay" C_NoDay false) (vo_Taken : Oc K mg CV "Taken" C_Taken false) (vo_NoText : Oc K mg CV "NoText" CN false) (vo_NoNote : Oc K mg CV "NoNote" C_NoNote false) (vo_NoDeed : Oc K mg CV "NoDeed" C_NoDeed false)
    (vr_NoShare : CV ≠ C_NoShare) (vr_NoDate : CV ≠ C_NoDate) (vr_NoWheel : CV ≠ C_NoWheel) (vr_NoName : CV ≠ C_NoName) (vr_NoDay : CV ≠ C_NoDay) (vr_Taken : CV ≠ C_Taken) (vr_NoText : CV ≠ CN) (vr_NoNote : CV ≠ C_NoNote) (vr_NoDeed : CV ≠ C_NoDeed)
    (vt_ZeroDivisionError : PySem.W.subIn K (.ref CV) (.type "ZeroDivisionError") = some false) (vt_LookupError : PySem.W.subIn K (.ref CV) (.type "LookupError") = some false) (vt_ValueError : PySem.W.subIn K (.ref CV) (.type "ValueError") = some true) (vt_KeyError : PySem.W.subIn K (.ref CV) (.type "KeyError") = some false) (vt_IndexError : PySem.W.subIn K (.ref CV) (.type "IndexError") = some false) (vt_RuntimeError : PySem.W.subIn K (.ref CV) (.type "RuntimeError") = some false)
    (vxc : XcF K CV) (vox : OxV K CV) (vno_at : PySem.W.findIn K (.ref CV) "at" = some none) (vno_why : PySem.W.findIn K (.ref CV) "why" = some none)
    (vdEx : Dx K CV "NoCalendar.__init__" s_NoCalendar_init)
    {aW : Addr} {oW : Obj} {itsW : List Value} {nW : Nat} (gW : mg "WORDS" = some (.ref aW)) (lW : K.lookup aW = some oW) (cW : oW.cls = .type "tuple") (dW : oW.data = .seq itsW.toArray nW) (vW : Vals (wrds.map V.str) itsW)
    {uF : Value} (aF : mg "FIGURES" = some uF) (rF : RelV (.str FIG) uF)
    (g_abs : mg "abs" = none) (g_range : mg "range" = none) (g_isinstance : mg "isinstance" = none) (g_int : mg "int" = none) (g_len : mg "len" = none) (g_str : mg "str" = none) (g_zip : mg "zip" = none) (g_reversed : mg "reversed" = none) (g_max : mg "max" = none) (g_ValueError : mg "ValueError" = none)
    (d_numeral : Df K mg "numeral" s_numeral [.int 10])
    (d_number_in : Df K mg "number_in" s_number_in [.int 10])
    (d_common_divisor : Df K mg "common_divisor" s_common_divisor []) (d_as_share : Df K mg "as_share" s_as_share []) (d_plus : Df K mg "plus" s_plus []) (d_minus : Df K mg "minus" s_minus []) (d_times : Df K mg "times" s_times []) (d_over : Df K mg "over" s_over []) (d_before : Df K mg "before" s_before []) (d_whole : Df K mg "whole" s_whole []) (d_rounded_up : Df K mg "rounded_up" s_rounded_up []) (d_refuse_unfit : Df K mg "refuse_unfit" s_refuse_unfit []) (d_moment_or_nought : Df K mg "moment_or_nought" s_moment_or_nought []) (d_twelfth : Df K mg "twelfth" s_twelfth []) (d_share_in : Df K mg "share_in" s_share_in []) (d_read_calendar : Df K mg "read_calendar" s_read_calendar []) (d_texts_by_word : Df K mg "texts_by_word" s_texts_by_word []) (d_l_draws : Df K mg "_law_draws" s_l_draws []) (d_l_next : Df K mg "_law_next" s_l_next []) (d_l_low : Df K mg "_law_low" s_l_low []) (d_l_plus : Df K mg "_law_plus" s_l_plus []) (d_l_by : Df K mg "_law_by" s_l_by []) (d_l_part : Df K mg "_law_part" s_l_part []) (d_l_moment : Df K mg "_law_moment" s_l_moment []) (d_l_four : Df K mg "_law_four" s_l_four []) (d_l_value : Df K mg "_law_value" s_l_value []) (d_l_share_in : Df K mg "_law_share_in" s_l_share_in []) (d_l_share_text : Df K mg "_law_share_text" s_l_share_text []) (d_l_no_share : Df K mg "_law_no_share" s_l_no_share []) (d_l_four_bent : Df K mg "_law_four_bent" s_l_four_bent []) (d_l_lines : Df K mg "_law_lines" s_l_lines []) (d_l_bent : Df K mg "_law_bent" s_l_bent []) (d_l_why : Df K mg "_law_why" s_l_why []) (d_l_due : Df K mg "_law_due" s_l_due []) (d_l_kinds : Df K mg "_law_kinds" s_l_kinds []) (d_l_asked : Df K mg "_law_asked" s_l_asked []) (d_law : Df K mg "law" s_law []) :
    ∃ fd : FuncData, (∀ (s : Shared) (u : Value), BindsTo s fd ⟨[u], []⟩ [("_law_script", u)]) ∧ ∀ base : Heap, K.In base → base.Ns mainGlobals mg → FnOk P w K mg base CX0 13 fa fd ["_law_script"] (spLaw K) := by
  refine fin_of hfa d_law b_law fun base => ?_
  have T : ShX K C := ⟨⟨cl, nT, nB⟩, fun H a dx fs e => .base (.ins e cl ha hn htk hm), kit_no iC tC rfl sI⟩
  have marks : ∃ t, mg "MARKS" = some (.int 12 t) := by
    obtain ⟨t, e⟩ := rM
    exact ⟨t, by rw [aM, e]⟩
  have Tc : CaT K C Cc := ⟨clc, n1, n2, n3, n4, ne⟩
  have f1 := ok_gcd (P := P) (w := w) (base := base) d_common_divisor g_abs
  have f2 := ok_shI dShare T.toShT f1
  have f3 := ok_as d_as_share T g_isinstance hC f2
  have F : ShF P w K mg base C := { T := T, mkS := f2, asS := f3, plus := ok_plus d_plus T f3 f2, minus := ok_minus d_minus T f3 f2, times := ok_times d_times T f3 f2, over := ok_over d_over T f3 f2, before := ok_before d_before T f3, whole := ok_whole d_whole T f3, up := ok_rounded d_rounded_up T f3, marks := marks }
  have tw := ok_tw d_twelfth F
  obtain ⟨tkM, hMk⟩ := id marks
  have lo := ok_low (P := P) (w := w) (base := base) d_l_low g_abs
  have nx := ok_next (P := P) (w := w) (base := base) d_l_next
  have dr := ok_draws (P := P) (w := w) (base := base) d_l_draws g_range
  have pl := ok_lplus d_l_plus lo
  have by' := ok_lby d_l_by lo
  have pt := ok_lpart d_l_part nx lo
  have mo := ok_lmom d_l_moment nx pt pl
  have fo := ok_lfour d_l_four nx pt pl by' mo
  have tKD : KdF K mg CN false false false false false false false true false false false false true false false false C_NoShare CV C_NoDate C_NoWheel C_NoName C_NoDay C_Taken CN C_NoNote C_NoDeed :=
    { xc := txc, m0 := to_NoShare.m, m1 := to_NoCalendar.m, m2 := to_NoDate.m, m3 := to_NoWheel.m, m4 := to_NoName.m, m5 := to_NoDay.m, m6 := to_Taken.m, m7 := to_NoText.m, m8 := to_NoNote.m, m9 := to_NoDeed.m, k0 := to_NoShare.kit fun z => absurd z tr_NoShare, k1 := to_NoCalendar.kit fun z => absurd z tr_NoCalendar, k2 := to_NoDate.kit fun z => absurd z tr_NoDate, k3 := to_NoWheel.kit fun z => absurd z tr_NoWheel, k4 := to_NoName.kit fun z => absurd z tr_NoName, k5 := to_NoDay.kit fun z => absurd z tr_NoDay, k6 := to_Taken.kit fun z => absurd z tr_Taken, k7 := to_NoText.kit fun _ => rfl, k8 := to_NoNote.kit fun z => absurd z tr_NoNote, k9 := to_NoDeed.kit fun z => absurd z tr_NoDeed, t0 := kit_typ (by decide +kernel) tt_ZeroDivisionError, t1 := kit_typ (by decide +kernel) tt_LookupError, t2 := kit_typ (by decide +kernel) tt_ValueError, t3 := kit_typ (by decide +kernel) tt_KeyError, t4 := kit_typ (by decide +kernel) tt_IndexError, t5 := kit_typ (by decide +kernel) tt_RuntimeError }
  have tXA := any_exm (K := K) (D := CN) (cs := [Value.ref CV, .ref C_NoDate, .ref C_NoDay, .ref C_NoDeed, .ref C_NoName, .ref C_NoNote, .ref C_NoShare, .ref CN, .ref C_NoWheel, .ref C_Taken]) (by
    intro c hc
    simp only [List.mem_cons, List.not_mem_nil, or_false] at hc
    rcases hc with rfl | rfl | rfl | rfl | rfl | rfl | rfl | rfl | rfl | rfl
    · exact ⟨_, to_NoCalendar.exm⟩
    · exact ⟨_, to_NoDate.exm⟩
    · exact ⟨_, to_NoDay.exm⟩
    · exact ⟨_, to_NoDeed.exm⟩
    · exact ⟨_, to_NoName.exm⟩
    · exact ⟨_, to_NoNote.exm⟩
    · exact ⟨_, to_NoShare.exm⟩
    · exact ⟨_, to_NoText.exm⟩
    · exact ⟨_, to_NoWheel.exm⟩
    · exact ⟨_, to_Taken.exm⟩) (c := .ref CN) (by simp) to_NoText.exm
  have vKD : KdF K mg CV false true false false false false false false false false false false true false false false C_NoShare CV C_NoDate C_NoWheel C_NoName C_NoDay C_Taken CN C_NoNote C_NoDeed :=
    { xc := vxc, m0 := vo_NoShare.m, m1 := vo_NoCalendar.m, m2 := vo_NoDate.m, m3 := vo_NoWheel.m, m4 := vo_NoName.m, m5 := vo_NoDay.m, m6 := vo_Taken.m, m7 := vo_NoText.m, m8 := vo_NoNote.m, m9 := vo_NoDeed.m, k0 := vo_NoShare.kit fun z => absurd z vr_NoShare, k1 := vo_NoCalendar.kit fun _ => rfl, k2 := vo_NoDate.kit fun z => absurd z vr_NoDate, k3 := vo_NoWheel.kit fun z => absurd z vr_NoWheel, k4 := vo_NoName.kit fun z => absurd z vr_NoName, k5 := vo_NoDay.kit fun z => absurd z vr_NoDay, k6 := vo_Taken.kit fun z => absurd z vr_Taken, k7 := vo_NoText.kit fun z => absurd z vr_NoText, k8 := vo_NoNote.kit fun z => absurd z vr_NoNote, k9 := vo_NoDeed.kit fun z => absurd z vr_NoDeed, t0 := kit_typ (by decide +kernel) vt_ZeroDivisionError, t1 := kit_typ (by decide +kernel) vt_LookupError, t2 := kit_typ (by decide +kernel) vt_ValueError, t3 := kit_typ (by decide +kernel) vt_KeyError, t4 := kit_typ (by decide +kernel) vt_IndexError, t5 := kit_typ (by decide +kernel) vt_RuntimeError }
  have vXA := any_exm (K := K) (D := CV) (cs := [Value.ref CV, .ref C_NoDate, .ref C_NoDay, .ref C_NoDeed, .ref C_NoName, .ref C_NoNote, .ref C_NoShare, .ref CN, .ref C_NoWheel, .ref C_Taken]) (by
    intro c hc
    simp only [List.mem_cons, List.not_mem_nil, or_false] at hc
    rcases hc with rfl | rfl | rfl | rfl | rfl | rfl | rfl | rfl | rfl | rfl
    · exact ⟨_, vo_NoCalendar.exm⟩
    · exact ⟨_, vo_NoDate.exm⟩
    · exact ⟨_, vo_NoDay.exm⟩
    · exact ⟨_, vo_NoDeed.exm⟩
    · exact ⟨_, vo_NoName.exm⟩
    · exact ⟨_, vo_NoNote.exm⟩
    · exact ⟨_, vo_NoShare.exm⟩
    · exact ⟨_, vo_NoText.exm⟩
    · exact ⟨_, vo_NoWheel.exm⟩
    · exact ⟨_, vo_Taken.exm⟩) (c := .ref CV) (by simp) vo_NoCalendar.exm
  obtain ⟨tF, eF⟩ := rF
  have hF : mg "FIGURES" = some (.str FIG tF) := by rw [aF, eF]
  have nu := ok_num (P := P) (w := w) (base := base) d_numeral hF g_abs g_reversed
  have ni := ok_ninG (P := P) (w := w) (base := base) d_number_in hF
  have TW : WdT K mg aW := ⟨gW, fun H => .inr ⟨oW, itsW.toArray, nW, lW, cW, dW, (by rw [List.size_toArray, ← vW.length]; decide), (by rw [List.toList_toArray]; exact vW)⟩⟩
  have NS : NtT K mg CN := ⟨tox, tno_at, vV, g_ValueError, to_NoText.m⟩
  have NV : NcT K mg CV := ⟨vox, vno_why, vV, g_ValueError, vo_NoCalendar.m⟩
  have ns := ok_nt (P := P) (w := w) (base := base) tdEx NS
  have nv := ok_nc (P := P) (w := w) (base := base) vdEx NV
  have cal := ok_caX dCal Tc F (ok_unX d_refuse_unfit F tw NV nv) (ok_moment d_moment_or_nought F)
  have sS := ok_shS dStr T nu
  have si := ok_si d_share_in T g_str ni f2 sS
  have tb := ok_tbX (P := P) (w := w) (base := base) d_texts_by_word TW NS ns
  have rc := ok_rcX d_read_calendar TW NS ns tb si cal
  have lv := ok_lval (P := P) (w := w) (base := base) d_l_value g_int
  have ld := ok_ldue d_l_share_in lo lv
  have tx := ok_ltx75 (P := P) (w := w) (base := base) d_l_share_text g_str
  have no := ok_lnosh d_l_no_share nx
  have fb := ok_lfb d_l_four_bent nx lo
  have li := ok_lln76 d_l_lines nx fo g_zip g_len fb tx
  have be := ok_lbent76 d_l_bent nx g_len g_max no
  have wy := ok_lwhy (P := P) (w := w) (base := base) d_l_why
  have du := ok_ldue76 d_l_due g_int ld wy
  have kd := ok_kinds2 (P := P) (w := w) (base := base) d_l_kinds tKD vKD g_isinstance
  have as' := ok_lasked76 d_l_asked tKD vKD tXA vXA tno_at tno_why vno_at vno_why hCal Tc (fun H a dx fs e => .base (.ins e clc hac hn htk hmc)) g_isinstance g_ValueError g_int rc kd
  exact ok_law d_law dr nx g_range li be as' du
theorem walk {l : PySem.W.OpenLaw} {q : Program} {loose : List Str} {XP : (Str → Option Value) → Heap → Prop} {YP : World → Heap → Prop} {d : DefRec} {K : Params → PySem.W.Frag} (hn : l.most = some 63) (hdf : d.params.defaults = [])
    (hY : ∀ (w : World) (h : Heap), YP w h → (K w.params).In h)
    (F : ∀ (w : World) (mg : Str → Option Value) (fa : Addr) (h : Heap), (K w.params).In h → h.Ns mainGlobals mg → mg d.name = some (.ref fa) →
      ∃ fd : FuncData, (∀ (s : Shared) (u : Value), BindsTo s fd ⟨[u], []⟩ [("_law_script", u)]) ∧ ∀ base : Heap, (K w.params).In base → base.Ns mainGlobals mg → FnOk l.prog w (K w.params) mg base CX0 13 fa fd ["_law_script"] (spLaw (K w.params))) :
    PySem.W.WalkO q loose XP YP l.row.toRowW d [] (fun f vs => PySem.call f vs) :=
  L2.walk_of (n := 63) (k := 13) (x := "_law_script") (CX := fun _ => CX0) (sp := fun w => spLaw (K w.params)) hn (by decide) hdf ⟨rfl, by decide, by decide⟩ hY F (fun _ _ a ns hl _ hS => ⟨a, ns, rfl, hS, hl, fun _ => rfl⟩) fun _ _ _ _ _ z => z
end MM
open PySem PySem.W PyProof.Rows in
set_option maxRecDepth 100000 in
set_option maxHeartbeats 0 in
theorem PySem.Challenge.cw_meanmoon_k76_texts_of_no_calendar_holds : PySem.Challenge.rw_meanmoon_k76_texts_of_no_calendar.Holds := by
  w_on; o_law; k_head; (case hw => w_witness2)
  k_fill
  refine MM.walk (l := PySem.Challenge.rw_meanmoon_k76_texts_of_no_calendar) rfl rfl (fun w h Y => PySem.W.kIn_of Y) ?F
  case F =>
    intro w mg fa h KX G hmg
    refine' MM.fin hmg
      ⟨?pg, ?hd, ?po, ?sa⟩ ?nT ?nB ?ha ?hn ?htk ?hm ?iC ?tC ?sI (PySem.W.mg_of KX G ?aC)
      (MM.di_mk (its := [_]) (PySem.W.mg_of KX G ?aC) ?s1 ?s2 ?s3 ?s4 ?s5 ?s6 ?s7 ?s8 ?s9 ?s0 (by decide))
      ⟨?pgc, ?hdc, ?poc, ?sac⟩ ?n1 ?n2 ?n3 ?n4 ?ne (PySem.W.mg_of KX G ?aM) ?rM
      (MM.di_mk (its := [_, _]) (PySem.W.mg_of KX G ?aD) ?c1 ?c2 ?c3 ?c4 ?c5 ?c6 ?c7 ?c8 ?c9 (.cons rfl (.cons rfl .nil)) (by decide))
      (MM.dm_mk ⟨?pg, ?hd, ?po, ?sa⟩ ?mdStra ?mdStri ?mdStrl ?mdStrc ?mdStrk)
      ?hac ?hmc (PySem.W.mg_of KX G ?aD)
      ⟨PySem.W.mg_of KX G ?tx_NoShare, ?txi_NoShare, ?txt_NoShare, ?txe_NoShare, ?txs_NoShare⟩
      ⟨PySem.W.mg_of KX G ?tx_NoCalendar, ?txi_NoCalendar, ?txt_NoCalendar, ?txe_NoCalendar, ?txs_NoCalendar⟩
      ⟨PySem.W.mg_of KX G ?tx_NoDate, ?txi_NoDate, ?txt_NoDate, ?txe_NoDate, ?txs_NoDate⟩
      ⟨PySem.W.mg_of KX G ?tx_NoWheel, ?txi_NoWheel, ?txt_NoWheel, ?txe_NoWheel, ?txs_NoWheel⟩
      ⟨PySem.W.mg_of KX G ?tx_NoName, ?txi_NoName, ?txt_NoName, ?txe_NoName, ?txs_NoName⟩
      ⟨PySem.W.mg_of KX G ?tx_NoDay, ?txi_NoDay, ?txt_NoDay, ?txe_NoDay, ?txs_NoDay⟩
      ⟨PySem.W.mg_of KX G ?tx_Taken, ?txi_Taken, ?txt_Taken, ?txe_Taken, ?txs_Taken⟩
      ⟨PySem.W.mg_of KX G ?tx_NoText, ?txi_NoText, ?txt_NoText, ?txe_NoText, ?txs_NoText⟩
      ⟨PySem.W.mg_of KX G ?tx_NoNote, ?txi_NoNote, ?txt_NoNote, ?txe_NoNote, ?txs_NoNote⟩
      ⟨PySem.W.mg_of KX G ?tx_NoDeed, ?txi_NoDeed, ?txt_NoDeed, ?txe_NoDeed, ?txs_NoDeed⟩
      ?txr_NoShare ?txr_NoCalendar ?txr_NoDate ?txr_NoWheel ?txr_NoName ?txr_NoDay ?txr_Taken ?txr_NoNote ?txr_NoDeed
      ?tty_ZeroDivisionError ?tty_LookupError ?tty_ValueError ?tty_KeyError ?tty_IndexError ?tty_RuntimeError
      ⟨?txc_0, ?txc_1, ?txc_2, ?txc_3, ?txc_4, ?txc_5, ?txc_6, ?txc_7⟩
      (MM.oxv_mk ?tol ?tosa ?toex ?toty ?tokp) ?tnoat ?tnowhy ?vV
      (MM.dx_mk ?tda ?tdl ?tdc ?tdk ?tdt)
      ⟨PySem.W.mg_of KX G ?vx_NoShare, ?vxi_NoShare, ?vxt_NoShare, ?vxe_NoShare, ?vxs_NoShare⟩
      ⟨PySem.W.mg_of KX G ?vx_NoCalendar, ?vxi_NoCalendar, ?vxt_NoCalendar, ?vxe_NoCalendar, ?vxs_NoCalendar⟩
      ⟨PySem.W.mg_of KX G ?vx_NoDate, ?vxi_NoDate, ?vxt_NoDate, ?vxe_NoDate, ?vxs_NoDate⟩
      ⟨PySem.W.mg_of KX G ?vx_NoWheel, ?vxi_NoWheel, ?vxt_NoWheel, ?vxe_NoWheel, ?vxs_NoWheel⟩
      ⟨PySem.W.mg_of KX G ?vx_NoName, ?vxi_NoName, ?vxt_NoName, ?vxe_NoName, ?vxs_NoName⟩
      ⟨PySem.W.mg_of KX G ?vx_NoDay, ?vxi_NoDay, ?vxt_NoDay, ?vxe_NoDay, ?vxs_NoDay⟩
      ⟨PySem.W.mg_of KX G ?vx_Taken, ?vxi_Taken, ?vxt_Taken, ?vxe_Taken, ?vxs_Taken⟩
      ⟨PySem.W.mg_of KX G ?vx_NoText, ?vxi_NoText, ?vxt_NoText, ?vxe_NoText, ?vxs_NoText⟩
      ⟨PySem.W.mg_of KX G ?vx_NoNote, ?vxi_NoNote, ?vxt_NoNote, ?vxe_NoNote, ?vxs_NoNote⟩
      ⟨PySem.W.mg_of KX G ?vx_NoDeed, ?vxi_NoDeed, ?vxt_NoDeed, ?vxe_NoDeed, ?vxs_NoDeed⟩
      ?vxr_NoShare ?vxr_NoDate ?vxr_NoWheel ?vxr_NoName ?vxr_NoDay ?vxr_Taken ?vxr_NoText ?vxr_NoNote ?vxr_NoDeed
      ?vty_ZeroDivisionError ?vty_LookupError ?vty_ValueError ?vty_KeyError ?vty_IndexError ?vty_RuntimeError
      ⟨?vxc_0, ?vxc_1, ?vxc_2, ?vxc_3, ?vxc_4, ?vxc_5, ?vxc_6, ?vxc_7⟩
      (MM.oxv_mk ?vol ?vosa ?voex ?voty ?vokp) ?vnoat ?vnowhy
      (MM.dx_mk ?vda ?vdl ?vdc ?vdk ?vdt)
      (itsW := [_, _, _, _]) (PySem.W.mg_of KX G ?gw1) ?gw2 ?gw3 ?gw4 ?gw5
      (PySem.W.mg_of KX G ?gl_FIGURES) ?gr_FIGURES
      (PySem.W.mg_none_of KX G ?z0)
      (PySem.W.mg_none_of KX G ?z1)
      (PySem.W.mg_none_of KX G ?z2)
      (PySem.W.mg_none_of KX G ?z3)
      (PySem.W.mg_none_of KX G ?z4)
      (PySem.W.mg_none_of KX G ?z5)
      (PySem.W.mg_none_of KX G ?z6)
      (PySem.W.mg_none_of KX G ?z7)
      (PySem.W.mg_none_of KX G ?z8)
      (PySem.W.mg_none_of KX G ?z9)
      (MM.df_mkD (its := [_]) KX G ?q1_numeral ?q2_numeral ?q3_numeral ?q4_numeral ?q5_numeral ?q6_numeral ?q7_numeral (by decide))
      (MM.df_mkD (its := [_]) KX G ?q1_number_in ?q2_number_in ?q3_number_in ?q4_number_in ?q5_number_in ?q6_number_in ?q7_number_in (by decide))
      (MM.df_mk KX G ?a_common_divisor ?l_common_divisor ?c_common_divisor ?k_common_divisor)
      (MM.df_mk KX G ?a_as_share ?l_as_share ?c_as_share ?k_as_share)
      (MM.df_mk KX G ?a_plus ?l_plus ?c_plus ?k_plus)
      (MM.df_mk KX G ?a_minus ?l_minus ?c_minus ?k_minus)
      (MM.df_mk KX G ?a_times ?l_times ?c_times ?k_times)
      (MM.df_mk KX G ?a_over ?l_over ?c_over ?k_over)
      (MM.df_mk KX G ?a_before ?l_before ?c_before ?k_before)
      (MM.df_mk KX G ?a_whole ?l_whole ?c_whole ?k_whole)
      (MM.df_mk KX G ?a_rounded_up ?l_rounded_up ?c_rounded_up ?k_rounded_up)
      (MM.df_mk KX G ?a_refuse_unfit ?l_refuse_unfit ?c_refuse_unfit ?k_refuse_unfit)
      (MM.df_mk KX G ?a_moment_or_nought ?l_moment_or_nought ?c_moment_or_nought ?k_moment_or_nought)
      (MM.df_mk KX G ?a_twelfth ?l_twelfth ?c_twelfth ?k_twelfth)
      (MM.df_mk KX G ?a_share_in ?l_share_in ?c_share_in ?k_share_in)
      (MM.df_mk KX G ?a_read_calendar ?l_read_calendar ?c_read_calendar ?k_read_calendar)
      (MM.df_mk KX G ?a_texts_by_word ?l_texts_by_word ?c_texts_by_word ?k_texts_by_word)
      (MM.df_mk KX G ?a_l_draws ?l_l_draws ?c_l_draws ?k_l_draws)
      (MM.df_mk KX G ?a_l_next ?l_l_next ?c_l_next ?k_l_next)
      (MM.df_mk KX G ?a_l_low ?l_l_low ?c_l_low ?k_l_low)
      (MM.df_mk KX G ?a_l_plus ?l_l_plus ?c_l_plus ?k_l_plus)
      (MM.df_mk KX G ?a_l_by ?l_l_by ?c_l_by ?k_l_by)
      (MM.df_mk KX G ?a_l_part ?l_l_part ?c_l_part ?k_l_part)
      (MM.df_mk KX G ?a_l_moment ?l_l_moment ?c_l_moment ?k_l_moment)
      (MM.df_mk KX G ?a_l_four ?l_l_four ?c_l_four ?k_l_four)
      (MM.df_mk KX G ?a_l_value ?l_l_value ?c_l_value ?k_l_value)
      (MM.df_mk KX G ?a_l_share_in ?l_l_share_in ?c_l_share_in ?k_l_share_in)
      (MM.df_mk KX G ?a_l_share_text ?l_l_share_text ?c_l_share_text ?k_l_share_text)
      (MM.df_mk KX G ?a_l_no_share ?l_l_no_share ?c_l_no_share ?k_l_no_share)
      (MM.df_mk KX G ?a_l_four_bent ?l_l_four_bent ?c_l_four_bent ?k_l_four_bent)
      (MM.df_mk KX G ?a_l_lines ?l_l_lines ?c_l_lines ?k_l_lines)
      (MM.df_mk KX G ?a_l_bent ?l_l_bent ?c_l_bent ?k_l_bent)
      (MM.df_mk KX G ?a_l_why ?l_l_why ?c_l_why ?k_l_why)
      (MM.df_mk KX G ?a_l_due ?l_l_due ?c_l_due ?k_l_due)
      (MM.df_mk KX G ?a_l_kinds ?l_l_kinds ?c_l_kinds ?k_l_kinds)
      (MM.df_mk KX G ?a_l_asked ?l_l_asked ?c_l_asked ?k_l_asked)
      (MM.df_mk KX G ?a_law ?l_law ?c_law ?k_law)
    (case aC => k_is)
    (case pg => k_is)
    (case hd => k_is)
    (case po => k_is)
    (case sa => k_is)
    (case nT => k_is)
    (case nB => k_is)
    (case ha => k_is)
    (case hn => k_is)
    (case htk => k_is)
    (case hm => k_is)
    (case iC => k_is)
    (case tC => k_is)
    (case sI => k_is)
    (case s1 => k_is)
    (case s2 => k_is)
    (case s3 => k_is)
    (case s4 => k_is)
    (case s5 => k_is)
    (case s6 => k_is)
    (case s7 => k_is)
    (case s8 => k_is)
    (case aD => k_is)
    (case pgc => k_is)
    (case hdc => k_is)
    (case poc => k_is)
    (case sac => k_is)
    (case n1 => k_is)
    (case n2 => k_is)
    (case n3 => k_is)
    (case n4 => k_is)
    (case aM => k_is)
    (case c1 => k_is)
    (case c2 => k_is)
    (case c3 => k_is)
    (case c4 => k_is)
    (case c5 => k_is)
    (case c6 => k_is)
    (case c7 => k_is)
    (case c8 => k_is)
    (case mdStra => k_is)
    (case mdStri => k_is)
    (case mdStrl => k_is)
    (case mdStrc => k_is)
    (case mdStrk => k_is)
    (case hac => k_is)
    (case hmc => k_is)
    (case tx_NoText => k_is)
    (case tx_NoShare => k_is)
    (case txi_NoShare => k_is)
    (case txt_NoShare => k_is)
    (case txe_NoShare => k_is)
    (case txs_NoShare => k_is)
    (case tx_NoCalendar => k_is)
    (case txi_NoCalendar => k_is)
    (case txt_NoCalendar => k_is)
    (case txe_NoCalendar => k_is)
    (case txs_NoCalendar => k_is)
    (case tx_NoDate => k_is)
    (case txi_NoDate => k_is)
    (case txt_NoDate => k_is)
    (case txe_NoDate => k_is)
    (case txs_NoDate => k_is)
    (case tx_NoWheel => k_is)
    (case txi_NoWheel => k_is)
    (case txt_NoWheel => k_is)
    (case txe_NoWheel => k_is)
    (case txs_NoWheel => k_is)
    (case tx_NoName => k_is)
    (case txi_NoName => k_is)
    (case txt_NoName => k_is)
    (case txe_NoName => k_is)
    (case txs_NoName => k_is)
    (case tx_NoDay => k_is)
    (case txi_NoDay => k_is)
    (case txt_NoDay => k_is)
    (case txe_NoDay => k_is)
    (case txs_NoDay => k_is)
    (case tx_Taken => k_is)
    (case txi_Taken => k_is)
    (case txt_Taken => k_is)
    (case txe_Taken => k_is)
    (case txs_Taken => k_is)
    (case txi_NoText => k_is)
    (case txt_NoText => k_is)
    (case txe_NoText => k_is)
    (case txs_NoText => k_is)
    (case tx_NoNote => k_is)
    (case txi_NoNote => k_is)
    (case txt_NoNote => k_is)
    (case txe_NoNote => k_is)
    (case txs_NoNote => k_is)
    (case tx_NoDeed => k_is)
    (case txi_NoDeed => k_is)
    (case txt_NoDeed => k_is)
    (case txe_NoDeed => k_is)
    (case txs_NoDeed => k_is)
    (case tty_ZeroDivisionError => k_is)
    (case tty_LookupError => k_is)
    (case tty_ValueError => k_is)
    (case tty_KeyError => k_is)
    (case tty_IndexError => k_is)
    (case tty_RuntimeError => k_is)
    (case txc_0 => k_is)
    (case txc_1 => k_is)
    (case txc_2 => k_is)
    (case txc_3 => k_is)
    (case txc_4 => k_is)
    (case txc_5 => k_is)
    (case txc_6 => k_is)
    (case txc_7 => k_is)
    (case tol => k_is)
    (case tosa => k_is)
    (case toex => k_is)
    (case toty => k_is)
    (case tokp => k_is)
    (case tnoat => k_is)
    (case tnowhy => k_is)
    (case vV => k_is)
    (case tda => k_is)
    (case tdl => k_is)
    (case tdc => k_is)
    (case tdk => k_is)
    (case tdt => k_is)
    (case vx_NoCalendar => k_is)
    (case vx_NoShare => k_is)
    (case vxi_NoShare => k_is)
    (case vxt_NoShare => k_is)
    (case vxe_NoShare => k_is)
    (case vxs_NoShare => k_is)
    (case vxi_NoCalendar => k_is)
    (case vxt_NoCalendar => k_is)
    (case vxe_NoCalendar => k_is)
    (case vxs_NoCalendar => k_is)
    (case vx_NoDate => k_is)
    (case vxi_NoDate => k_is)
    (case vxt_NoDate => k_is)
    (case vxe_NoDate => k_is)
    (case vxs_NoDate => k_is)
    (case vx_NoWheel => k_is)
    (case vxi_NoWheel => k_is)
    (case vxt_NoWheel => k_is)
    (case vxe_NoWheel => k_is)
    (case vxs_NoWheel => k_is)
    (case vx_NoName => k_is)
    (case vxi_NoName => k_is)
    (case vxt_NoName => k_is)
    (case vxe_NoName => k_is)
    (case vxs_NoName => k_is)
    (case vx_NoDay => k_is)
    (case vxi_NoDay => k_is)
    (case vxt_NoDay => k_is)
    (case vxe_NoDay => k_is)
    (case vxs_NoDay => k_is)
    (case vx_Taken => k_is)
    (case vxi_Taken => k_is)
    (case vxt_Taken => k_is)
    (case vxe_Taken => k_is)
    (case vxs_Taken => k_is)
    (case vx_NoText => k_is)
    (case vxi_NoText => k_is)
    (case vxt_NoText => k_is)
    (case vxe_NoText => k_is)
    (case vxs_NoText => k_is)
    (case vx_NoNote => k_is)
    (case vxi_NoNote => k_is)
    (case vxt_NoNote => k_is)
    (case vxe_NoNote => k_is)
    (case vxs_NoNote => k_is)
    (case vx_NoDeed => k_is)
    (case vxi_NoDeed => k_is)
    (case vxt_NoDeed => k_is)
    (case vxe_NoDeed => k_is)
    (case vxs_NoDeed => k_is)
    (case vty_ZeroDivisionError => k_is)
    (case vty_LookupError => k_is)
    (case vty_ValueError => k_is)
    (case vty_KeyError => k_is)
    (case vty_IndexError => k_is)
    (case vty_RuntimeError => k_is)
    (case vxc_0 => k_is)
    (case vxc_1 => k_is)
    (case vxc_2 => k_is)
    (case vxc_3 => k_is)
    (case vxc_4 => k_is)
    (case vxc_5 => k_is)
    (case vxc_6 => k_is)
    (case vxc_7 => k_is)
    (case vol => k_is)
    (case vosa => k_is)
    (case voex => k_is)
    (case voty => k_is)
    (case vokp => k_is)
    (case vnoat => k_is)
    (case vnowhy => k_is)
    (case vda => k_is)
    (case vdl => k_is)
    (case vdc => k_is)
    (case vdk => k_is)
    (case vdt => k_is)
    (case gw1 => k_is)
    (case gw2 => k_is)
    (case gl_FIGURES => k_is)
    (case z0 => k_is)
    (case z1 => k_is)
    (case z2 => k_is)
    (case z3 => k_is)
    (case z4 => k_is)
    (case z5 => k_is)
    (case z6 => k_is)
    (case z7 => k_is)
    (case z8 => k_is)
    (case z9 => k_is)
    (case q1_numeral => k_is)
    (case q2_numeral => k_is)
    (case q3_numeral => k_is)
    (case q4_numeral => k_is)
    (case q5_numeral => k_is)
    (case q1_number_in => k_is)
    (case q2_number_in => k_is)
    (case q3_number_in => k_is)
    (case q4_number_in => k_is)
    (case q5_number_in => k_is)
    (case a_common_divisor => k_is)
    (case l_common_divisor => k_is)
    (case c_common_divisor => k_is)
    (case k_common_divisor => k_is)
    (case a_as_share => k_is)
    (case l_as_share => k_is)
    (case c_as_share => k_is)
    (case k_as_share => k_is)
    (case a_plus => k_is)
    (case l_plus => k_is)
    (case c_plus => k_is)
    (case k_plus => k_is)
    (case a_minus => k_is)
    (case l_minus => k_is)
    (case c_minus => k_is)
    (case k_minus => k_is)
    (case a_times => k_is)
    (case l_times => k_is)
    (case c_times => k_is)
    (case k_times => k_is)
    (case a_over => k_is)
    (case l_over => k_is)
    (case c_over => k_is)
    (case k_over => k_is)
    (case a_before => k_is)
    (case l_before => k_is)
    (case c_before => k_is)
    (case k_before => k_is)
    (case a_whole => k_is)
    (case l_whole => k_is)
    (case c_whole => k_is)
    (case k_whole => k_is)
    (case a_rounded_up => k_is)
    (case l_rounded_up => k_is)
    (case c_rounded_up => k_is)
    (case k_rounded_up => k_is)
    (case a_refuse_unfit => k_is)
    (case l_refuse_unfit => k_is)
    (case c_refuse_unfit => k_is)
    (case k_refuse_unfit => k_is)
    (case a_moment_or_nought => k_is)
    (case l_moment_or_nought => k_is)
    (case c_moment_or_nought => k_is)
    (case k_moment_or_nought => k_is)
    (case a_twelfth => k_is)
    (case l_twelfth => k_is)
    (case c_twelfth => k_is)
    (case k_twelfth => k_is)
    (case a_share_in => k_is)
    (case l_share_in => k_is)
    (case c_share_in => k_is)
    (case k_share_in => k_is)
    (case a_read_calendar => k_is)
    (case l_read_calendar => k_is)
    (case c_read_calendar => k_is)
    (case k_read_calendar => k_is)
    (case a_texts_by_word => k_is)
    (case l_texts_by_word => k_is)
    (case c_texts_by_word => k_is)
    (case k_texts_by_word => k_is)
    (case a_l_draws => k_is)
    (case l_l_draws => k_is)
    (case c_l_draws => k_is)
    (case k_l_draws => k_is)
    (case a_l_next => k_is)
    (case l_l_next => k_is)
    (case c_l_next => k_is)
    (case k_l_next => k_is)
    (case a_l_low => k_is)
    (case l_l_low => k_is)
    (case c_l_low => k_is)
    (case k_l_low => k_is)
    (case a_l_plus => k_is)
    (case l_l_plus => k_is)
    (case c_l_plus => k_is)
    (case k_l_plus => k_is)
    (case a_l_by => k_is)
    (case l_l_by => k_is)
    (case c_l_by => k_is)
    (case k_l_by => k_is)
    (case a_l_part => k_is)
    (case l_l_part => k_is)
    (case c_l_part => k_is)
    (case k_l_part => k_is)
    (case a_l_moment => k_is)
    (case l_l_moment => k_is)
    (case c_l_moment => k_is)
    (case k_l_moment => k_is)
    (case a_l_four => k_is)
    (case l_l_four => k_is)
    (case c_l_four => k_is)
    (case k_l_four => k_is)
    (case a_l_value => k_is)
    (case l_l_value => k_is)
    (case c_l_value => k_is)
    (case k_l_value => k_is)
    (case a_l_share_in => k_is)
    (case l_l_share_in => k_is)
    (case c_l_share_in => k_is)
    (case k_l_share_in => k_is)
    (case a_l_share_text => k_is)
    (case l_l_share_text => k_is)
    (case c_l_share_text => k_is)
    (case k_l_share_text => k_is)
    (case a_l_no_share => k_is)
    (case l_l_no_share => k_is)
    (case c_l_no_share => k_is)
    (case k_l_no_share => k_is)
    (case a_l_four_bent => k_is)
    (case l_l_four_bent => k_is)
    (case c_l_four_bent => k_is)
    (case k_l_four_bent => k_is)
    (case a_l_lines => k_is)
    (case l_l_lines => k_is)
    (case c_l_lines => k_is)
    (case k_l_lines => k_is)
    (case a_l_bent => k_is)
    (case l_l_bent => k_is)
    (case c_l_bent => k_is)
    (case k_l_bent => k_is)
    (case a_l_why => k_is)
    (case l_l_why => k_is)
    (case c_l_why => k_is)
    (case k_l_why => k_is)
    (case a_l_due => k_is)
    (case l_l_due => k_is)
    (case c_l_due => k_is)
    (case k_l_due => k_is)
    (case a_l_kinds => k_is)
    (case l_l_kinds => k_is)
    (case c_l_kinds => k_is)
    (case k_l_kinds => k_is)
    (case a_l_asked => k_is)
    (case l_l_asked => k_is)
    (case c_l_asked => k_is)
    (case k_l_asked => k_is)
    (case a_law => k_is)
    (case l_law => k_is)
    (case c_law => k_is)
    (case k_law => k_is)
    (case s9 => rfl)
    (case s0 => exact .cons ⟨_, rfl⟩ .nil)
    (case ne => decide)
    (case rM => exact ⟨_, rfl⟩)
    (case c9 => rfl)
    (case txr_NoShare => decide)
    (case txr_NoCalendar => decide)
    (case txr_NoDate => decide)
    (case txr_NoWheel => decide)
    (case txr_NoName => decide)
    (case txr_NoDay => decide)
    (case txr_Taken => decide)
    (case txr_NoNote => decide)
    (case txr_NoDeed => decide)
    (case vxr_NoShare => decide)
    (case vxr_NoDate => decide)
    (case vxr_NoWheel => decide)
    (case vxr_NoName => decide)
    (case vxr_NoDay => decide)
    (case vxr_Taken => decide)
    (case vxr_NoText => decide)
    (case vxr_NoNote => decide)
    (case vxr_NoDeed => decide)
    (case gw3 => rfl)
    (case gw4 => rfl)
    (case gw5 => exact .cons ⟨_, rfl⟩ (.cons ⟨_, rfl⟩ (.cons ⟨_, rfl⟩ (.cons ⟨_, rfl⟩ .nil))))
    (case gr_FIGURES => exact ⟨_, rfl⟩)
    (case q6_numeral => rfl)
    (case q7_numeral => exact (.cons ⟨_, rfl⟩ .nil))
    (case q6_number_in => rfl)
    (case q7_number_in => exact (.cons ⟨_, rfl⟩ .nil))
#print axioms PySem.Challenge.cw_meanmoon_k76_texts_of_no_calendar_holds
