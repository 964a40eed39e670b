import PyProof.Rows.All
import Wide.All
import OpenK.AllK
import Wide.FinOn
import PyProof.NoPylong
import HandS.ForMost
import HandS.Wide
import HandS.Defaults
import HandS.MakeKw
import HandS.MakeKwOnly
import HandS.Exc
import HandS.WordsExc
import HandS.IsInst
import HandS.FStr
import HandS.Style
import HandS.Codes
import HandS.NoneIn
import PyProof.LongRange
import KE.KTryMore
import KE.KIsAll
import HandS.ExcIs
import HandS.ExcField
import HandS.ExcInit
import KE.KExcInit
import HandS.ExcBuiltin
import KE.KCallOwn
import HandS.OwnEq
import HandS.MapJoin
import HandS.Rev
import HandS.RevTup
import HandS.Walk
import HandS.Zip
import PyProof.P3Eq
import PyProof.EqLayable
import PyProof.InstNe
import KE.KTupSum
import HandS.SortInts
import HandS.Deep
import HandS.StrMore
import HandS.Text
import HandS.Call
import OpenK.KOps
import PyProof.EqAt
import PyProof.EqKinds
import PyProof.FString2
import KE.KFmtOwn
import PyProof.Rows.StrPins2
import HandS.SortRule
import HandS.Conv
import PyProof.FactsLen
import PyProof.InstSpecial
import HandS.Strs
import PyProof.Rows.FactsExc_KeyError
import HandS.Comp
import HandS.TupAny
import HandS.Iter
import HandS.More
import PyProof.ExcBaseAll.ValueError
import PyProof.ExcBaseAll.LookupError
import PySem.Challenge.RW_meanmoon_k63_days_on_which_wheels_meet
set_option Elab.async false
set_option linter.all false
set_option maxRecDepth 100000
set_option maxHeartbeats 4000000
namespace MM
/-! fractions as Rat: the program's and the law's lowest terms are num and den -/
theorem gcd_fmod (a b : Int) : Int.gcd b (a.fmod b) = Int.gcd a b := by
  have h : a.fmod b = a - b * a.fdiv b := by have := Int.mul_fdiv_add_fmod a b; omega
  rw [h, Int.gcd_comm a b]
  rw [Int.sub_eq_add_neg, ← Int.mul_neg, Int.gcd_add_mul_left_right]
theorem gcd_emod' (a b : Int) : Int.gcd b (a % b) = Int.gcd a b := by
  have h : a % b = a - b * (a / b) := by have := Int.mul_ediv_add_emod a b; omega
  rw [h, Int.gcd_comm a b]
  rw [Int.sub_eq_add_neg, ← Int.mul_neg, Int.gcd_add_mul_left_right]
theorem fmod_lt (a : Int) {b : Int} (h : b ≠ 0) : (a.fmod b).natAbs < b.natAbs := by
  rcases Int.lt_or_gt_of_ne h with hb | hb
  · have e : a.fmod b = -((-a).fmod (-b)) := by rw [Int.neg_fmod_neg, Int.neg_neg]
    have h1 := Int.fmod_nonneg_of_pos (-a) (show (0 : Int) < -b by omega)
    have h2 := Int.fmod_lt_of_pos (-a) (show (0 : Int) < -b by omega)
    rw [e]
    omega
  · have h1 := Int.fmod_nonneg_of_pos a hb
    have h2 := Int.fmod_lt_of_pos a hb
    omega
theorem gcd_pos {t b : Int} (h : b ≠ 0) : 0 < Int.gcd t b := Int.gcd_pos_of_ne_zero_right t h
/-- the divisor that makes lowest terms -/
def gs (t b : Int) : Int := if b < 0 then -(Int.gcd t b : Int) else (Int.gcd t b : Int)
theorem gs_ne {t b : Int} (h : b ≠ 0) : gs t b ≠ 0 := by
  have := gcd_pos (t := t) h
  unfold gs
  split <;> omega
theorem low_num {t b : Int} (h : b ≠ 0) : t.fdiv (gs t b) = (Rat.divInt t b).num := by
  have hg := gcd_pos (t := t) h
  rw [Rat.num_divInt, Int.gcd_comm b t]
  unfold gs
  split
  · rename_i hb
    rw [Int.sign_eq_neg_one_of_neg hb, Int.neg_one_mul]
    rw [← Int.neg_fdiv_neg, Int.neg_neg, Int.fdiv_eq_ediv_of_nonneg _ (by omega)]
  · rw [Int.sign_eq_one_of_pos (by omega), Int.one_mul, Int.fdiv_eq_ediv_of_nonneg _ (by omega)]
theorem low_den {t b : Int} (h : b ≠ 0) : b.fdiv (gs t b) = ((Rat.divInt t b).den : Int) := by
  have hg := gcd_pos (t := t) h
  rw [Rat.den_divInt, if_neg h, Int.gcd_comm b t, Int.natCast_ediv]
  unfold gs
  split
  · rename_i hb
    rw [← Int.neg_fdiv_neg, Int.neg_neg, Int.fdiv_eq_ediv_of_nonneg _ (by omega)]
    congr 1
    omega
  · rw [Int.fdiv_eq_ediv_of_nonneg _ (by omega)]
    congr 1
    omega
theorem den_pos (q : Rat) : (0 : Int) < (q.den : Int) := by
  have := q.den_pos
  omega
/-- sizes -/
def Sz (n : Nat) (i : Int) : Prop := i.natAbs < 2 ^ n
def Rz (n : Nat) (q : Rat) : Prop := Sz n q.num ∧ Sz n q.den
theorem Sz.mono {n m : Nat} {i : Int} (h : Sz n i) (l : n ≤ m) : Sz m i := Nat.lt_of_lt_of_le h (Nat.pow_le_pow_right (by decide) l)
theorem Rz.mono {n m : Nat} {q : Rat} (h : Rz n q) (l : n ≤ m) : Rz m q := ⟨h.1.mono l, h.2.mono l⟩
theorem Sz.mul {n m : Nat} {i j : Int} (h : Sz n i) (k : Sz m j) : Sz (n + m) (i * j) := by
  unfold Sz
  rw [Int.natAbs_mul, Nat.pow_add]
  exact Nat.mul_lt_mul'' h k
theorem Sz.add {n m : Nat} {i j : Int} (h : Sz n i) (k : Sz n j) (l : n < m) : Sz m (i + j) := by
  have h' : i.natAbs < 2 ^ n := h
  have k' : j.natAbs < 2 ^ n := k
  have e : 2 ^ (n + 1) ≤ 2 ^ m := Nat.pow_le_pow_right (by decide) l
  rw [Nat.pow_succ] at e
  have z := Int.natAbs_add_le i j
  unfold Sz
  omega
theorem Sz.neg {n : Nat} {i : Int} (h : Sz n i) : Sz n (-i) := by
  unfold Sz
  rw [Int.natAbs_neg]
  exact h
theorem Sz.sub {n m : Nat} {i j : Int} (h : Sz n i) (k : Sz n j) (l : n < m) : Sz m (i - j) := by
  rw [Int.sub_eq_add_neg]
  exact h.add k.neg l
theorem natAbs_ediv_le (a : Int) {b : Nat} : (a / (b : Int)).natAbs ≤ a.natAbs := Int.natAbs_ediv_le_natAbs _ _
theorem Rz.divInt {n : Nat} {t b : Int} (h : Sz n t) (k : Sz n b) (h0 : 0 < n) : Rz n (Rat.divInt t b) := by
  refine ⟨?_, ?_⟩
  · unfold Sz
    rw [Rat.num_divInt]
    refine Nat.lt_of_le_of_lt (Int.natAbs_ediv_le_natAbs _ _) ?_
    rw [Int.natAbs_mul]
    refine Nat.lt_of_le_of_lt ?_ h
    have : b.sign.natAbs ≤ 1 := by
      rcases Int.lt_trichotomy b 0 with z | z | z
      · rw [Int.sign_eq_neg_one_of_neg z]; decide
      · rw [z]; decide
      · rw [Int.sign_eq_one_of_pos z]; decide
    calc b.sign.natAbs * t.natAbs ≤ 1 * t.natAbs := Nat.mul_le_mul_right _ this
      _ = t.natAbs := Nat.one_mul _
  · unfold Sz
    rw [Rat.den_divInt]
    split
    · show 1 < 2 ^ n
      exact Nat.one_lt_two_pow (by omega)
    · rw [Int.natAbs_natCast]
      exact Nat.lt_of_le_of_lt (Nat.div_le_self _ _) k
theorem add_eq (p q : Rat) : p + q = Rat.divInt (p.num * q.den + q.num * p.den) ((p.den : Int) * q.den) := by
  have := Rat.divInt_add_divInt p.num q.num (d₁ := p.den) (d₂ := q.den) (by have := den_pos p; omega) (by have := den_pos q; omega)
  rw [Rat.num_divInt_den, Rat.num_divInt_den] at this
  exact this
theorem sub_eq (p q : Rat) : p - q = Rat.divInt (p.num * q.den - q.num * p.den) ((p.den : Int) * q.den) := by
  rw [Rat.sub_eq_add_neg, add_eq]
  rw [Rat.neg_num, Rat.neg_den, Int.neg_mul, ← Int.sub_eq_add_neg]
theorem mul_eq (p q : Rat) : p * q = Rat.divInt (p.num * q.num) ((p.den : Int) * q.den) := by
  have := Rat.divInt_mul_divInt p.num q.num (d₁ := p.den) (d₂ := q.den)
  rw [Rat.num_divInt_den, Rat.num_divInt_den] at this
  exact this
theorem div_eq (p q : Rat) (h : q ≠ 0) : p / q = Rat.divInt (p.num * q.den) ((p.den : Int) * q.num) := by
  rw [Rat.div_def, mul_eq]
  have hq : q.num ≠ 0 := fun z => h (Rat.num_eq_zero.mp z)
  have e : q⁻¹ = Rat.divInt q.den q.num := by
    have := Rat.inv_divInt q.num q.den
    rw [Rat.num_divInt_den] at this
    exact this
  rw [← mul_eq, e]
  have := Rat.divInt_mul_divInt p.num q.den (d₁ := p.den) (d₂ := q.num)
  rw [Rat.num_divInt_den] at this
  exact this
theorem lt_iff' (p q : Rat) : p < q ↔ p.num * q.den < q.num * p.den := Rat.lt_iff p q
theorem Rz.add {n l m : Nat} {p q : Rat} (h : Rz n p) (k : Rz l q) (hl : n + l < m) : Rz m (p + q) := by
  rw [add_eq]
  exact Rz.divInt (Sz.add (n := n + l) ((h.1.mul k.2).mono (by omega)) ((k.1.mul h.2).mono (by omega)) hl) ((h.2.mul k.2).mono (by omega)) (by omega)
theorem Rz.sub {n l m : Nat} {p q : Rat} (h : Rz n p) (k : Rz l q) (hl : n + l < m) : Rz m (p - q) := by
  rw [sub_eq]
  exact Rz.divInt (Sz.sub (n := n + l) ((h.1.mul k.2).mono (by omega)) ((k.1.mul h.2).mono (by omega)) hl) ((h.2.mul k.2).mono (by omega)) (by omega)
theorem Rz.mul {n l m : Nat} {p q : Rat} (h : Rz n p) (k : Rz l q) (hl : n + l < m) : Rz m (p * q) := by
  rw [mul_eq]
  exact Rz.divInt ((h.1.mul k.1).mono (by omega)) ((h.2.mul k.2).mono (by omega)) (by omega)
theorem Rz.div {n l m : Nat} {p q : Rat} (h : Rz n p) (k : Rz l q) (z : q ≠ 0) (hl : n + l < m) : Rz m (p / q) := by
  rw [div_eq p q z]
  exact Rz.divInt ((h.1.mul k.2).mono (by omega)) ((h.2.mul k.1).mono (by omega)) (by omega)
theorem Rz.int {n : Nat} {i : Int} (h : Sz n i) (h0 : 0 < n) : Rz n (i : Rat) := ⟨h, (by show 1 < 2 ^ n; exact Nat.one_lt_two_pow (by omega))⟩
theorem Sz.floor {n : Nat} {q : Rat} (h : Rz n q) : Sz n q.floor := by
  unfold Sz
  rw [Rat.floor_def]
  exact Nat.lt_of_le_of_lt (Int.natAbs_ediv_le_natAbs _ _) h.1
theorem neg_div_ceil (q : Rat) : -(-q.num / (q.den : Int)) = q.ceil := by
  have := Rat.ceil_eq_neg_floor_neg q
  rw [this, Rat.floor_def, Rat.neg_num, Rat.neg_den]
theorem Rz.neg {n : Nat} {q : Rat} (h : Rz n q) : Rz n (-q) := ⟨by rw [Rat.neg_num]; exact h.1.neg, by rw [Rat.neg_den]; exact h.2⟩
theorem Sz.ceil {n : Nat} {q : Rat} (h : Rz n q) : Sz n q.ceil := by
  rw [Rat.ceil_eq_neg_floor_neg]
  exact (Sz.floor h.neg).neg
theorem Sz.of {n : Nat} {i : Int} (h1 : -(2 ^ n) < i) (h2 : i < 2 ^ n) : Sz n i := by
  unfold Sz
  have e : ((2 ^ n : Nat) : Int) = (2 : Int) ^ n := by simp
  omega
end MM
namespace MM
/-! the calendar's mathematics: floor, ceil, and the steps of months and marks -/
structure Fit (m y : Rat) : Prop where
  one : 1 ≤ m
  between : (m.ceil : Rat) ≤ y / 12
  thirteen : y + 1 ≤ 13 * m
theorem Fit.pos {m y : Rat} (f : Fit m y) : 0 < m := by
  have := f.one
  grind
theorem Fit.ypos {m y : Rat} (f : Fit m y) : 0 < y / 12 := by
  have h1 := f.one
  have h2 := f.between
  have h3 : m ≤ (m.ceil : Rat) := Rat.le_ceil
  grind
def stF (m o : Rat) (k : Int) : Int := (o + k * m).floor
def mdF (y k : Rat) (j : Int) : Int := (k + j * (y / 12)).floor
def maF (m o : Rat) (d : Int) : Int := ((((d + 1 : Int) : Rat) - o) / m).ceil - 1
def jF (y k : Rat) (d : Int) : Int := (((d : Rat) - k) / (y / 12)).ceil
theorem lt_ceil_iff {q : Rat} {i : Int} : i < q.ceil ↔ (i : Rat) < q := by
  have h : q.ceil ≤ i ↔ q ≤ (i : Rat) := Rat.ceil_le_iff
  constructor
  · intro hi
    have : ¬ q.ceil ≤ i := by omega
    rw [h] at this
    exact Rat.not_le.mp this
  · intro hi
    have : ¬ q ≤ (i : Rat) := Rat.not_le.mpr hi
    rw [← h] at this
    omega
theorem floor_le_iff {q : Rat} {i : Int} : q.floor ≤ i ↔ q < ((i + 1 : Int) : Rat) := by
  have h := Rat.floor_lt_iff (a := q) (x := i + 1)
  rw [← h]
  omega
/-- the months up to K begin by the day d -/
theorem st_le {m o : Rat} (hm : 0 < m) {k d : Int} : stF m o k ≤ d ↔ k ≤ maF m o d := by
  unfold stF maF
  rw [floor_le_iff]
  have e : k ≤ ((((d + 1 : Int) : Rat) - o) / m).ceil - 1 ↔ k < ((((d + 1 : Int) : Rat) - o) / m).ceil := by omega
  rw [e, lt_ceil_iff, Rat.lt_div_iff hm]
  constructor <;> intro h <;> grind
theorem ma_of {m o : Rat} (hm : 0 < m) {k d : Int} (h1 : stF m o k ≤ d) (h2 : d < stF m o (k + 1)) : maF m o d = k := by
  have a := (st_le hm).mp h1
  have b : ¬ k + 1 ≤ maF m o d := fun z => by
    have := (st_le hm).mpr z
    omega
  omega
theorem st_ma {m o : Rat} (hm : 0 < m) (d : Int) : stF m o (maF m o d) ≤ d := (st_le hm).mpr (Int.le_refl _)
theorem ma_st {m o : Rat} (hm : 0 < m) (d : Int) : d < stF m o (maF m o d + 1) := by
  have : ¬ stF m o (maF m o d + 1) ≤ d := fun z => by
    have := (st_le hm).mp z
    omega
  omega
theorem cast_add1 (k : Int) : ((k + 1 : Int) : Rat) = (k : Rat) + 1 := by
  rw [Rat.intCast_add]
  rfl
theorem st_step {m o : Rat} (hm : 1 ≤ m) (k : Int) : stF m o k + 1 ≤ stF m o (k + 1) := by
  unfold stF
  rw [Rat.le_floor_iff, cast_add1, cast_add1]
  have h := Rat.floor_le (o + (k : Rat) * m)
  grind
theorem md_lt {y k : Rat} (hy : 0 < y / 12) {j d : Int} : mdF y k j < d ↔ j < jF y k d := by
  unfold mdF jF
  rw [Rat.floor_lt_iff, lt_ceil_iff, Rat.lt_div_iff hy]
  constructor <;> intro h <;> grind
theorem md_ge {y k : Rat} (hy : 0 < y / 12) (d : Int) : d ≤ mdF y k (jF y k d) := by
  have : ¬ mdF y k (jF y k d) < d := fun z => by
    have := (md_lt hy).mp z
    omega
  omega
/-- of two months in a row one has a mark -/
theorem two_months {m y o k : Rat} (f : Fit m y) (i : Int) : mdF y k (jF y k (stF m o (i - 1))) < stF m o (i + 1) := by
  have hy := f.ypos
  have h1 : mdF y k (jF y k (stF m o (i - 1)) - 1) < stF m o (i - 1) := (md_lt hy).mpr (by omega)
  unfold mdF at h1 ⊢
  rw [Rat.floor_lt_iff] at h1 ⊢
  have e1 : ((jF y k (stF m o (i - 1)) - 1 : Int) : Rat) = (jF y k (stF m o (i - 1)) : Rat) - 1 := by rw [Rat.intCast_sub]; rfl
  rw [e1] at h1
  have h2 : ((stF m o (i - 1) : Int) : Rat) ≤ o + ((i - 1 : Int) : Rat) * m := Rat.floor_le _
  have h3 : o + ((i + 1 : Int) : Rat) * m - 1 < ((stF m o (i + 1) : Int) : Rat) := Rat.lt_floor
  have e2 : ((i - 1 : Int) : Rat) = (i : Rat) - 1 := by rw [Rat.intCast_sub]; rfl
  rw [e2] at h2
  rw [cast_add1] at h3
  have a := f.one
  have b := f.thirteen
  have c : y / 12 ≤ 2 * m - 1 := by grind
  grind
theorem k0_le {m o : Rat} (hm : 0 < m) (d : Int) : (((d : Rat) - o) / m).floor - 1 ≤ maF m o d := by
  have h : ((((d : Rat) - o) / m).floor - 1) < ((((d + 1 : Int) : Rat) - o) / m).ceil := by
    rw [lt_ceil_iff, Rat.intCast_sub]
    have h1 := Rat.floor_le (((d : Rat) - o) / m)
    have h2 : ((d : Rat) - o) / m < (((d + 1 : Int) : Rat) - o) / m := by
      rw [cast_add1, Rat.lt_div_iff hm, Rat.div_mul_cancel (by grind)]
      grind
    have h3 : ((1 : Int) : Rat) = 1 := rfl
    grind
  unfold maF
  omega
theorem j0_le {y k : Rat} (d : Int) : (((d : Rat) - k) / (y / 12)).floor - 1 ≤ jF y k d := by
  have h : (((d : Rat) - k) / (y / 12)).floor ≤ (((d : Rat) - k) / (y / 12)).ceil := Rat.intCast_le_intCast.mp (Rat.le_trans (Rat.floor_le _) Rat.le_ceil)
  unfold jF
  omega
end MM
namespace MM
theorem floor_divInt {t b : Int} (hb : 0 < b) : (Rat.divInt t b).floor = t / b := by
  rw [Rat.floor_def]
  have h := Rat.num_divInt_den (Rat.divInt t b)
  have hd := den_pos (Rat.divInt t b)
  rw [Rat.divInt_eq_divInt_iff (by omega) (by omega)] at h
  have e1 : t / b = (t * ((Rat.divInt t b).den : Int)) / (b * ((Rat.divInt t b).den : Int)) := (Int.mul_ediv_mul_of_pos_left _ _ hd).symm
  rw [e1, ← h, Int.mul_comm b, Int.mul_ediv_mul_of_pos_left _ _ hb]
theorem inv_eq (q : Rat) : q⁻¹ = Rat.divInt q.den q.num := by
  have := Rat.inv_divInt q.num q.den
  rw [Rat.num_divInt_den] at this
  exact this
theorem div12 (x y : Rat) (hy : y ≠ 0) : Rat.divInt (x.num * 12 * y.den) ((x.den : Int) * y.num) = x / (y / 12) := by
  have e : x / (y / 12) = x * 12 * y⁻¹ := by grind
  rw [e, inv_eq]
  have h1 : x * 12 = Rat.divInt (x.num * 12) ((x.den : Int) * 1) := by
    have h := Rat.divInt_mul_divInt x.num 12 (d₁ := x.den) (d₂ := 1)
    rw [Rat.num_divInt_den] at h
    exact h
  rw [h1, Rat.divInt_mul_divInt, Int.mul_one]
theorem Sz.between {n : Nat} {a x b : Int} (ha : Sz n a) (hb : Sz n b) (h1 : a ≤ x) (h2 : x ≤ b) : Sz n x := by
  unfold Sz at *
  omega
theorem Fit.ypos' {m y : Rat} (f : Fit m y) : 0 < y := by
  have := f.ypos
  grind
theorem num_pos {q : Rat} (h : 0 < q) : 0 < q.num := by
  have := (lt_iff' 0 q).mp h
  rw [show (0 : Rat).num = 0 from rfl, show (0 : Rat).den = 1 from rfl] at this
  omega
end MM
namespace MM
theorem unit_divInt {t b : Int} (h0 : 0 ≤ t) (h1 : t ≤ b) (hb : 0 < b) : 0 ≤ Rat.divInt t b ∧ Rat.divInt t b ≤ 1 := by
  have hb' : (0 : Rat) < (b : Rat) := Rat.intCast_lt_intCast.mpr hb
  have h0' : (0 : Rat) ≤ (t : Rat) := Rat.intCast_le_intCast.mpr h0
  have h1' : (t : Rat) ≤ (b : Rat) := Rat.intCast_le_intCast.mpr h1
  rw [Rat.divInt_eq_div]
  have e : (t : Rat) / (b : Rat) * (b : Rat) = t := Rat.div_mul_cancel (by grind)
  refine ⟨?_, ?_⟩
  · apply Rat.not_lt.mp
    intro z
    have := Rat.mul_lt_mul_of_pos_right z hb'
    grind
  · apply Rat.not_lt.mp
    intro z
    have := Rat.mul_lt_mul_of_pos_right z hb'
    grind
theorem cast_sub1 (w : Int) : ((w - 1 : Int) : Rat) = (w : Rat) - 1 := by
  rw [Rat.intCast_sub]
  rfl
theorem cast_12 (w : Int) : ((12 * w : Int) : Rat) = 12 * (w : Rat) := by
  rw [Rat.intCast_mul]
  rfl
/-- the law's drawn month and year make a calendar -/
theorem fit_drawn {w : Int} (hw : 1 ≤ w) {s r : Rat} (s0 : 0 ≤ s) (s1 : s ≤ 1) (r0 : 0 ≤ r) (r1 : r ≤ 1) :
    Fit ((((12 * w + 1 : Int) : Rat) + s * ((w - 1 : Int) : Rat)) * Rat.divInt 1 13) (((12 * w : Int) : Rat) + r * s * ((w - 1 : Int) : Rat)) := by
  have hW : (1 : Rat) ≤ (w : Rat) := Rat.intCast_le_intCast.mpr hw
  rw [cast_add1, cast_12, cast_sub1, Rat.divInt_eq_div]
  have a0 : 0 ≤ s * ((w : Rat) - 1) := Rat.mul_nonneg s0 (by grind)
  have a1 : s * ((w : Rat) - 1) ≤ 1 * ((w : Rat) - 1) := Rat.mul_le_mul_of_nonneg_right s1 (by grind)
  have b0 : 0 ≤ r * (s * ((w : Rat) - 1)) := Rat.mul_nonneg r0 a0
  have b1 : r * (s * ((w : Rat) - 1)) ≤ 1 * (s * ((w : Rat) - 1)) := Rat.mul_le_mul_of_nonneg_right r1 a0
  have e : r * s * ((w : Rat) - 1) = r * (s * ((w : Rat) - 1)) := Rat.mul_assoc _ _ _
  rw [e]
  have c1 : ((1 : Int) : Rat) = 1 := rfl
  have c13 : ((13 : Int) : Rat) = 13 := rfl
  rw [c1, c13]
  generalize s * ((w : Rat) - 1) = z at *
  generalize r * z = u at *
  refine ⟨by grind, ?_, by grind⟩
  have h : ((12 * (w : Rat) + 1 + z) * (1 / 13)).ceil ≤ w := Rat.ceil_le_iff.mpr (by grind)
  have h' : (((12 * (w : Rat) + 1 + z) * (1 / 13)).ceil : Rat) ≤ (w : Rat) := Rat.intCast_le_intCast.mpr h
  grind
end MM
namespace MM
open PySem PySem.Spec PyProof.Rows L2
/-! ### defs and their calls -/
/-- a def of the module under its name, with its defaults -/
structure Df (K : PySem.W.Frag) (mg : Str → Option Value) (x : Str) (st : Stmt) (dvs : List V) : Prop where
  ex : ∃ (f : Addr) (fd : FuncData), FunD K x x (defArgs st) (defBody st) (defScope st) dvs [] f fd ∧ mg x = some (.ref f)
/-- what is known of a def that is called: its promise, how it is bound -/
structure Ca (P : Program) (w : World) (K : PySem.W.Frag) (mg : Str → Option Value) (base : Heap) (CX : CXT) (k : Nat) (x : Str) (st : Stmt) (dvs : List V) (ps : List Str) (sp : Sp) : Prop where
  ex : ∃ (f : Addr) (fd : FuncData), FunD K x x (defArgs st) (defBody st) (defScope st) dvs [] f fd ∧ mg x = some (.ref f) ∧ FnOk P w K mg base CX k f fd ps sp
/-- the parameters of a def, all given by place -/
def Bd (x qual : Str) (st : Stmt) (ps : List Str) : Prop := ∀ (kV doc pm : Value) (an : Option Addr) (cdv ct : Value) (us : List Value), us.length = ps.length →
  bindArgs (PySem.W.fnOf x qual (defArgs st) (defBody st) (defScope st) .none kV doc pm an cdv ct) ⟨us, []⟩ = pure (ps.zip us)
section
variable {P : Program} {w : World} {K : PySem.W.Frag} {mg : Str → Option Value} {base : Heap} {x : Str} {st : Stmt} {dvs : List V} {N ps : List Str} {k : Nat} {sp : Sp}
theorem ca0 (D : Df K mg x st dvs) (S : FnScope N ps (defScope st)) (len : ∀ vs H Q E, sp vs H Q E → vs.length = ps.length)
    (body : ∀ (f : Addr) (cdv : Value) (A : Around) (outer : List Env) (s : Shared) (H : Hp) (vs : List V) (Q : VK) (E : XK), Room k (A.deeper (envOfC x (defScope st) s.heap.objs.size f cdv)) → sp vs H Q E →
      ∃ t, PSs (cxOf CX0 P w K mg base N x (defScope st) f cdv A outer s H E).nox (defBody st) t ∧ t { nx := fun _ H' => Q .non H', rt := Q } (start N vs) H) : Ca P w K mg base CX0 (k + 1) x st dvs ps sp := by
  obtain ⟨f, fd, F, hm⟩ := D.ex
  refine ⟨f, fd, F, hm, F.ok S len fun cdv A outer s H vs Q E hr h => ?_⟩
  obtain ⟨t, h1, h2⟩ := body f cdv A outer s H vs Q E hr h
  exact ⟨t, h1.nox, h2⟩
theorem caX (D : Df K mg x st dvs) (S : FnScope N ps (defScope st)) (len : ∀ vs H Q E, sp vs H Q E → vs.length = ps.length)
    (body : ∀ (f : Addr) (cdv : Value) (A : Around) (outer : List Env) (s : Shared) (H : Hp) (vs : List V) (Q : VK) (E : XK), Room k (A.deeper (envOfC x (defScope st) s.heap.objs.size f cdv)) → sp vs H Q E →
      ∃ t, PSs (cxOf (L2.CX P w) P w K mg base N x (defScope st) f cdv A outer s H E) (defBody st) t ∧ t { nx := fun _ H' => Q .non H', rt := Q } (start N vs) H) : Ca P w K mg base (L2.CX P w) (k + 1) x st dvs ps sp := by
  obtain ⟨f, fd, F, hm⟩ := D.ex
  exact ⟨f, fd, F, hm, F.ok S len fun cdv A outer s H vs Q E hr h => body f cdv A outer s H vs Q E hr h⟩
theorem FunD.none {qual : Str} {params : Arguments} {bodyS : List Stmt} {scope : Scope} {f : Addr} {fd : FuncData} (F : FunD K x qual params bodyS scope [] [] f fd) :
    ∃ (kV doc pm : Value) (an : Option Addr) (cdv ct : Value), fd = PySem.W.fnOf x qual params bodyS scope .none kV doc pm an cdv ct := by
  obtain ⟨oc, od, dV, kV, doc, pm, an, cdv, ct, osl, rfl, lk, hcd, hD, hK⟩ := F.ex
  rcases hD with ⟨_, rfl⟩ | ⟨e, _⟩
  · exact ⟨kV, doc, pm, an, cdv, ct, rfl⟩
  · exact absurd rfl e
end
section
variable {X : Cx} {CX : CXT} {k j n : Nat} {C : Addr} {x m : Str} {st : Stmt} {sp : Sp} {ps ks : List Str} {dvs : List V} {E : XK} {p pos apos : Pos} {e o : Expr} {es : List Expr} {kws : List Keyword} {ta : TE} {t tk : TA}
/-- f(e, ..), all parameters by place -/
theorem pe_ca (c : Ca X.prog X.w X.K X.mg X.base CX k x st [] ps sp) (b : Bd x x st ps) (hr : Room j X.A) (hk : k ≤ j) (hx : Passes CX X E) (hg : Gl X x) (ha : PA X (e :: es) t)
    (hdb : (x == ("__debug__" : Str)) = false := by decide) (he : starEach (e :: es) X.env = (false, eval e X.env) :: starEach es X.env := by rfl) (hpl : (backTo pos (starEach es X.env)).any (·.1) = false := by rfl) :
    PE X (.Call (.Name x p) (e :: es) [] pos) (tCall sp [] E t) := by
  obtain ⟨f, fd, F, hm, G⟩ := c.ex
  exact pe_call G (hr.mono hk) hg hm F.kp (F.bindsN b) .nil hx ha hdb he hpl
/-- how keywords bind where there is no default: g puts the places' values and the keywords' in order -/
structure Kb (x : Str) (st : Stmt) (n : Nat) (ks ps : List Str) (g : {α : Type} → List α → List α → List α) : Prop where
  bind : ∀ (kV doc pm : Value) (an : Option Addr) (cdv ct : Value) (us ws : List Value), us.length = n → ws.length = ks.length →
    bindArgs (PySem.W.fnOf x x (defArgs st) (defBody st) (defScope st) .none kV doc pm an cdv ct) ⟨us, ks.zip ws⟩ = pure (ps.zip (g us ws))
  rel : ∀ {vs zs : List V} {us ws : List Value}, vs.length = n → zs.length = ks.length → Vals vs us → Vals zs ws → Vals (g vs zs) (g us ws)
/-- f(k = v, ..) of a def without defaults -/
theorem pe_caK {g : {α : Type} → List α → List α → List α} (c : Ca X.prog X.w X.K X.mg X.base CX k x st [] ps sp) (b : Kb x st 0 ks ps g) (hr : Room j X.A) (hk : k ≤ j) (hx : Passes CX X E) (hg : Gl X x) (hkw : PK X kws tk)
    (hall : (backToKw pos (keywordEach kws X.env)).all (·.1.isSome) = true := by rfl) (hks : (backToKw pos (keywordEach kws X.env)).filterMap (·.1) = ks := by rfl) (hdb : (x == ("__debug__" : Str)) = false := by decide)
    (hpl : ((backTo pos (starEach [] X.env)).any (·.1) || (backToKw pos (keywordEach kws X.env)).any (·.1.isNone)) = false := by rfl) :
    PE X (.Call (.Name x p) [] kws pos) (fun σ H Q => tk σ H fun zs H2 => zs.length = ks.length ∧ sp (g [] zs) H2 Q E) := by
  obtain ⟨f, fd, F, hm, G⟩ := c.ex
  obtain ⟨kV, doc, pm, an, cdv, ct, rfl⟩ := FunD.none F
  refine ⟨fun pins s σ H Q I h => ?_⟩
  refine wpAny_Call_Name_kw (ld_glob I hg hm ?_ hdb)
  refine PySem.W.callWith_KW0 (h₀ := X.base) I.ok.mod.kin F.kp hall ?_ hpl
  refine thn (hkw.run pos pins s σ H _ I h) fun ws s2 ⟨zs, H2, I2, rz, l2, q2⟩ => ⟨I2.kIn, ?_⟩
  rw [hks]
  have r2 : Vals (g [] zs) (g [] ws) := b.rel rfl l2 .nil rz
  refine wpAny_call (codeAny_mono (G.run X.A X.stack s2 H2 ⟨[], ks.zip ws⟩ (g [] ws) (g [] zs) Q E (hr.mono hk) I2.env0 (.of_eq (b.bind kV doc pm an cdv ct [] ws rfl (rz.length.symm.trans l2))) r2 q2) fun r s' hq => ?_)
  match r, hq with
  | .error e, hq => exact hx pins σ H2 s2 e s' I2 hq
  | .ok (.ret u), hq => exact I2.after hq
  | .ok .next, hq => exact False.elim hq
  | .ok .brk, hq => exact False.elim hq
  | .ok .cont, hq => exact False.elim hq
end
/-! ### whole numbers -/
section
variable {X : Cx}
/-- // by any divisor but 0 -/
def CDivA (_ j : Int) : Prop := j ≠ 0 ∧ Sz 8900 j
theorem op_fdivA : OpR X (binaryOp .FloorDiv) (rI CDivA fun i j => .int (i.fdiv j)) := opI fun i j _ _ _ _ _ hc q =>
  PyProof.Rows.floordiv_int hc.1 q (.inl (PyProof.noPylong_of_log2 (Nat.lt_of_lt_of_le (PySem.Flt.log2_lt_of (by decide) hc.2) (by decide))))
/-- * of two numbers of some thousand bits -/
def CMulA (i j : Int) : Prop := Sz 100000 i ∧ Sz 100000 j
theorem op_mulA : OpR X (binaryOp .Mult) (rI CMulA fun i j => .int (i * j)) := opI fun i j _ _ _ _ _ hc q =>
  PyProof.Rows.mul_int q (CMulW.ok (wide_mul hc.1 hc.2 (by decide) (by decide) (by decide)))
end
/-! ### a pick out of a written list -/
theorem pick {α : Type} {xs : List α} {z : Int} {P : α → Prop} (h0 : 0 ≤ z) (h1 : z < xs.length) (h : ∀ x ∈ xs, P x) : ∃ v, atI xs z = some v ∧ P v := by
  have hl : z.toNat < xs.length := by omega
  refine ⟨xs[z.toNat], ?_, h _ (List.getElem_mem hl)⟩
  unfold atI ixN
  rw [if_pos h0, if_pos h1]
  exact List.getElem?_eq_getElem hl
end MM
namespace MM
open PySem PySem.Spec PyProof.Rows L2
/-- what binds where some parameters have defaults: n given by place, the defaults from the j-th on fill up -/
def Bd1 (x qual : Str) (st : Stmt) (ps : List Str) (n j m : Nat) : Prop := ∀ (T : Addr) (kV doc pm : Value) (an : Option Addr) (cdv ct : Value) (us its : List Value), us.length = n → its.length = m →
  ∃ k, bindArgs (PySem.W.fnOf x qual (defArgs st) (defBody st) (defScope st) (.ref T) kV doc pm an cdv ct) ⟨us, []⟩ = seqItems? (.ref T) >>= k ∧ k (some its.toArray) = pure (ps.zip (us ++ its.drop j))
/-- the __init__ of a class -/
structure Di (K : PySem.W.Frag) (mg : Str → Option Value) (x : Str) (C : Addr) (qual : Str) (st : Stmt) (dvs : List V) : Prop where
  ex : ∃ (f : Addr) (fd : FuncData), FunD K "__init__" qual (defArgs st) (defBody st) (defScope st) dvs [] f fd ∧ Mk K C f ∧ mg x = some (.ref C)
structure Ci (P : Program) (w : World) (K : PySem.W.Frag) (mg : Str → Option Value) (base : Heap) (CX : CXT) (k : Nat) (x : Str) (C : Addr) (qual : Str) (st : Stmt) (dvs : List V) (ps : List Str) (sp : Sp) : Prop where
  ex : ∃ (f : Addr) (fd : FuncData), FunD K "__init__" qual (defArgs st) (defBody st) (defScope st) dvs [] f fd ∧ Mk K C f ∧ mg x = some (.ref C) ∧ FnOk P w K mg base CX k f fd ps sp
/-- a method of a class -/
structure Dm (K : PySem.W.Frag) (C : Addr) (m qual : Str) (st : Stmt) : Prop where
  ex : ∃ (f : Addr) (fd : FuncData), FunD K m qual (defArgs st) (defBody st) (defScope st) [] [] f fd ∧ Meth K C m f ∧ Cls K C
structure Cm (P : Program) (w : World) (K : PySem.W.Frag) (mg : Str → Option Value) (base : Heap) (CX : CXT) (k : Nat) (C : Addr) (m qual : Str) (st : Stmt) (ps : List Str) (sp : Sp) : Prop where
  ex : ∃ (f : Addr) (fd : FuncData), FunD K m qual (defArgs st) (defBody st) (defScope st) [] [] f fd ∧ Meth K C m f ∧ Cls K C ∧ FnOk P w K mg base CX k f fd ps sp
section
variable {P : Program} {w : World} {K : PySem.W.Frag} {mg : Str → Option Value} {base : Heap} {x m qual : Str} {C : Addr} {st : Stmt} {dvs : List V} {N ps : List Str} {k : Nat} {sp : Sp}
theorem ci0 (D : Di K mg x C qual st dvs) (S : FnScope N ps (defScope st)) (len : ∀ vs H Q E, sp vs H Q E → vs.length = ps.length)
    (body : ∀ (f : Addr) (cdv : Value) (A : Around) (outer : List Env) (s : Shared) (H : Hp) (vs : List V) (Q : VK) (E : XK), Room k (A.deeper (envOfC qual (defScope st) s.heap.objs.size f cdv)) → sp vs H Q E →
      ∃ t, PSs (cxOf CX0 P w K mg base N qual (defScope st) f cdv A outer s H E).nox (defBody st) t ∧ t { nx := fun _ H' => Q .non H', rt := Q } (start N vs) H) : Ci P w K mg base CX0 (k + 1) x C qual st dvs ps sp := by
  obtain ⟨f, fd, F, M, hm⟩ := D.ex
  refine ⟨f, fd, F, M, hm, F.ok S len fun cdv A outer s H vs Q E hr h => ?_⟩
  obtain ⟨t, h1, h2⟩ := body f cdv A outer s H vs Q E hr h
  exact ⟨t, h1.nox, h2⟩
theorem ciX (D : Di K mg x C qual st dvs) (S : FnScope N ps (defScope st)) (len : ∀ vs H Q E, sp vs H Q E → vs.length = ps.length)
    (body : ∀ (f : Addr) (cdv : Value) (A : Around) (outer : List Env) (s : Shared) (H : Hp) (vs : List V) (Q : VK) (E : XK), Room k (A.deeper (envOfC qual (defScope st) s.heap.objs.size f cdv)) → sp vs H Q E →
      ∃ t, PSs (cxOf (L2.CX P w) P w K mg base N qual (defScope st) f cdv A outer s H E) (defBody st) t ∧ t { nx := fun _ H' => Q .non H', rt := Q } (start N vs) H) : Ci P w K mg base (L2.CX P w) (k + 1) x C qual st dvs ps sp := by
  obtain ⟨f, fd, F, M, hm⟩ := D.ex
  exact ⟨f, fd, F, M, hm, F.ok S len fun cdv A outer s H vs Q E hr h => body f cdv A outer s H vs Q E hr h⟩
theorem cm0 (D : Dm K C m qual st) (S : FnScope N ps (defScope st)) (len : ∀ vs H Q E, sp vs H Q E → vs.length = ps.length)
    (body : ∀ (f : Addr) (cdv : Value) (A : Around) (outer : List Env) (s : Shared) (H : Hp) (vs : List V) (Q : VK) (E : XK), Room k (A.deeper (envOfC qual (defScope st) s.heap.objs.size f cdv)) → sp vs H Q E →
      ∃ t, PSs (cxOf CX0 P w K mg base N qual (defScope st) f cdv A outer s H E).nox (defBody st) t ∧ t { nx := fun _ H' => Q .non H', rt := Q } (start N vs) H) : Cm P w K mg base CX0 (k + 1) C m qual st ps sp := by
  obtain ⟨f, fd, F, M, hc⟩ := D.ex
  refine ⟨f, fd, F, M, hc, F.ok S len fun cdv A outer s H vs Q E hr h => ?_⟩
  obtain ⟨t, h1, h2⟩ := body f cdv A outer s H vs Q E hr h
  exact ⟨t, h1.nox, h2⟩
end
section
variable {X : Cx} {CX : CXT} {k j n d : Nat} {C : Addr} {x m qual : Str} {st : Stmt} {sp : Sp} {ps ks : List Str} {dvs : List V} {E : XK} {p pos apos : Pos} {e o : Expr} {es : List Expr} {kws : List Keyword} {ta : TE} {t tk : TA}
/-- C(e, ..): n values, then the defaults from the d-th on; n counts self too -/
theorem pe_ci (c : Ci X.prog X.w X.K X.mg X.base CX k x C qual st dvs ps sp) (b : Bd1 "__init__" qual st ps n d dvs.length) (hd : dvs ≠ []) (hn : n + (dvs.length - d) = ps.length) (hr : Room j X.A) (hk : k + 1 ≤ j) (hx : Passes CX X E) (hg : Gl X x) (ha : PA X (e :: es) t)
    (hdb : (x == ("__debug__" : Str)) = false := by decide) (he : starEach (e :: es) X.env = (false, eval e X.env) :: starEach es X.env := by rfl) (hpl : (backTo pos (starEach es X.env)).any (·.1) = false := by rfl) :
    PE X (.Call (.Name x p) (e :: es) [] pos) (tMake C sp (dvs.drop d) E t) := by
  obtain ⟨f, fd, F, M, hm, G⟩ := c.ex
  obtain ⟨ds, r, bb⟩ := F.binds1 n d hd hn b
  exact pe_make M G (hr.mono hk) hg hm bb r hx ha hdb he hpl
/-- o.m(e, ..) -/
theorem pe_cm {pl : Sem Bool} (c : Cm X.prog X.w X.K X.mg X.base CX k C m qual st ps sp) (b : Bd m qual st ps) (hr : Room j X.A) (hk : k ≤ j) (hx : Passes CX X E) (he : PE X o ta) (ha : PA X (e :: es) t)
    (hst : starEach (e :: es) X.env = (false, eval e X.env) :: starEach es X.env := by rfl) (hpl : (backTo pos (starEach es X.env)).any (·.1) = false := by rfl)
    (ht : eval (.Call (.Attribute o m apos) (e :: es) [] pos) X.env = (eval o X.env >>= fun ov => standAt apos.atName >>= fun _ => holding [ov] (getMethod ov m pl) >>= fun q => callWith pos q.1 q.2 (backTo pos (starEach (e :: es) X.env)) (backToKw pos (keywordEach [] X.env))) := by rfl) :
    PE X (.Call (.Attribute o m apos) (e :: es) [] pos) (tMeth C m sp [] E ta t) := by
  obtain ⟨f, fd, F, M, hc, G⟩ := c.ex
  exact pe_meth (pl := pl) he hc M G (hr.mono hk) (F.bindsN b) .nil hx ha hst hpl ht
/-- how keywords bind in a method, or a def, without defaults -/
structure Kbm (x qual : Str) (st : Stmt) (n : Nat) (ks ps : List Str) (g : {α : Type} → List α → List α → List α) : Prop where
  bind : ∀ (kV doc pm : Value) (an : Option Addr) (cdv ct : Value) (us ws : List Value), us.length = n → ws.length = ks.length →
    bindArgs (PySem.W.fnOf x qual (defArgs st) (defBody st) (defScope st) .none kV doc pm an cdv ct) ⟨us, ks.zip ws⟩ = pure (ps.zip (g us ws))
  rel : ∀ {vs zs : List V} {us ws : List Value}, vs.length = n → zs.length = ks.length → Vals vs us → Vals zs ws → Vals (g vs zs) (g us ws)
/-- o.m(k = v, ..) -/
theorem pe_cmK {pl : Sem Bool} {g : {α : Type} → List α → List α → List α} (c : Cm X.prog X.w X.K X.mg X.base CX k C m qual st ps sp) (b : Kbm m qual st 1 ks ps g) (hr : Room j X.A) (hk : k ≤ j) (hx : Passes CX X E) (he : PE X o ta) (hkw : PK X kws tk)
    (hall : (backToKw pos (keywordEach kws X.env)).all (·.1.isSome) = true := by rfl) (hks : (backToKw pos (keywordEach kws X.env)).filterMap (·.1) = ks := by rfl)
    (hpl : ((backTo pos (starEach [] X.env)).any (·.1) || (backToKw pos (keywordEach kws X.env)).any (·.1.isNone)) = false := by rfl)
    (ht : eval (.Call (.Attribute o m apos) [] kws pos) X.env = (eval o X.env >>= fun ov => standAt apos.atName >>= fun _ => holding [ov] (getMethod ov m pl) >>= fun q => callWith pos q.1 q.2 (backTo pos (starEach [] X.env)) (backToKw pos (keywordEach kws X.env))) := by rfl) :
    PE X (.Call (.Attribute o m apos) [] kws pos) (fun σ H Q => ta σ H fun x H1 => ∃ a dx fs, x = .ref a ∧ H1 a = some (.ins C dx fs) ∧ fs.lookup m = none ∧ tk σ H1 fun zs H2 => zs.length = ks.length ∧ sp (g [.ref a] zs) H2 Q E) := by
  obtain ⟨f, fd, F, M, hc, G⟩ := c.ex
  obtain ⟨kV, doc, pm, an, cdv, ct, rfl⟩ := FunD.none F
  refine ⟨fun pins s σ H Q I h => ?_⟩
  refine PySem.W.methodCall_KW (pl := pl) (thn (he.run pins s σ H _ I h) fun u s1 ⟨y, H1, I1, ry, a, dx, fs, ey, ea, l, q⟩ => ?_) ht
  subst ey
  obtain rfl : u = Value.ref a := ry
  refine getmeth_ok I1 ea hc M l ?_
  refine PySem.W.callWith_KW0 (first := [.ref a]) (h₀ := X.base) I.ok.mod.kin M.kp hall ?_ hpl
  refine thn (hkw.run pos pins s1 σ H1 _ I1 q) fun ws s2 ⟨zs, H2, I2, rz, l2, q2⟩ => ⟨I2.kIn, ?_⟩
  rw [hks]
  have r2 : Vals (g [V.ref a] zs) (g [Value.ref a] ws) := b.rel rfl l2 (.cons rfl .nil) rz
  refine wpAny_call (codeAny_mono (G.run X.A X.stack s2 H2 ⟨[.ref a], ks.zip ws⟩ (g [.ref a] ws) (g [.ref a] zs) Q E (hr.mono hk) I2.env0 (.of_eq (b.bind kV doc pm an cdv ct [.ref a] ws rfl (rz.length.symm.trans l2))) r2 q2) fun r s' hq => ?_)
  match r, hq with
  | .error e, hq => exact hx pins σ H2 s2 e s' I2 hq
  | .ok (.ret u), hq => exact I2.after hq
  | .ok .next, hq => exact False.elim hq
  | .ok .brk, hq => exact False.elim hq
  | .ok .cont, hq => exact False.elim hq
end
/-- the keywords take their places: one self, the keywords in the parameters' order -/
def g1 {α : Type} : List α → List α → List α := fun us ws => us ++ ws
theorem g1_rel {n m : Nat} {vs zs : List V} {us ws : List Value} (_ : vs.length = n) (_ : zs.length = m) (h : Vals vs us) (k : Vals zs ws) : Vals (g1 vs zs) (g1 us ws) := h.append k
/-- how C(.., k = v, ..) binds where __init__ has defaults -/
structure Kd (qual : Str) (st : Stmt) (dn n : Nat) (ks ps : List Str) (g : {α : Type} → List α → List α → List α → List α) : Prop where
  bind : ∀ (T : Addr) (kV doc pm : Value) (an : Option Addr) (cdv ct : Value) (us its ws : List Value), us.length = n → its.length = dn → ws.length = ks.length →
    ∃ k, bindArgs (PySem.W.fnOf "__init__" qual (defArgs st) (defBody st) (defScope st) (.ref T) kV doc pm an cdv ct) ⟨us, ks.zip ws⟩ = seqItems? (.ref T) >>= k ∧ k (some its.toArray) = pure (ps.zip (g us its ws))
  rel : ∀ {vs ds zs : List V} {us its ws : List Value}, Vals vs us → Vals ds its → Vals zs ws → Vals (g vs ds zs) (g us its ws)
section
variable {X : Cx} {CX : CXT} {k j n d : Nat} {C : Addr} {x m qual : Str} {st : Stmt} {sp : Sp} {ps ks : List Str} {dvs : List V} {E : XK} {p pos apos : Pos} {e o : Expr} {es : List Expr} {kws : List Keyword} {ta : TE} {t tk : TA}
theorem pe_ciK0 {g : {α : Type} → List α → List α → List α → List α} (c : Ci X.prog X.w X.K X.mg X.base CX k x C qual st dvs ps sp) (b : Kd qual st dvs.length 1 ks ps g) (hd : dvs ≠ []) (hr : Room j X.A) (hk : k + 1 ≤ j) (hx : Passes CX X E) (hg : Gl X x) (hkw : PK X kws tk)
    (hall : (backToKw pos (keywordEach kws X.env)).all (·.1.isSome) = true := by rfl) (hks : (backToKw pos (keywordEach kws X.env)).filterMap (·.1) = ks := by rfl) (hdb : (x == ("__debug__" : Str)) = false := by decide)
    (hpl : ((backTo pos (starEach [] X.env)).any (·.1) || (backToKw pos (keywordEach kws X.env)).any (·.1.isNone)) = false := by rfl) :
    PE X (.Call (.Name x p) [] kws pos) (tMakeK C 0 ks.length sp (fun vs zs => g vs dvs zs) E tNil tk) := by
  obtain ⟨f, fd, F, M, hm, G⟩ := c.ex
  obtain ⟨its, hb⟩ := F.kbindsD 1 ks g hd b.rel b.bind
  exact pe_makeK0 M G (hr.mono hk) hg hm hb hx hkw hall hks hdb hpl
theorem pe_ciK {g : {α : Type} → List α → List α → List α → List α} (c : Ci X.prog X.w X.K X.mg X.base CX k x C qual st dvs ps sp) (b : Kd qual st dvs.length (n + 1) ks ps g) (hd : dvs ≠ []) (hr : Room j X.A) (hk : k + 1 ≤ j) (hx : Passes CX X E) (hg : Gl X x) (ha : PA X (e :: es) t) (hkw : PK X kws tk)
    (hall : (backToKw pos (keywordEach kws X.env)).all (·.1.isSome) = true := by rfl) (hks : (backToKw pos (keywordEach kws X.env)).filterMap (·.1) = ks := by rfl) (hdb : (x == ("__debug__" : Str)) = false := by decide)
    (he : starEach (e :: es) X.env = (false, eval e X.env) :: starEach es X.env := by rfl) (hpl : ((backTo pos (starEach (e :: es) X.env)).any (·.1) || (backToKw pos (keywordEach kws X.env)).any (·.1.isNone)) = false := by rfl) :
    PE X (.Call (.Name x p) (e :: es) kws pos) (tMakeK C n ks.length sp (fun vs zs => g vs dvs zs) E t tk) := by
  obtain ⟨f, fd, F, M, hm, G⟩ := c.ex
  obtain ⟨its, hb⟩ := F.kbindsD (n + 1) ks g hd b.rel b.bind
  exact pe_makeK M G (hr.mono hk) hg hm hb hx ha hkw hall hks hdb he hpl
end
end MM
namespace MM
open PySem PySem.Spec PyProof.Rows L2
/-! ### range(a, b) of numbers of any size -/
theorem turn_long {P : Program} {w : World} {K : PySem.W.Frag} {tg : Expr} (it : Addr) (lo : Int) (n : Nat) : Turn P w K tg (Itr lo n) [it] it (fun i h => IsLongIter h it (lo + (i : Nat) * 1) ((n : Int) - (i : Nat)) 1) := by
  refine { mem := List.mem_singleton.mpr rfl, obj := fun i h st b hb => ?_, keep := fun i h h' st k => k it (List.mem_singleton.mpr rfl) _ st, item := ?_, done := ?_, self := fun _ _ _ _ _ st h => wpAny_pyIter_longiter st h }
  · cases List.mem_singleton.mp hb
    exact ⟨_, st, fun v z => nomatch (show Data.fields _ = Data.cell v from z)⟩
  · intro X hP hw hK hc i pins s σ H E I hf st hg
    subst hP; subst hw; subst hK
    obtain ⟨f0, f1, f2, f3, f4, f5⟩ := hf it (List.mem_singleton.mpr rfl)
    refine (Walks.longrange (prog := X.prog) (w := X.w) (I.ok.hd hc) it lo 1 n).item i s _ _ hg st fun v h' tk hv st' kk => ?_
    obtain ⟨t, rfl⟩ := hv
    have J : Inv X pins σ H { s with heap := h', toks := tk } := I.turned (fun b o hb e => kk b o (fun z => hb (List.mem_singleton.mp z)) e) f0 f1 f3 f4 f5
    refine ⟨_, rfl, go_of (s := { s with heap := h', toks := tk }) (n := "longrange_iterator") st' rfl rfl (by decide) ⟨.int (lo + i), H, J, ⟨t, ?_⟩, ⟨rfl, rfl⟩, st', fun b hb => (hf b hb).1⟩⟩
    rw [Int.mul_one]
  · intro X hP hw hK hc i pins s σ H E I hf st hg
    subst hP; subst hw; subst hK
    obtain ⟨f0, f1, f2, f3, f4, f5⟩ := hf it (List.mem_singleton.mpr rfl)
    have hl : n ≤ i := hg
    exact wpAny_pyNext_long_end (I.ok.hd hc) st (by omega) fun h' eb => ⟨rfl, I.turned (t' := s.toks) (fun b o hb e => eb b o hb e) f0 f1 f3 f4 f5⟩
section
variable {X : Cx} {tg : Expr}
theorem long_it {pins : List (Addr × Obj)} {σ : L2.St} {H : Hp} {s : Shared} {R : It → Hp → Prop} {E : Value → Shared → Prop} {lo hi : Int} {t u v : Tok} {tk : Nat} (I : Inv X pins σ H s) (q : R (Itr lo (hi - lo).toNat) H) :
    wpAny (model X.prog X.w) X.A (pyIter (.ref s.heap.objs.size)) (PIE X pins σ tg R) E { s with heap := s.heap.push { cls := .type "range", data := .fields #[.int lo t, .int hi u, .int 1 v] }, toks := tk } := by
  have J : Inv X pins σ H { s with heap := s.heap.push { cls := .type "range", data := .fields #[.int lo t, .int hi u, .int 1 v] }, toks := tk } := I.kept fun b o e => Heap.get?_push_of_some _ e
  have e0 : lo + ((0 : Nat) : Int) * 1 = lo := by simp
  have e1 : (((hi - lo).toNat : Nat) : Int) - ((0 : Nat) : Int) = Builtin.Range.rangeSize lo hi 1 := by
    rw [rangeSize_one]
    split <;> omega
  cases hsm : Builtin.Range.small lo hi 1 with
  | true =>
    refine wpAny_pyIter_range (IsRange.new ..) hsm ⟨_, [_], _, _, H, rfl, J.kept (t' := tk) fun b o e => Heap.get?_push_of_some _ e, turn_range _ lo (hi - lo).toNat, ?_, fun b hb => ?_, q⟩
    · show IsRangeIter _ _ (lo + ((0 : Nat) : Int) * 1) ((((hi - lo).toNat : Nat) : Int) - ((0 : Nat) : Int)) 1
      rw [e0, e1]
      exact Heap.get?_push_size _ rfl
    · cases List.mem_singleton.mp hb
      exact J.fpOk (Nat.le_refl _) (J.hok.fresh (Nat.le_refl _))
  | false =>
    refine wpAny_pyIter_longrange (IsRange.new ..) hsm ⟨_, [_], _, _, H, rfl, J.kept (t' := tk) fun b o e => Heap.get?_push_of_some _ e, turn_long _ lo (hi - lo).toNat, ?_, fun b hb => ?_, q⟩
    · show IsLongIter _ _ (lo + ((0 : Nat) : Int) * 1) ((((hi - lo).toNat : Nat) : Int) - ((0 : Nat) : Int)) 1
      rw [e0, e1]
      exact Heap.get?_push_size _ rfl
    · cases List.mem_singleton.mp hb
      exact J.fpOk (Nat.le_refl _) (J.hok.fresh (Nat.le_refl _))
def iRngA (ta : TA) : TI := fun σ H R => ta σ H fun vs H1 => ∃ i j : Int, vs = [.int i, .int j] ∧ R (Itr i (j - i).toNat) H1
theorem pi_rangeA {a b : Expr} {ta : TA} {p pos : Pos} (hg : Gl X "range") (hm : X.mg "range" = none) (ha : PA X [a, b] ta) (hs : starEach [a, b] X.env = [(false, eval a X.env), (false, eval b X.env)] := by rfl) (hs2 : starEach [b] X.env = [(false, eval b X.env)] := by rfl) :
    PI X tg (.Call (.Name "range" p) [a, b] [] pos) (iRngA ta) := by
  refine ⟨fun pins s σ H R I h => Call_ (ld_blt I hg hm boot_range (PyProof.Rows.callWith_type1 (thn (ha.run pos pins s σ H _ I h) fun us s1 ⟨vs, H1, I1, r1, q1⟩ => ?_) (by rw [hs, hs2]) (by rw [hs2]; rfl)))⟩
  obtain ⟨i, j, e, q⟩ := q1
  subst e
  obtain ⟨u1, u2, rfl, ⟨t, rfl⟩, ⟨t', rfl⟩⟩ := vals2 r1
  exact call_range_2 (long_it I1 q)
end
end MM
namespace MM
open PySem PySem.Spec PyProof.Rows L2
section
variable {K : PySem.W.Frag} {h : Heap} {mg : Str → Option Value} {x m qual : Str} {st : Stmt} {f C T : Addr} {oc kV doc pm cdv ct cT : Value} {od an dT : Option Addr} {osl sT : Array (Option Value)} {nT : Nat}
theorem df_mk (X : K.In h) (G : h.Ns mainGlobals mg) (a : PySem.W.nsIn K mainGlobals x = some (some (.ref f))) (l : K.lookup f = some ⟨oc, od, .func (PySem.W.fnOf x x (defArgs st) (defBody st) (defScope st) .none kV doc pm an cdv ct), osl⟩)
    (c : PySem.W.codeIn K cdv x = true) (k : PySem.W.keepIn K (.ref f) = true) : Df K mg x st [] :=
  ⟨f, _, ⟨⟨oc, od, .none, kV, doc, pm, an, cdv, ct, osl, rfl, l, c, .inl ⟨rfl, rfl⟩, .inl rfl⟩, k⟩, PySem.W.mg_of X G a⟩
theorem dm_mk (cl : Cls K C) (a : PySem.W.findIn K (.ref C) m = some (some (.ref f))) (i : PySem.W.isFn K (.ref f) = true) (l : K.lookup f = some ⟨oc, od, .func (PySem.W.fnOf m qual (defArgs st) (defBody st) (defScope st) .none kV doc pm an cdv ct), osl⟩)
    (c : PySem.W.codeIn K cdv qual = true) (k : PySem.W.keepIn K (.ref f) = true) : Dm K C m qual st :=
  ⟨f, _, ⟨⟨oc, od, .none, kV, doc, pm, an, cdv, ct, osl, rfl, l, c, .inl ⟨rfl, rfl⟩, .inl rfl⟩, k⟩, ⟨a, i, k⟩, cl⟩
theorem di_mk {its : List Value} {dvs : List V} (hC : mg x = some (.ref C)) (a : PySem.W.findIn K (.ref C) "__init__" = some (some (.ref f))) (i : PySem.W.isFn K (.ref f) = true)
    (l : K.lookup f = some ⟨oc, od, .func (PySem.W.fnOf "__init__" qual (defArgs st) (defBody st) (defScope st) (.ref T) kV doc pm an cdv ct), osl⟩) (c : PySem.W.codeIn K cdv qual = true) (k : PySem.W.keepIn K (.ref f) = true)
    (mk : PySem.W.makesIn K C = true) (kc : PySem.W.keepIn K (.ref C) = true) {oT : Obj} (lT : K.lookup T = some oT) (eT : oT.data = .seq its.toArray nT) (r : Vals dvs its) (ne : dvs ≠ []) : Di K mg x C qual st dvs :=
  ⟨f, _, ⟨⟨oc, od, .ref T, kV, doc, pm, an, cdv, ct, osl, rfl, l, c, .inr ⟨ne, T, _, its, nT, rfl, lT, eT, r⟩, .inl rfl⟩, k⟩, ⟨mk, a, i, kc⟩, hC⟩
theorem kit_no {t : Value} (iC : PySem.W.isClsIn K C = true) (tC : PySem.W.typeIn K (.ref C) = some (.type "type")) (ht : (t == Value.ref C) = false) (sI : PySem.W.subIn K t (.ref C) = some false) : PySem.W.kitOne K t (.ref C) = some false := by
  unfold PySem.W.kitOne PySem.W.kitCls
  have iC' : (PySem.W.clsIn K C).isSome = true := iC
  rw [ht, if_neg Bool.false_ne_true]
  show (if ((PySem.W.clsIn K C).isSome && PySem.W.typeIn K (.ref C) == some (.type "type")) = true then PySem.W.subIn K t (.ref C) else none) = some false
  rw [iC', tC, if_pos (by simp)]
  exact sI
theorem fund_inj {params : Arguments} {body : List Stmt} {scope : Scope} {dvs : List V} {kws : List (Str × V)} {fd fd' : FuncData} (F : FunD K x qual params body scope dvs kws f fd) (F' : FunD K x qual params body scope dvs kws f fd') : fd = fd' := by
  obtain ⟨oc, od, dV, kV, doc, pm, an, cdv, ct, osl, e, lk, _⟩ := F.ex
  obtain ⟨oc', od', dV', kV', doc', pm', an', cdv', ct', osl', e', lk', _⟩ := F'.ex
  rw [lk] at lk'
  injection lk' with z
  injection z with z1 z2 z3 z4
  injection z3
end
/-- from the law's promise to what the end of the walk asks -/
theorem fin_of {P : Program} {w : World} {K : PySem.W.Frag} {mg : Str → Option Value} {st : Stmt} {k : Nat} {x : Str} {sp : Sp} {fa : Addr} (hfa : mg "law" = some (.ref fa)) (D : Df K mg "law" st []) (b : Bd "law" "law" st [x])
    (h : ∀ base : Heap, Ca P w K mg base CX0 k "law" st [] [x] sp) :
    ∃ fd : FuncData, (∀ (s : Shared) (u : Value), BindsTo s fd ⟨[u], []⟩ [(x, u)]) ∧ ∀ base : Heap, K.In base → base.Ns mainGlobals mg → FnOk P w K mg base CX0 k fa fd [x] sp := by
  obtain ⟨f, fd, F, hm⟩ := D.ex
  have e := hfa.symm.trans hm
  cases e
  refine ⟨fd, fun s u => ?_, fun base _ _ => ?_⟩
  · obtain ⟨kV, doc, pm, an, cdv, ct, rfl⟩ := FunD.none F
    exact .of_eq (b kV doc pm an cdv ct [u] rfl)
  · obtain ⟨f', fd', F', hm', G⟩ := (h base).ex
    have e' := hm.symm.trans hm'
    cases e'
    have e2 := fund_inj F F'
    subst e2
    exact G
end MM
namespace MM
open PySem PySem.Spec PyProof.Rows L2
/-! ### an except clause with a tuple of classes -/
theorem for_true {M : Model} {A : Around} {E : Value → Shared → Prop} {s : Shared} {Q : PUnit → Shared → Prop} {f : Value → PUnit → Sem (ForInStep PUnit)} : ∀ (cs : List Value),
    (∀ c ∈ cs, ∀ Q' : ForInStep PUnit → Shared → Prop, Q' (.yield .unit) s → wpAny M A (f c .unit) Q' E s) → Q .unit s → wpAny M A (forIn cs PUnit.unit f) Q E s
  | [], _, q => by
    rw [List.forIn_nil]
    exact wpAny_pure q
  | c :: cs, h, q => by
    rw [List.forIn_cons]
    exact wpAny_bind (h c List.mem_cons_self _ (for_true cs (fun d hd => h d (List.mem_cons_of_mem _ hd)) q))
theorem for_first {M : Model} {A : Around} {E : Value → Shared → Prop} {s : Shared} {Q : Option Bool × Unit → Shared → Prop} {f : Value → Option Bool × Unit → Sem (ForInStep (Option Bool × Unit))} {B : Value → Bool} : ∀ (cs : List Value),
    (∀ c ∈ cs, ∀ Q' : ForInStep (Option Bool × Unit) → Shared → Prop, Q' (if B c then .done (some true, ()) else .yield (none, ())) s → wpAny M A (f c (none, ())) Q' E s) →
    Q (if cs.any B then (some true, ()) else (none, ())) s → wpAny M A (forIn cs ((none, ()) : Option Bool × Unit) f) Q E s
  | [], _, q => by
    rw [List.forIn_nil]
    exact wpAny_pure q
  | c :: cs, h, q => by
    rw [List.forIn_cons]
    refine wpAny_bind (h c List.mem_cons_self _ ?_)
    cases hb : B c with
    | true =>
      rw [List.any_cons, hb, Bool.true_or] at q
      exact wpAny_pure q
    | false =>
      rw [List.any_cons, hb, Bool.false_or] at q
      exact for_first cs (fun d hd => h d (List.mem_cons_of_mem _ hd)) q
theorem exm_tups {M : Model} {K : PySem.W.Frag} {cls : Value} {cs : List Value} {tp e : Addr} {h : Heap} {o : Obj} {n : Nat} {B : Value → Bool} (X : K.In h) (LT : PySem.W.Looks M h (typeOf (.ref e)) cls) (hp : h.get? tp = some o) (hc : o.cls = .type "tuple") (hd : o.data = .seq cs.toArray n)
    (hx : ∀ c ∈ cs, PySem.W.exmOne K cls c = some (B c)) : PySem.W.Looks M h (excMatches (.ref e) (.ref tp)) (cs.any B) := by
  intro A Q E s k q
  have LT0 : PySem.W.Looks M h (isInstance (.ref tp) (.type "tuple")) true := by
    refine PySem.W.Looks.andThen (a := .type "tuple") (fun A Q E s k q => wpAny_typeOf_ref (k _ _ hp) (by rw [hc]; exact q)) (PySem.W.Looks.of_pure isSubtype_tuple_tuple)
  unfold excMatches
  refine wpAny_bind ((LT0.keeps k).here ?_)
  dsimp only
  rw [if_pos rfl]
  refine wpAny_bind (wpAny_seqItems (k _ _ hp) hd (wpAny_bind (wpAny_pure ?_)))
  show wpAny M A (forIn cs PUnit.unit _ >>= _) _ _ _
  refine wpAny_bind (for_true cs (fun c hcm Q' q' => ?_) ?_)
  · refine wpAny_bind (((PySem.W.exm_cls (M := M) X (hx c hcm)).1.keeps k).here ?_)
    rw [if_neg (by decide)]
    exact wpAny_pure q'
  · refine wpAny_bind ((LT.keeps k).here (wpAny_bind (for_first (B := B) cs (fun c hcm Q' q' => ?_) ?_)))
    · refine wpAny_bind (((PySem.W.exm_cls (M := M) X (hx c hcm)).2.keeps k).here ?_)
      cases hb : B c with
      | true =>
        rw [hb] at q'
        rw [if_pos rfl]
        exact wpAny_pure q'
      | false =>
        rw [hb] at q'
        rw [if_neg (by decide)]
        exact wpAny_pure q'
    · cases hb : cs.any B with
      | true =>
        rw [hb] at q
        exact wpAny_pure q
      | false =>
        rw [hb] at q
        exact wpAny_pure q
/-! ### a caught exception that is kept -/
/-- at a: an exception of the class cls, its own dict at d -/
def KX (a : Addr) (cls : Value) (d : Option Addr) : HO := .ext fun h => ∃ (oe : Obj) (vs : Array Value), h.get? a = some oe ∧ Zc cls d oe ∧ oe.data = .fields vs
theorem kx_ok {P : Program} {w : World} {H : Hp} {h : Heap} {a : Addr} {cls : Value} {d : Option Addr} {oe : Obj} {vs : Array Value} (e : h.get? a = some oe) (z : Zc cls d oe) (hd : oe.data = .fields vs) : ObjOk P w H h a (KX a cls d) :=
  ⟨⟨oe, vs, e, z, hd⟩, ⟨oe, e⟩, fun h1 h2 ⟨o, v, e1, z1, d1⟩ k => ⟨o, v, k _ e1, z1, d1⟩⟩
section
variable {X : Cx} {pins : List (Addr × Obj)} {σ : L2.St} {H : Hp} {s : Shared} {a : Addr} {oe : Obj} {vs : Array Value} {cls : Value} {d : Option Addr}
theorem Inv.track (I : Inv X pins σ H s) (ha : s.heap.get? a = some oe) (hz : Zc cls d oe) (hd : oe.data = .fields vs) (na : H a = none) (n0 : X.s_0.heap.get? a = none) (nL : a ≠ X.env.locals) (nC : ∀ x c, X.env.cells.lookup x = some c → c ≠ a)
    (nP : ∀ p ∈ X.pn ++ pins, p.1 ≠ a) : Inv X pins σ (L2.upd H a (KX a cls d)) s := by
  have neA : ∀ {b : Addr} {o : HO}, H b = some o → b ≠ a := fun e => ne_of_none e na
  have ne0 : ∀ {b : Addr} {o : Obj}, X.s_0.heap.get? b = some o → b ≠ a := fun e z => by
    rw [z, n0] at e
    cases e
  refine ⟨I.ok, I.os, I.bare, ⟨I.base.keep, I.base.slot, fun b o e n hx => ?_, I.base.there, fun b xs e => ?_, fun b o u e => ?_, fun b ps e => ?_⟩, I.loc, I.cell, ?_, fun x c e => ?_, fun p hp => ?_, fun b u e => ?_, I.len⟩
  · rw [upd_ne (ne0 e)]
    exact I.base.free b o e n hx
  · have q := I.base.tups b xs e
    rw [upd_ne (neA q)]
    exact q
  · have q := I.base.frzs b o u e
    rw [upd_ne (neA q)]
    exact q
  · obtain ⟨m, q⟩ := I.base.tbls b ps e
    exact ⟨m, by rw [upd_ne (neA q)]; exact q⟩
  · rw [upd_ne nL.symm]
    exact I.free
  · rw [upd_ne (nC x c e)]
    exact I.freeC x c e
  · obtain ⟨q1, q2, q3⟩ := I.pin p hp
    exact ⟨q1, by rw [upd_ne (nP p hp)]; exact q2, q3⟩
  · by_cases hb : b = a
    · subst hb
      rw [upd_same] at e
      cases e
      exact kx_ok ha hz hd
    · rw [upd_ne hb] at e
      exact (I.hok b u e).stay (fun c v _ q => q) (fun c q => by rw [upd_ne (neA q)]; exact q) fun c xs q => by rw [upd_ne (neA q)]; exact q
end
theorem flying_more {B h h' : Heap} {l : List Env} {e : Addr} {Z : Obj → Prop} (x : HandSPX.FlyingZ B l e Z h) (k : ∀ b o, h.get? b = some o → h'.get? b = some o) : HandSPX.FlyingZ B l e Z h' := by
  obtain ⟨f1, f2, f3, oe, vs, T, oT, ts, he, hz, hd, h1, hnT, hTe, hT, hdT, h3⟩ := x
  exact ⟨fun b o q => k b o (f1 b o q), f2, f3.of_keeps fun b o hb _ => ⟨o, k b o hb, rfl⟩, oe, vs, T, oT, ts, k _ _ he, hz, hd, h1, hnT, hTe, k _ _ hT, hdT, h3⟩
/-- the names of a tuple of classes -/
inductive Nms (X : Cx) : List Expr → List Value → Prop
  | nil : Nms X [] []
  | cons {x : Str} {p : Pos} {c : Value} {es : List Expr} {cs : List Value} (g : Gl X x) (d : (x == ("__debug__" : Str)) = false) (m : X.mg x = some c) (r : Nms X es cs) : Nms X (.Name x p :: es) (c :: cs)
/-- what try .. except (..) as n: m = n wishes of an exception of the body: i is n's slot, j m's -/
def wKeep (K : PySem.W.Frag) (cs : List Value) (i j : Nat) (D : Ends) : WX := fun cls d σ H =>
  (∃ B : Value → Bool, (∀ c ∈ cs, PySem.W.exmOne K cls c = some (B c)) ∧ cs.any B = true) ∧ ∀ a, H a = none → D.nx (((σ.set i (some (.ref a))).set j (some (.ref a))).set i none) (L2.upd H a (KX a cls d))
section
variable {X : Cx} {cs : List Value} {es : List Expr} {n m : Str} {i j : Nat} {body : List Stmt} {kt : Nat} {tpos np mp apos pos pos' : Pos} {tb : WX → TS}
theorem nms_run {Y : Cx} {pins : List (Addr × Obj)} {σ : L2.St} {H : Hp} {s : Shared} (I : Inv Y pins σ H s) {es : List Expr} {cs : List Value} (h : Nms Y es cs) : ∀ {Q : List Value → Shared → Prop} {E : Value → Shared → Prop} {pos : Pos}, Q cs s →
    wpAny (model Y.prog Y.w) Y.A (spliced (backTo pos (starEach es Y.env))) Q E s := by
  induction h with
  | nil => exact fun q => wpAny_items_nil q
  | cons g d m r ih => exact fun q => wpAny_items_cons (ld_glob I g m (ih q) d)
theorem Nms.to {X Y : Cx} (he : Y.env = X.env) (hm : Y.mg = X.mg) {es : List Expr} {cs : List Value} (h : Nms X es cs) : Nms Y es cs := by
  induction h with
  | nil => exact .nil
  | cons g d m r ih => exact .cons (by unfold Gl; rw [he]; exact g) d (by rw [hm]; exact m) ih
/-- try: body / except (..) as n: m = n; nothing else leaves the body -/
theorem ps_try_keep (hs : X.stack = X.env :: X.outer) (hf : X.env.frame = some X.env.locals) (hex : X.ex = []) (hN : X.N.Nodup) (hi : X.N[i]? = some n) (hln : X.env.kindOf n = some .local) (hj : X.N[j]? = some m) (hlm : X.env.kindOf m = some .local) (hc : Nms X es cs) (hz : cs.length ≤ 100)
    (hdb : (n == ("__debug__" : Str)) = false := by decide) (hcd : (n == ("__classdict__" : Str)) = false := by decide)
    (hb : ∀ (W : WX) (pn : List (Addr × Obj)) (xe : Value → Shared → Prop), Takes (X.tr pn xe) W → PassesOwn (model X.prog X.w) X.A X.env xe → PSs (X.tr pn xe) body (tb W))
    (hsw : swapsWith (.Name n np) (some (.Name m mp)) apos.line X.env = pure false := by rfl) :
    PS X (.Try body [.ExceptHandler (some (.Tuple es kt tpos)) (some n) [.Assign [.Name m mp] (.Name n np) apos] pos'] [] [] pos) (fun D σ H => tb (wKeep X.K cs i j D) D σ H) := by
  refine ⟨fun pins s σ H D I h => ?_⟩
  have ok := I.ok
  have hfr : X.A.frames = some (X.env :: X.outer) := by rw [ok.frames, hs]
  refine wpAny_Try_except ?_
  refine wpAny_mono ((hb (wKeep X.K cs i j D) (X.pn ++ pins) (fun e s₁ => wpAny (model X.prog X.w) X.A (noteFrame e X.env) (fun _ s₂ => wpAny (model X.prog X.w) X.A (setFlight e none) (fun _ s₃ =>
    wpAny (model X.prog X.w) X.A (handleBy e X.env [.ExceptHandler (some (.Tuple es kt tpos)) (some n) [.Assign [.Name m mp] (.Name n np) apos] pos']) (SP X pins D) X.xe s₃) X.xe s₂) X.xe s₁) (fun u s' xx => ?_) PassesOwn.looking).run [] s σ H D (I.toTry _) h) (fun f s1 hsp => ?_) (fun e s1 he => he)
  · obtain ⟨a, B, sI, pins', σ', H', cls, d, rfl, J', nb, up, sky, na, os, ag, ⟨Bc, hB, hany⟩, wish⟩ := xx
    have J : Inv X pins σ' H' sI := J'.ofTry ok
    have sky' : Sky B (X.env :: X.outer) a (Zc cls d) X.env.locals s'.heap := by rw [← hs]; exact sky
    show wpAny (model X.prog X.w) X.A (noteFrame (.ref a) X.env) _ _ _
    refine Sky.land Zc.steady hfr hf sky' fun h3 fl3 up3 => ?_
    have J3 : Inv X pins σ' H' { s' with heap := h3 } := J.landed nb fl3.1 (up.trans up3) os ag
    obtain ⟨oe3, vs3, he3, hz3, hd3⟩ := fl3.there
    have nfr : a ∉ frs (X.env :: X.outer) := fun hm => by
      obtain ⟨_, o', e', hnf⟩ := fl3.2.2.1.mem hm
      rw [he3] at e'
      cases e'
      exact hnf _ hd3
    have nL : a ≠ X.env.locals := fun z => nfr (List.mem_filterMap.mpr ⟨X.env, List.mem_cons_self, by rw [hf, z]⟩)
    have nF : a ∉ X.fs := fun hm => by
      obtain ⟨e, he, q⟩ := List.mem_filterMap.mp hm
      exact nfr (List.mem_filterMap.mpr ⟨e, List.mem_cons_of_mem _ he, q⟩)
    have nI : sI.heap.get? a = none := by
      cases q : sI.heap.get? a with
      | none => rfl
      | some o =>
        have z := nb a o q (by rw [hs]; exact nfr)
        rw [fl3.2.1] at z
        cases z
    have n0 : X.s_0.heap.get? a = none := by
      cases q : X.s_0.heap.get? a with
      | none => rfl
      | some o =>
        obtain ⟨o', z⟩ := J.base.there a o q (by rw [hex]; exact fun y => nomatch y)
        rw [nI] at z
        cases z
    have nC : ∀ x c, X.env.cells.lookup x = some c → c ≠ a := fun x c e z => by
      obtain ⟨v, o, ho, _⟩ := J.cell x c e
      rw [z, nI] at ho
      cases ho
    have nP : ∀ p ∈ X.pn ++ pins, p.1 ≠ a := fun p hp z => by
      have q := (J.pin p hp).1
      rw [z, nI] at q
      cases q
    have S3 := J3.suite he3 hd3 na nL nF
    refine wpAny_handleBy_cons (codeAny_handlers_test ?_) (by intro q; cases q)
    refine wpAny_Tuple (nms_run (Y := X.suite a ((a, oe3) :: (X.pn ++ pins))) S3 (Nms.to (X := X) (Y := X.suite a ((a, oe3) :: (X.pn ++ pins))) rfl rfl hc) ⟨Nat.le_trans hz (by decide), ?_⟩)
    have kp : ∀ b o, h3.get? b = some o → (h3.push { cls := .type "tuple", data := .seq cs.toArray }).get? b = some o := fun b o e => Heap.get?_push_of_some _ e
    have LT : PySem.W.Looks (model X.prog X.w) (h3.push { cls := .type "tuple", data := .seq cs.toArray }) (typeOf (.ref a)) cls := fun A Q E s k q => wpAny_typeOf_ref (k _ _ (kp _ _ he3)) (by rw [hz3.1]; exact q)
    have LM := exm_tups (M := model X.prog X.w) (J3.kIn.keeps kp) LT (Heap.get?_push_size h3 rfl) rfl rfl hB
    rw [hany] at LM
    refine LM.here ?_
    refine codeAny_handlers_suite_as ?_
    have fl3' := flying_more fl3 kp
    refine HandSPX.lands_againZ fl3' fun h4 fl4 up4 => ?_
    have upp : h3.UpToSlots (h3.push { cls := .type "tuple", data := .seq cs.toArray }) := fun b o hb _ => ⟨o.slots, kp b o hb⟩
    have J4 : Inv X pins σ' H' { s' with heap := h4 } := J.landed nb fl4.1 (((up.trans up3).trans upp).trans up4) os ag
    obtain ⟨oe4, vs4, he4, hz4, hd4⟩ := fl4.there
    have S4 := J4.suite he4 hd4 na nL nF
    refine store_ok (X := X.suite a ((a, oe4) :: (X.pn ++ pins))) (v := .ref a) S4 hN hi (.inl hln) rfl (fun s5 S5 => ?_) (.inr hln)
    have rd : PSs (X.suite a ((a, oe4) :: (X.pn ++ pins))) [.Assign [.Name m mp] (.Name n np) apos] (tAsg (tVar i) (gName j)) := pss_one (ps_set hN hj (.inl hlm) (pe_var hi (.inl hln) hdb hcd) hsw (.inr hlm))
    refine wpAny_mono (rd.run [] s5 _ H' { nx := fun σ6 H6 => σ6 = (σ'.set i (some (.ref a))).set j (some (.ref a)) ∧ H6 = H', rt := fun _ _ => False } S5 ⟨_, ?_, rfl, rfl⟩) (fun f s6 hsp => ?_) (fun _ _ z => False.elim z)
    · exact List.getElem?_set_self (by rw [J.len]; exact (List.getElem?_eq_some_iff.mp hi).1)
    · cases f with
      | next =>
        obtain ⟨σ6, H6, S6, rfl, rfl⟩ := hsp
        obtain ⟨p1, p2, _⟩ := S6.pin (a, oe4) (List.mem_append_left _ List.mem_cons_self)
        have J6 := Inv.track (S6.unsuite ok) p1 hz4 hd4 na n0 nL nC nP
        exact gone_ok J6 hN hi hln fun s7 J7 => ⟨_, _, J7, wish a na⟩
      | brk =>
        obtain ⟨_, _, _, z⟩ := hsp
        exact z.elim
      | cont =>
        obtain ⟨_, _, _, z⟩ := hsp
        exact z.elim
      | ret u =>
        obtain ⟨_, _, _, _, _, z⟩ := hsp
        exact z.elim
  · cases f with
    | next =>
      obtain ⟨σ1, H1, J1, q⟩ := hsp
      exact wpAny_execs_nil ⟨σ1, H1, J1.ofTry ok, q⟩
    | brk =>
      obtain ⟨σ1, H1, J1, q⟩ := hsp
      exact ⟨σ1, H1, J1.ofTry ok, q⟩
    | cont =>
      obtain ⟨σ1, H1, J1, q⟩ := hsp
      exact ⟨σ1, H1, J1.ofTry ok, q⟩
    | ret u =>
      obtain ⟨v1, σ1, H1, J1, r1, q⟩ := hsp
      exact ⟨v1, σ1, H1, J1.ofTry ok, r1, q⟩
end
end MM
namespace MM
open PySem PySem.Spec PySem.Calls PyProof.Rows L2
/-! ### a kept exception is asked for its class -/
/-- what the class D says, so that its instances may be asked -/
structure XcF (K : PySem.W.Frag) (D : Addr) : Prop where
  ga : PySem.W.findIn K (.ref D) "__getattribute__" = some (some (.builtin "BaseException.__getattribute__"))
  gg : PySem.W.findIn K (.ref D) "__getattr__" = some none
  sub : PySem.W.subIn K (.ref D) (.type "BaseException") = some true
  hd : PySem.W.hasDictIn K D = true
  ca : PySem.W.findIn K (.ref D) "__class__" = some (some (.builtin "object.__class__"))
  gn : PySem.W.specialIn K (.builtin "object.__class__") "__get__" = some (some (.builtin "getset_descriptor.__get__"))
  tk : PySem.W.takesIn K (.builtin "object.__class__") = some true
  mo : PySem.W.mroIn K D (.type "object") = some true
section
open PySem.W
variable {prog : Program} {w : World} {A : Around} {E : Value → Shared → Prop} {s : Shared} {K : Frag} {x D : Addr} {ox : Obj} {od : Option Obj}
theorem found_class (C : XcF K D) : findObj K D od "__class__" = some (.bind (.builtin "getset_descriptor.__get__") (.builtin "object.__class__")) := by
  obtain ⟨cd, hc, _⟩ := any_some C.hd
  unfold findObj
  rw [hc, Option.bind_some, C.ca, Option.bind_some]
  simp [C.gn, C.tk]
theorem class_exc {Q : Option Value → Shared → Prop} (C : XcF K D) (X : K.In s.heap) (I : InstAt s.heap x ox D od) (h : Q (some (.ref D)) { s with toks := s.toks + 1 }) : wpAny (model prog w) A (getAttr? (.ref x) "__class__") Q E s := by
  obtain ⟨hp, g, d, t, os⟩ := s
  have l0 := I.type (M := model prog w)
  have l1 := looks_findIn (M := model prog w) X C.ga
  have l2 := looks_findIn (M := model prog w) X C.gg
  have l3 := looks_find (M := model prog w) X I (found_class C)
  have isB : Looks (model prog w) hp (isInstance (.ref x) (.type "BaseException")) true := l0.andThen (looks_subIn X C.sub)
  have n2 : (Value.builtin "BaseException.__getattribute__" == Value.builtin "object.__getattribute__") = false := by decide +kernel
  unfold getAttr? getAttrBy? getAttrBy
  refine wpAny_bind (wpAny_mkText (wpAny_bind (wpAny_attempt (wpAny_holding (wpAny_bind (l0.at (wpAny_bind (l1.at (?_ : wpAny _ _ (if (onTheHeap (Value.ref D) && Value.builtin "BaseException.__getattribute__" == Value.builtin "object.__getattribute__") = true then _ else _) _ _ _)))))))))
  rw [show (onTheHeap (Value.ref D) && Value.builtin "BaseException.__getattribute__" == Value.builtin "object.__getattribute__") = false by rw [n2]; rfl, if_neg Bool.false_ne_true]
  unfold getAttrByItsOwn hookBefore
  refine wpAny_bind ?_
  rw [if_pos (show onTheHeap (Value.ref D) = true from rfl)]
  refine l2.at (wpAny_bind (wpAny_attempt (wpAny_holding ?_)))
  unfold callGetattribute
  rw [show (false && onTheHeap (Value.builtin "BaseException.__getattribute__")) = false from rfl, if_neg Bool.false_ne_true]
  unfold boundAndCalled
  rw [PySem.F.excAttr_ValueError.ga.bind (.ref x)]
  refine wpAny_bind (wpAny_pure (?_ : wpAny _ _ (call (.builtin "BaseException.__getattribute__") [.ref x, .str "__class__" t]) _ _ _))
  refine wpAny_call (codeAny_call_builtin PySem.F.excAttr_ValueError.ga.plain PySem.F.entry_bexc_ga (@check_slot (model prog w) _ _ ⟨hp, g, d, t + 1, os⟩ "BaseException.__getattribute__" "BaseException" "__getattribute__" (.ref x) [.str "__class__" t] [] _ (by decide +kernel) (by decide +kernel) isB (PySem.F.args_bexc_ga (.ref x) (.str "__class__" t)) ?_))
  unfold Builtin.«object.__getattribute__»
  refine wpAny_bind (wpAny_of_eq (a := ((Value.ref x : Value), [Value.str "__class__" t])) (by first | rfl | (simp only [slotArgs]; rfl)) (wpAny_bind (wpAny_pure (wpAny_bind (l0.at (wpAny_bind (l3.at
    (?_ : wpAny _ _ (holding [Value.builtin "object.__class__"] (call (.builtin "getset_descriptor.__get__") [.builtin "object.__class__", .ref x, .ref D]) >>= ret) _ _ _))))))))
  refine wpAny_bind (wpAny_holding (wpAny_call (class_get (s := ⟨hp, g, d, t + 1, os⟩) (ox := ox) (od := od) X I C.mo (wpAny_pure (?_ : wpAny _ _ (handedOut (.ref D)) _ _ _)))))
  rw [handedOut_of (v := .ref D) rfl]
  first
    | exact wpAny_pure (wpAny_pure h)
    | exact wpAny_pure h
    | exact wpAny_pure (wpAny_bind (wpAny_pure (wpAny_pure h)))
theorem kitx_kept (C : XcF K D) : KitX K (.ref x) (.ref D) (fun h => ∃ (ox : Obj) (od : Option Obj), InstAt h x ox D od) := by
  obtain ⟨cd, hc, _⟩ := any_some C.hd
  unfold clsIn at hc
  split at hc
  · rename_i c' d' cd' sl' ho
    refine { ty := fun _ _ _ ⟨_, _, I⟩ => I.type, it := fun _ _ X _ A' Q' E' s' k q => ?_, ne := fun h tp dd its n sl X htp => Bool.eq_false_iff.mpr fun q => ?_, ca := fun X ⟨_, _, I⟩ k => class_exc C X I k }
    · unfold isType loadHead
      exact wpAny_bind (wpAny_loadPart (k _ _ (X _ _ ho)) (wpAny_pure q))
    · have e : D = tp := Value.ref.inj (beq_iff_eq.mp q)
      subst e
      cases (X _ _ ho).symm.trans htp
  · cases hc
end
section
variable {X : Cx} {a D : Addr} {d : Option Addr} {oD : Addr}
theorem kept_inst {pins : List (Addr × Obj)} {σ : L2.St} {H : Hp} {s : Shared} {fs : List (Str × V)} (I : Inv X pins σ H s) (ha : H a = some (KX a (.ref D) (some oD))) (hd : H oD = some (.xd fs)) :
    ∃ (ox : Obj) (od : Obj) (mA : Str → Option Value), PySem.W.InstAt s.heap a ox D (some od) ∧ s.heap.Ns1 oD mA ∧ (∀ f, RelO (fs.lookup f) (mA f)) ∧ ∀ n, PySem.W.lookIn n od = some (mA n) := by
  have x1 : ObjOk X.prog X.w H s.heap a (KX a (.ref D) (some oD)) := I.hok a _ ha
  obtain ⟨⟨ox, vs, e, z, dd⟩, _, _⟩ := x1
  have x2 : ObjOk X.prog X.w H s.heap oD (.xd fs) := I.hok oD _ hd
  obtain ⟨mA, hns, hr⟩ := x2
  obtain ⟨od, ho, hl⟩ := lookIn_ns hns
  exact ⟨ox, od, mA, ⟨e, z.1, by unfold PySem.W.notCls; rw [dd], by rw [z.2]; exact ho⟩, hns, hr, hl⟩
/-- isinstance(x, c), x a kept exception -/
def rIsK (K : PySem.W.Frag) (D : Addr) : List V → Hp → VK → Prop := fun xs H Q => ∃ (a oD : Addr) (fs : List (Str × V)) (c : V) (u : Value) (b : Bool), xs = [.ref a, c] ∧ H a = some (KX a (.ref D) (some oD)) ∧ H oD = some (.xd fs) ∧ ClsV c u ∧ PySem.W.kitOne K (.ref D) u = some b ∧ Q (.bl b) H
theorem call_isK (C : XcF X.K D) : CallR X (.builtin "isinstance") (rIsK X.K D) := by
  intro pins s σ H xs us Q I r h
  obtain ⟨a, oD, fs, c, u, b, rfl, ha, hd, hc, e, q⟩ := h
  obtain ⟨u1, u2, rfl, r1, r2⟩ := vals2 r
  cases (show u1 = Value.ref a from r1)
  have ec := hc.eq r2
  subst ec
  obtain ⟨ox, od, _, J, _⟩ := kept_inst I ha hd
  exact PySem.W.kia_one (kitx_kept C) I.kIn ⟨ox, _, J⟩ e (fun z => nomatch z) fun tk => ⟨.bl b, H, I.kept (t' := tk) fun _ _ z => z, rfl, q⟩
/-- x.f, x a kept exception -/
def tKf (D : Addr) (f : Str) (te : TE) : TE := fun σ H Q => te σ H fun x H1 => ∃ (a oD : Addr) (fs : List (Str × V)) (v : V), x = .ref a ∧ H1 a = some (KX a (.ref D) (some oD)) ∧ H1 oD = some (.xd fs) ∧ fs.lookup f = some v ∧ Q v H1
theorem pe_kf {e : Expr} {te : TE} {pos : Pos} {n : Str} (C : XcF X.K D) (hno : PySem.W.findIn X.K (.ref D) n = some none) (he : PE X e te) (hb : attributeBase e n X.env (eval e X.env) = eval e X.env := by rfl) : PE X (.Attribute e n pos) (tKf D n te) := by
  refine ⟨fun pins s σ H Q I h => attr_of hb (thn (he.run pins s σ H _ I h) fun u s1 hh => ?_)⟩
  obtain ⟨x, H1, I1, rx, a, oD, fs, v, rfl, ha, hd, l, q⟩ := hh
  cases (show u = Value.ref a from rx)
  obtain ⟨ox, od, mA, J, _, hr, hl⟩ := kept_inst I1 ha hd
  obtain ⟨u1, hu, ru⟩ := RelO.some_of (v := v) (o := mA n) (by rw [← l]; exact hr n)
  exact HandSPX.exc_get I1.kIn J C.ga C.gg C.sub (PySem.W.findObj_own C.hd hno rfl (by rw [hl, hu])) (handed_of ru) ⟨v, H1, I1.tok _, ru, q⟩
end
end MM
namespace MM
open PySem PySem.Spec PyProof.Rows L2
section
variable {K : PySem.W.Frag} {h : Heap} {mg : Str → Option Value} {x m qual : Str} {st : Stmt} {f C D CN : Addr} {b : Bool} {oc kV doc pm cdv ct : Value} {od an : Option Addr} {osl : Array (Option Value)}
/-- another class of errors, beside the class CN -/
structure Oc (K : PySem.W.Frag) (mg : Str → Option Value) (CN : Addr) (x : Str) (D : Addr) (b : Bool) : Prop where
  m : mg x = some (.ref D)
  i : PySem.W.isClsIn K D = true
  t : PySem.W.typeIn K (.ref D) = some (.type "type")
  e : PySem.W.subIn K (.ref D) (.type "BaseException") = some true
  s : PySem.W.subIn K (.ref CN) (.ref D) = some b
theorem Oc.cls (o : Oc K mg CN x D b) : PySem.W.kitCls K (.ref CN) (.ref D) = some b := by
  have iC' : (PySem.W.clsIn K D).isSome = true := o.i
  show (if ((PySem.W.clsIn K D).isSome && PySem.W.typeIn K (.ref D) == some (.type "type")) = true then PySem.W.subIn K (.ref CN) (.ref D) else none) = some b
  rw [iC', o.t, if_pos (by simp)]
  exact o.s
theorem Oc.kit (o : Oc K mg CN x D b) (hn : CN = D → b = true) : PySem.W.kitOne K (.ref CN) (.ref D) = some b := by
  unfold PySem.W.kitOne
  by_cases he : CN = D
  · rw [if_pos (by rw [he]; simp), hn he]
  · rw [if_neg (by simp [he])]
    exact o.cls
theorem Oc.exm (o : Oc K mg CN x D b) : PySem.W.exmOne K (.ref CN) (.ref D) = some b := by
  unfold PySem.W.exmOne
  rw [o.e, if_pos (by simp)]
  exact o.cls
theorem kit_typ {T : String} (m : PySem.W.kitMeta T = true) (s : PySem.W.subIn K (.ref CN) (.type T) = some b) : PySem.W.kitOne K (.ref CN) (.type T) = some b := by
  unfold PySem.W.kitOne
  rw [if_neg (by simp)]
  show (if PySem.W.kitMeta T = true then PySem.W.subIn K (.ref CN) (.type T) else none) = some b
  rw [if_pos m]
  exact s
end
end MM
namespace MM
open PySem PySem.Spec PySem.Calls PyProof.Rows L2
/-! ### own classes of errors right over a built-in one, their __init__ walked as a def -/
/-- what the written part says of the class at C, which stands right over the built-in B -/
structure OxG (K : PySem.W.Frag) (C : Addr) (B newId initId : String) (bm : List Value) : Prop where
  bf : ExcBaseFacts B newId initId bm
  sf : StoreFacts B bm "object.__setattr__" "object"
  tl : PySem.W.excTail bm bm = true
  cls : ∃ nm q N bs sn sub ab col dd k0 k1 k2 k3 k5, K.lookup C = some (excClassObj nm q C N bs bm true sn sub ab col dd k0 k1 k2 k3 k5 newId)
  sa : PySem.W.findIn K (.ref C) "__setattr__" = some (some (.builtin "object.__setattr__"))
  exC : PySem.W.subIn K (.ref C) (.type "BaseException") = some true
  tyC : PySem.W.typeIn K (.ref C) = some (.type "type")
  kC : PySem.W.keepIn K (.ref C) = true
section
variable {K : PySem.W.Frag} {C : Addr} {B newId initId : String} {bm : List Value}
theorem OxG.dat (T : OxG K C B newId initId bm) : ∃ cd, PySem.W.clsIn K C = some cd ∧ cd.mro = .ref C :: bm ∧ cd.hasDict = true := by
  obtain ⟨nm, q, N, bs, sn, sub, ab, col, dd, k0, k1, k2, k3, k5, hC⟩ := T.cls
  exact ⟨_, (by unfold PySem.W.clsIn; rw [hC] <;> rfl), rfl, rfl⟩
theorem OxG.over (T : OxG K C B newId initId bm) : PySem.W.excOver K C bm = true := by
  obtain ⟨cd, hc, hm, _⟩ := T.dat
  unfold PySem.W.excOver
  rw [hc]
  show (match cd.mro with | .ref C' :: b => C' == C && PySem.W.excTail bm b | _ => false) = true
  rw [hm]
  show (C == C && PySem.W.excTail bm bm) = true
  rw [T.tl]
  simp
theorem OxG.taker (T : OxG K C B newId initId bm) {f : Str} (hno : PySem.W.findIn K (.ref C) f = some none) : PySem.W.takerIn K C f = some none := by
  unfold PySem.W.takerIn
  rw [hno]
  rfl
end
section
variable {X : Cx} {pins : List (Addr × Obj)} {σ : L2.St} {H : Hp} {s : Shared} {a C dx : Addr} {f : Str} {y : V} {u : Value} {fs : List (Str × V)} {Q : Unit → Shared → Prop} {E : Value → Shared → Prop} {A : Around} {B newId initId : String} {bm : List Value}
/-- the first field -/
theorem gx_new (T : OxG X.K C B newId initId bm) (I : Inv X pins σ H s) (e : H a = some (exo a C none)) (hno : PySem.W.findIn X.K (.ref C) f = some none) (ry : RelV y u)
    (h : ∀ dx s', H dx = none → dx ≠ a → Inv X pins σ (L2.upd (L2.upd H dx (exd dx [(f, y)])) a (exo a C (some dx))) s' → Q () s') : wpAny (model X.prog X.w) A (setAttr (.ref a) f u) Q E s := by
  obtain ⟨cd, hcd, hmr, hhd⟩ := T.dat
  obtain ⟨t1, ho⟩ := exo_at I.hok e
  obtain ⟨hp, g, dn, t, os⟩ := s
  have key : ∀ (h' : Heap) (tk' : Nat), (∀ b o, b ≠ a → hp.get? b = some o → h'.get? b = some o) → h'.get? a = some ({ cls := .ref C, dict := some hp.objs.size, data := .fields #[.ref t1, .none, .none, .none, .bool false, .none] } : Obj) →
      h'.Ns1 hp.objs.size (fun z => if z = f then some u else none) → Q () ⟨h', g, dn, tk', os⟩ := by
    intro h' tk' k hx hn
    have nlt : ∀ {b : Addr} {o : Obj}, hp.get? b = some o → b ≠ hp.objs.size := fun q => Nat.ne_of_lt (Heap.lt_size q)
    have hnd : H hp.objs.size = none := I.hok.fresh (Nat.le_refl _)
    have dne : hp.objs.size ≠ a := (nlt ho).symm
    have na : ∀ {b : Addr}, H b = none → b ≠ a := fun n z => by
      subst z
      cases e.symm.trans n
    refine h hp.objs.size _ hnd dne (I.un (t' := tk') ⟨fun b o q n _ _ => k b o (na n) q, fun b o q n _ _ => ⟨o.slots, k b o (na n) q⟩, fun b o q n _ => ?_, fun b o q _ => ?_, fun b xs q => ?_, fun b o v q => ?_, fun b ps q => ⟨#[], ?_⟩⟩ fun b o q => ?_)
    · rw [upd_ne (na n), upd_ne (nlt q)]
      exact n
    · by_cases hb : b = a
      · exact ⟨_, by rw [hb]; exact hx⟩
      · exact ⟨o, k b o hb q⟩
    · rw [upd_ne (at_ne e q exo_tup), upd_ne (ne_of_none q hnd)]
      exact q
    · rw [upd_ne (at_ne e q exo_frz), upd_ne (ne_of_none q hnd)]
      exact q
    · rw [upd_ne (at_ne e q exo_tbl), upd_ne (ne_of_none q hnd), q]
      simp
    · by_cases hb : b = a
      · subst hb
        cases upd_same.symm.trans q
        exact exo_ok hx
      rw [upd_ne hb] at q
      by_cases hd : b = hp.objs.size
      · subst hd
        cases upd_same.symm.trans q
        exact exd_ok hn (relO_put (fs := []) ry fun g => True.intro)
      rw [upd_ne hd] at q
      refine (I.hok b o q).stay (fun c v hc z => k c v ?_ z) (fun c hc => ?_) (fun c xs hc => ?_)
      · rcases hc with hc | hc
        · exact fun z => hb (hc ▸ z)
        · exact at_ne e hc exo_own
      · rw [upd_ne (at_ne e hc exo_own), upd_ne (ne_of_none hc hnd)]
        exact hc
      · rw [upd_ne (at_ne e hc exo_tup), upd_ne (ne_of_none hc hnd)]
        exact hc
  have J : PySem.W.InstAt hp a ({ cls := .ref C, dict := none, data := .fields #[.ref t1, .none, .none, .none, .bool false, .none] } : Obj) C none := ⟨ho, rfl, rfl, trivial⟩
  refine PySem.W.set_plain I.kIn J T.sa (PySem.W.osa_openX T.sf I.kIn J T.over (T.taker hno) fun b => ?_)
  have hs : a ≠ hp.objs.size := Nat.ne_of_lt (Heap.lt_size ho)
  refine wpAny_bind (wpAny_pure (wpAny_bind (PySem.W.instanceDict_exc (t := t1) (c2 := .none) ho (PySem.W.looks_clsIn I.kIn hcd) hhd ?_)))
  refine PySem.HandSPX.store_in_new ?_ fun h' tk' hn' hsb => ?_
  · exact ⟨_, #[], _, (Heap.get?_update_ne _ _ _ _ hs.symm).trans (Heap.get?_push_at rfl rfl), rfl, fun e he => absurd he (by simp), fun _ => rfl⟩
  · refine key h' _ (fun b o hb hq => ?_) ?_ hn'
    · exact (hsb.2 b (Nat.ne_of_lt (Heap.lt_size hq))).trans ((Heap.get?_update_ne _ _ _ _ hb).trans (Heap.get?_push_of_some _ hq))
    · exact (hsb.2 a hs).trans (Heap.get?_update_self _ (Heap.get?_push_of_some _ ho) rfl)
/-- a further field -/
theorem gx_old (T : OxG X.K C B newId initId bm) (I : Inv X pins σ H s) (e : H a = some (exo a C (some dx))) (ed : H dx = some (exd dx fs)) (hl : fs.length ≤ 900) (hno : PySem.W.findIn X.K (.ref C) f = some none) (ry : RelV y u)
    (h : ∀ s', Inv X pins σ (L2.upd H dx (exd dx ((f, y) :: fs))) s' → Q () s') : wpAny (model X.prog X.w) A (setAttr (.ref a) f u) Q E s := by
  obtain ⟨t1, ho⟩ := exo_at I.hok e
  obtain ⟨mA, hns, rel⟩ := exd_at I.hok ed
  obtain ⟨hp, g, dn, t, os⟩ := s
  obtain ⟨oD, _, _, hoD, _, _⟩ := hns.count (within_of rel)
  have J : PySem.W.InstAt hp a ({ cls := .ref C, dict := some dx, data := .fields #[.ref t1, .none, .none, .none, .bool false, .none] } : Obj) C (some oD) := ⟨ho, rfl, rfl, hoD⟩
  refine PySem.W.set_plain I.kIn J T.sa (PySem.W.osa_openX T.sf I.kIn J T.over (T.taker hno) fun b => ?_)
  refine wpAny_bind (wpAny_pure (wpAny_bind ?_))
  show wpAny _ _ (instanceDict a true) _ _ _
  unfold instanceDict
  refine wpAny_bind (wpAny_loadPart ho ?_)
  obtain ⟨cd, hcd, hmr, hhd⟩ := T.dat
  dsimp only
  refine wpAny_bind ((PySem.W.looks_clsIn I.kIn hcd).at ?_)
  rw [hhd]
  refine wpAny_pure ?_
  refine PySem.OEX.store_in_old hns (within_of rel) (by rw [List.length_map]; omega) fun h' tk' hn hsb => ?_
  have hd : ∃ o, h'.get? dx = some o := by
    obtain ⟨o, _, _, e', _⟩ := hn
    exact ⟨o, e'⟩
  exact h _ (I.write (t' := tk') (x := dx) (e := dx) (o := exd dx ((f, y) :: fs)) (by rw [ed]; exact True.intro) (.inl rfl) (fun b o hb q => (hsb.2 b hb).trans q) hd (exd_ok hn (relO_put ry rel)))
/-- B.__init__(self, ..) -/
theorem gx_init {us : List Value} {Q : Value → Shared → Prop} (T : OxG X.K C B newId initId bm) (I : Inv X pins σ H s) (e : H a = some (exo a C none)) (hl : us.length ≤ sizeLine) (h : ∀ s', Inv X pins σ H s' → Q .none s') : wpAny (model X.prog X.w) A (call (.builtin initId) (.ref a :: us)) Q E s := by
  obtain ⟨nm, q, N, bs, sn, sub, ab, col, dd, k0, k1, k2, k3, k5, hC⟩ := T.cls
  obtain ⟨t1, ho⟩ := exo_at I.hok e
  obtain ⟨hp, g, dn, t, os⟩ := s
  refine wpAny_call (PySem.HandSPX.init_base T.bf (fun _ => rfl) (I.kIn _ _ hC) ho hl fun h' t2 k hx => h _ ?_)
  have J := I.write (t' := t) (x := a) (e := a) (o := exo a C none) (by rw [e]; exact True.intro) (.inl rfl) k ⟨_, hx⟩ (exo_ok hx)
  rwa [show L2.upd H a (exo a C none) = H from funext fun b => by
    by_cases hb : b = a
    · rw [hb, upd_same, e]
    · rw [upd_ne hb]] at J
end
/-! ### the rules -/
/-- B.__init__(self, ..) -/
def tBi (K : PySem.W.Frag) (B newId initId : String) (bm : List Value) (ta : TA) : TE := fun σ H Q => ta σ H fun vs H1 => ∃ (a C : Addr) (ws : List V), vs = .ref a :: ws ∧ ws.length ≤ 1000 ∧ OxG K C B newId initId bm ∧ H1 a = some (exo a C none) ∧ Q .non H1
/-- self.f = e -/
def tGs (K : PySem.W.Frag) (B newId initId : String) (bm : List Value) (f : Str) (to te : TE) : TS := fun D σ H => te σ H fun y H1 => to σ H1 fun x H2 => ∃ a C : Addr, x = .ref a ∧ OxG K C B newId initId bm ∧ PySem.W.findIn K (.ref C) f = some none ∧
  ((H2 a = some (exo a C none) ∧ ∀ dx, H2 dx = none → dx ≠ a → D.nx σ (L2.upd (L2.upd H2 dx (exd dx [(f, y)])) a (exo a C (some dx)))) ∨
    ∃ (dx : Addr) (fs : List (Str × V)), H2 a = some (exo a C (some dx)) ∧ H2 dx = some (exd dx fs) ∧ fs.length ≤ 900 ∧ D.nx σ (L2.upd H2 dx (exd dx ((f, y) :: fs))))
section
variable {X : Cx} {o e : Expr} {es : List Expr} {to te : TE} {ta : TA} {f : Str} {p p' p1 p2 pos : Pos} {B newId initId : String} {bm : List Value} {bn : Str}
theorem pe_bini {pl : Sem Bool} (hg : Gl X bn) (hm : X.mg bn = none) (hbt : bootBuiltins bn = some (.type B)) (hty : typeOf (.type B) = pure (.type "type")) (vV : PySem.W.findCls X.K (.type B) (.type "type") "__init__" = some (.val (.builtin initId))) (ha : PA X (e :: es) ta)
    (hn : bn ≠ "__name__" := by decide) (hdb : (bn == ("__debug__" : Str)) = false := by decide) (hst : Manifest.isStub B = false := by decide +kernel) (hha : PySem.W.handedIn (.builtin initId) = true := by decide +kernel)
    (hc : eval (.Call (.Attribute (.Name bn p1) "__init__" p2) (e :: es) [] pos) X.env = (do
      let v0 ← eval (.Name bn p1) X.env
      standAt p2.atName
      let (f, first) ← holding [v0] (getMethod v0 "__init__" pl)
      callWith pos f first (backTo pos (starEach (e :: es) X.env)) (backToKw pos (keywordEach [] X.env))) := by rfl)
    (he : starEach (e :: es) X.env = (false, eval e X.env) :: starEach es X.env := by rfl) (hpl : (backTo pos (starEach es X.env)).any (·.1) = false := by rfl) :
    PE X (.Call (.Attribute (.Name bn p1) "__init__" p2) (e :: es) [] pos) (tBi X.K B newId initId bm ta) := by
  refine ⟨fun pins s σ H Q I h => ?_⟩
  refine PySem.W.methodCall_KW (ld_blt I hg hm hbt ?_ hn hdb) hc
  obtain ⟨m, fr⟩ := I.fr
  refine PySem.W.method_type fr I.ok.mod.kin hty hst vV hha ?_
  show wpAny _ _ (callWith pos (Value.builtin initId) [] (backTo pos (starEach (e :: es) X.env)) []) _ _ _
  refine PyProof.Rows.callWith_method1 (thn (ha.run pos pins _ σ H _ (I.tok _) h) fun us s1 hh => ?_) he hpl
  obtain ⟨vs, H1, I1, r1, a, C, ws, rfl, hl, T, ea, q⟩ := hh
  cases r1 with
  | @cons _ u0 _ ur ra rr =>
    cases (show u0 = Value.ref a from ra)
    exact gx_init T I1 ea (by rw [← Paired.length rr, sizeLine_eq]; omega) fun s' J => ⟨.non, H1, J, rfl, q⟩
theorem ps_gst (ho : PE X o to) (he : PE X e te) (hs : swapsWith e (some (.Attribute o f p')) pos.line X.env = pure false := by rfl) : PS X (.Assign [.Attribute o f p'] e pos) (tGs X.K B newId initId bm f to te) := by
  refine ⟨fun pins s σ H D I h => ?_⟩
  refine plainObj_wpAny_Assign_Attribute (thn (he.run pins s σ H _ I h) fun v s1 ⟨y, H1, I1, r1, q1⟩ => thn (ho.run pins s1 σ H1 _ I1 q1) fun u s2 hh => ?_) hs
  obtain ⟨x, H2, I2, r2, a, C, rfl, T, hno, q⟩ := hh
  cases (show u = Value.ref a from r2)
  rcases q with ⟨ea, q⟩ | ⟨dx, fs, ea, ed, hl, q⟩
  · exact gx_new T I2 ea hno r1 fun dx s' n ne J => ⟨σ, _, J, q dx n ne⟩
  · exact gx_old T I2 ea ed hl hno r1 fun s' J => ⟨σ, _, J, q⟩
/-- C(e, ..), C's own __init__ keeping sp -/
theorem pmk_g {CX : CXT} {x : Str} {C fI : Addr} {k : Nat} {fd : FuncData} {ps : List Str} {sp : Sp} {ds : List Value} {dvs : List V} (T : OxG X.K C B newId initId bm) (iC : PySem.W.findIn X.K (.ref C) "__init__" = some (some (.ref fI))) (tI : PySem.W.typeIn X.K (.ref fI) = some (.type "function"))
    (F1 : FnOk X.prog X.w X.K X.mg X.base CX k fI fd ps sp) (hr : Room (k + 1) X.A) (hb : Binds X.K fd ps ds) (hd : Vals dvs ds) (hx : Passes CX X (fun _ _ _ => False)) (hg : Gl X x) (hm : X.mg x = some (.ref C)) (ha : PA X (e :: es) ta)
    (hdb : (x == ("__debug__" : Str)) = false := by decide) (he : starEach (e :: es) X.env = (false, eval e X.env) :: starEach es X.env := by rfl) (hpl : (backTo pos (starEach es X.env)).any (·.1) = false := by rfl) : PMk X (.Call (.Name x p) (e :: es) [] pos) (tMkO C sp dvs ta) := by
  intro pins s σ H Q I h
  obtain ⟨nm, q, N, bs, sn, sub, ab, col, dd, k0, k1, k2, k3, k5, hC⟩ := T.cls
  refine wpAny_Call_Name_kw (ld_glob I hg hm ?_ hdb)
  refine PySem.W.callWith_K (h₀ := X.base) I.ok.mod.kin T.kC (thn (ha.run pos pins s σ H _ I h) fun us s1 hh => ?_) he hpl
  obtain ⟨vs, H1, I1, r1, hz, q1⟩ := hh
  refine ⟨I1.kIn, ?_⟩
  show wpAny _ _ (call (.ref C) us) _ _ _
  obtain ⟨hp, g, dr, tk, os⟩ := s1
  have le1 : hp.objs.size ≤ hp.objs.size + 1 := Nat.le_succ _
  have hq := q1 (hp.objs.size + 1) (I1.hok.fresh le1)
  have grow : ∀ b o', hp.get? b = some o' → ((hp.push (PySem.W.kdv_tup us)).push (PySem.HandSPX.excO C hp.objs.size)).get? b = some o' := fun b o' z => Heap.get?_push_of_some _ (Heap.get?_push_of_some _ z)
  have got : ((hp.push (PySem.W.kdv_tup us)).push (PySem.HandSPX.excO C hp.objs.size)).get? (hp.objs.size + 1) = some (PySem.HandSPX.excO C hp.objs.size) := by heap_get
  have I2 := I1.laid (t' := tk) (a := hp.objs.size + 1) (o := exo (hp.objs.size + 1) C none) (h' := (hp.push (PySem.W.kdv_tup us)).push (PySem.HandSPX.excO C hp.objs.size)) grow le1 (exo_ok got)
  have r2 : Vals (V.ref (hp.objs.size + 1) :: (vs ++ dvs)) (Value.ref (hp.objs.size + 1) :: (us ++ ds)) := .cons rfl (r1.append hd)
  have hl : (Value.ref (hp.objs.size + 1) :: us ++ ds).length = ps.length := r2.length.symm.trans (F1.len _ _ _ _ hq)
  have hus : us.length ≤ sizeLine := by rw [← Paired.length r1, sizeLine_eq]; omega
  refine wpAny_call (PySem.HandSPX.call_own T.bf (fun _ => rfl) (I1.kIn _ _ hC) (PySem.W.looks_findIn I1.kIn iC) (fun self => PySem.W.bind_fn I1.kIn self tI) hus (codeAny_mono (F1.run _ X.stack _ _ ⟨Value.ref (hp.objs.size + 1) :: us, []⟩ (Value.ref (hp.objs.size + 1) :: (us ++ ds)) _ _ (fun _ _ _ => False)
    (hr.make C us []) (I2.env0.make C us []) (hb _ (Value.ref (hp.objs.size + 1) :: us) I2.kIn hl) r2 hq) fun r s' hq' => ?_))
  match r, hq' with
  | .error er, hq' => exact hx pins σ _ _ er s' I2 hq'
  | .ok .next, hq' => exact hq'.elim
  | .ok .brk, hq' => exact hq'.elim
  | .ok .cont, hq' => exact hq'.elim
  | .ok (.ret u), hq' =>
    obtain ⟨v, H2, os2, bare2, un2, hok2, rv, rfl, d, fs, ea, ed, hd1, q2⟩ := hq'
    obtain ⟨h2, g2, d2, t2, os'⟩ := s'
    exact ⟨rv, mk_end (raises_own T.exC T.tyC) I1 le1 grow un2 hok2 os2 bare2 ea ed hd1 q2⟩
end
end MM
namespace MM
open PySem PySem.Spec PySem.Calls PyProof.Rows L2
/-! ### str(x) of an instance with its own __str__ -/
def rStrO (C : Addr) (sp : Sp) (E : XK) : List V → Hp → VK → Prop := fun xs H Q => ∃ (a dx : Addr) (fs : List (Str × V)), xs = [.ref a] ∧ H a = some (.ins C dx fs) ∧ sp [.ref a] H (fun v H' => ∃ x : Str, v = .str x ∧ Q (.str x) H') E
section
variable {X : Cx} {CX : CXT} {k : Nat} {C f : Addr} {fd : FuncData} {ps : List Str} {sp : Sp} {E : XK}
theorem call_strO (F : FnOk X.prog X.w X.K X.mg X.base CX k f fd ps sp) (hs : PySem.W.findIn X.K (.ref C) "__str__" = some (some (.ref f))) (hf : PySem.W.isFn X.K (.ref f) = true) (hb : Binds X.K fd ps []) (hx : Passes CX X E) (hr : Room (k + 2) X.A) : CallR X (.type "str") (rStrO C sp E) := by
  intro pins s σ H xs us Q I r h
  obtain ⟨a, dx, fs, rfl, ha, hq⟩ := h
  obtain ⟨u, rfl, r1⟩ := vals1 r
  cases (show u = Value.ref a from r1)
  obtain ⟨mA, J, _⟩ := ins_get I.hok ha
  obtain ⟨od, J, _⟩ := J.look
  have hr1 : Room (k + 1) X.A.in1 := hr.in1
  have hr2 : Room k X.A.in1.in1 := hr1.in1
  have hl : ([Value.ref a] ++ []).length = ps.length := (show ([V.ref a] : List V).length = _ from F.len _ _ _ _ hq)
  refine PySem.W.kso_call hr2.units0 I.kIn J hs hf (wpAny_call (codeAny_mono (F.run X.A.in1.in1 X.stack s H ⟨[.ref a], []⟩ [.ref a] [.ref a] _ E hr2 I.env0.in1.in1 (hb s [.ref a] I.kIn hl) (.cons rfl .nil) hq) fun res s' hres => ?_))
  match res, hres with
  | .error er, hres => exact hx pins σ H s er s' I hres
  | .ok .next, hres => exact hres.elim
  | .ok .brk, hres => exact hres.elim
  | .ok .cont, hres => exact hres.elim
  | .ok (.ret u), hres =>
    obtain ⟨z, H', I', rz, x, rfl, q⟩ := I.after hres
    obtain ⟨t, rfl⟩ := rz
    exact ⟨.str x, H', I', ⟨t, rfl⟩, q⟩
/-- x == y by x's own __eq__, whatever y is -/
def rEqO (K : PySem.W.Frag) (C : Addr) (sp : Sp) (E : XK) : R2 := fun x y H Q => ∃ (a dx : Addr) (fs : List (Str × V)) (t : Value), x = .ref a ∧ H a = some (.ins C dx fs) ∧ TyX K H y t ∧ PySem.W.notFirst K C t = true ∧ sp [.ref a, y] H (fun v H' => ∃ b : Bool, v = .bl b ∧ Q (.bl b) H') E
theorem op_eqO (F : FnOk X.prog X.w X.K X.mg X.base CX k f fd ps sp) (hs : PySem.W.findIn X.K (.ref C) "__eq__" = some (some (.ref f))) (hf : PySem.W.isFn X.K (.ref f) = true) (hb : Binds X.K fd ps []) (hx : Passes CX X E) (hr : Room k X.A) : OpR X (compareOp .Eq) (rEqO X.K C sp E) := by
  intro pins s σ H x y v u Q I rx ry h
  obtain ⟨a, dx, fs, t, rfl, ha, ty, nf, hq⟩ := h
  cases (show v = Value.ref a from rx)
  obtain ⟨mA, J, _⟩ := ins_get I.hok ha
  obtain ⟨od, J, _⟩ := J.look
  obtain ⟨P, kx, hP, _⟩ := kit_of I ry ty
  obtain ⟨m, fr⟩ := I.fr
  have hl : ([Value.ref a, u] ++ []).length = ps.length := (show ([V.ref a, y] : List V).length = _ from F.len _ _ _ _ hq)
  show wpAny (model X.prog X.w) X.A (richCompare .Eq (.ref a) u) _ _ s
  refine PySem.W.cmp_K (op := .Eq) hr.units0 fr I.ok.mod.kin J (kx.ty _ _ I.kIn hP) nf hs hf (wpAny_call (codeAny_mono (F.run X.A X.stack s H ⟨[.ref a, u], []⟩ [.ref a, u] [.ref a, y] _ E hr I.env0 (hb s [.ref a, u] I.kIn hl) (.cons rfl (.cons ry .nil)) hq) fun res s' hres => ?_))
  match res, hres with
  | .error er, hres => exact hx pins σ H s er s' I hres
  | .ok .next, hres => exact hres.elim
  | .ok .brk, hres => exact hres.elim
  | .ok .cont, hres => exact hres.elim
  | .ok (.ret z0), hres =>
    obtain ⟨z, H', I', rz, b, rfl, q⟩ := I.after hres
    cases (show z0 = Value.bool b from rz)
    exact ⟨.bl b, H', I', rfl, q⟩
end
end MM
namespace MM
open PySem PySem.Spec PyProof.Rows L2
/-! ### sep.join(reversed(xs)) -/
theorem strs_of : ∀ {zs : List Str} {l : List Value}, Vals (zs.map V.str) l → StrsAre l zs
  | [], _, h => by
    cases h
    exact .nil
  | z :: zs, _, h => by
    cases h with
    | cons a r =>
      obtain ⟨t, rfl⟩ := a
      exact .cons z t (strs_of r)
section
variable {prog : Program} {w : World} {A : Around} {E : Value → Shared → Prop} {s : Shared}
theorem join_rev {x : Str} {t : Tok} {ys : List Str} {it l : Addr} {items : Array Value} {Q : Value → Shared → Prop} (hh : A.handled = none) (hit : s.heap.IsRevIter it l ((items.size : Int) - 1)) (hl : s.heap.IsList l items) (hne : l ≠ it) (hn : items.size ≤ sizeLine)
    (hP : ∀ acc : Array Value, ItemsOf (fun i v => items[items.size - 1 - i]? = some v) acc items.size → StrsAre acc.toList ys) (hok : (ys.map (·.length)).sum + ys.length * x.length ≤ 16777216)
    (hq : ∀ (h' : Heap) (t' : Tok) (k : Nat), (∀ b o, b ≠ it → s.heap.get? b = some o → h'.get? b = some o) → Q (.str (Txt.join x ys) t') { s with heap := h', toks := k }) :
    wpAny (model prog w) A (call (.builtin "str.join") [.str x t, .ref it]) Q E s := by
  refine wpAny_call (codeAny_call_builtin F.slot_str_join.plain F.entry_str_join (F.slot_str_join.check _ _ _ _ _ _ _ _ (typeIs_str _ _ _) (F.args_str_join_2 _ _) ?_))
  rw [join_tree_other]
  refine wpAny_bind (wpAny_typeOf (Heap.IsRevIter.typeIs hit) ?_)
  show wpAny _ A.in1 ((pyIter (.ref it)).tryCatch _ >>= fun i0 => collect i0 >>= fun c0 => joinTail x c0) _ _ s
  refine wpAny_bind (wpAny_tryCatch (wpAny_pyIter_revIter hit ?_))
  refine wpAny_bind (RT.collect_rev (A := A.in1) hh hit hl hne hn fun h' tk acc hk hacc => ?_)
  obtain ⟨l0, h0, e0⟩ := strsAre_values (hP acc hacc)
  subst e0
  rw [h0]
  have fit := joinOk_of hok
  unfold JoinOk at fit
  rw [Bool.not_eq_true'] at fit
  have g : Gives (joinTail x (strValues l0)) (joinMade x l0) := by
    have g0 := gives_joinTail x l0 fit
    rcases l0 with _ | ⟨p, _ | ⟨q, r⟩⟩ <;> exact g0
  exact g prog w A (wants Q E) _ (post_join l0 ⟨joinFit_length fit, fun t' k => hq h' t' k hk⟩)
end
section
variable {X : Cx}
def tJoinRev (K : PySem.W.Frag) (to te : TE) : TE := fun σ H Q => to σ H fun x H1 => (∃ a, x = .str a) ∧ te σ H1 fun v H2 => ∃ (a : Str) (q : Addr) (ys : List Str), x = .str a ∧ v = .ref q ∧ SqL K H2 q (ys.map V.str) ∧ (ys.reverse.map (·.length)).sum + ys.reverse.length * a.length ≤ 16777216 ∧ Q (.str (Txt.join a ys.reverse)) H2
theorem pe_joinRev {o e : Expr} {to te : TE} {apos pos p pos2 : Pos} (hc : X.calm = true) (ho : PE X o to) (hg : Gl X "reversed") (hm : X.mg "reversed" = none) (he : PE X e te)
    (hs1 : starEach [.Call (.Name "reversed" p) [e] [] pos2] X.env = [(false, eval (.Call (.Name "reversed" p) [e] [] pos2) X.env)] := by rfl) (hs : starEach [e] X.env = (false, eval e X.env) :: starEach [] X.env := by rfl)
    (hbase : attributeBase o "join" X.env (eval o X.env) = eval o X.env := by rfl) (hline : (apos.endLine == pos.line) = true := by rfl) :
    PE X (.Call (.Attribute o "join" apos) [.Call (.Name "reversed" p) [e] [] pos2] [] pos) (tJoinRev X.K to te) := by
  refine ⟨fun pins s σ H Q I h => ?_⟩
  refine PySem.Call_method1 hbase hs1 hline (thn (ho.run pins s σ H _ I h) fun v s1 hh => ?_)
  obtain ⟨x, H1, I1, r1, ⟨a, rfl⟩, q1⟩ := hh
  obtain ⟨t, rfl⟩ := _root_.id r1
  refine ⟨"str", _, F.plainAttrs_str, F.slot_str_join, F.type_str_join, typeIs_str _ _ _, (fun _ e => nomatch e), Calls.callWith_builtin rfl (Calls.evalArgs_plain (Calls.spliced_cons ?_))⟩
  refine Call_ (ld_blt I1 hg hm PyProof.Rows.boot_reversed (PyProof.Rows.callWith_type1 (args_cons (thn (he.run pins s1 σ H1 _ I1 q1) fun u s2 hh => args_nil ?_) hs) hs rfl))
  obtain ⟨v, H2, I2, r2, a', q, ys, ea, rfl, hq, hz, q2⟩ := hh
  cases ea
  cases (show u = Value.ref q from r2)
  obtain ⟨its, rv, p', hsz⟩ := I2.list hq
  refine call_reversed_list p'.isList ?_
  have grow : ∀ b o, s2.heap.get? b = some o → (s2.heap.push (revObj q ((its.toArray.size : Int) - 1))).get? b = some o := fun b o z => Heap.get?_push_of_some _ z
  have I3 : Inv X pins σ H2 { s2 with heap := s2.heap.push (revObj q ((its.toArray.size : Int) - 1)) } := I2.kept (t' := s2.toks) grow
  obtain ⟨f0, f1, f2, f3, f4, f5⟩ := I2.fpOk (H' := H2) (b := s2.heap.objs.size) (Nat.le_refl _) (I2.hok.fresh (Nat.le_refl _))
  have hl := p'.isList
  obtain ⟨ol, hol, _⟩ := _root_.id hl
  have hne : q ≠ s2.heap.objs.size := Nat.ne_of_lt (Heap.lt_size hol)
  have hn : its.toArray.size ≤ sizeLine := by rw [List.size_toArray, ← rv.length]; exact hsz
  refine Calls.spliced_nil ?_
  refine join_rev (s := { s2 with heap := s2.heap.push (revObj q ((its.toArray.size : Int) - 1)) }) (ys := ys.reverse) (I2.ok.hd hc) ⟨_, Heap.get?_push_size _ rfl, rfl, rfl⟩ (hl.push _) hne hn (fun acc hacc => strs_of ?_) hz fun h' t' k hk => ?_
  · rw [List.map_reverse]
    exact RT.vals_rev rv hacc
  · exact ⟨.str _, H2, I3.turned (t' := k) (fun b o hb z => hk b o hb z) f0 f1 f3 f4 f5, ⟨t', rfl⟩, q2⟩
end
end MM
namespace MM
open PySem PySem.Spec PySem.Calls PyProof.Rows L2
section
variable {X : Cx} {CX : CXT} {k j : Nat} {C : Addr} {qual : Str} {st : Stmt} {ps : List Str} {sp : Sp} {E : XK}
/-- x == y by the __eq__ of x's class -/
theorem op_eqC (c : Cm X.prog X.w X.K X.mg X.base CX k C "__eq__" qual st ps sp) (b : Bd "__eq__" qual st ps) (hx : Passes CX X E) (hr : Room j X.A) (hk : k ≤ j) : OpR X (compareOp .Eq) (rEqO X.K C sp E) := by
  obtain ⟨f, fd, F, M, hc, G⟩ := c.ex
  exact op_eqO G M.1 M.2 (F.bindsN b) hx (hr.mono hk)
theorem nf_self {K : PySem.W.Frag} {C : Addr} : PySem.W.notFirst K C (.ref C) = true := by
  unfold PySem.W.notFirst
  simp
end
end MM
namespace MM
open PySem PySem.Spec PyProof.Rows L2
theorem no' {A B : Prop} {b : Bool} (hb : b = false) (h : B) : if b = true then A else B := by
  subst hb
  exact iteF h
theorem upd_keep {H H1 : Hp} {D : Addr} {o : HO} (nD : H D = none) (s : Same H H1) : Same H (L2.upd H1 D o) := fun b u e => by
  rw [upd_ne (ne_of_none e nD)]
  exact s b u e
section
variable {J : It} {n : Nat} {G : Hp → Prop} {Y : Nat → Hp → V → Hp → Prop}
/-- a comprehension without a test whose i-th thing has Ps i -/
theorem lc_all (w : Walk J n G Y) (hY : ∀ i H x H', Y i H x H' → Same H H') {g : TG} {te : TE} {vs : List Nat} {σ : L2.St} {H : Hp} {D : Addr} {Qd : Hp → Prop} (nD : H D = none) (hn : n < sizeLine) (Ps : Nat → V → Hp → Prop)
    (hm : ∀ j v H1 H2, Same H1 H2 → Ps j v H1 → Ps j v H2) (hp : ∀ j v H1 acc acc', H1 D = some (.lst acc) → Ps j v H1 → Ps j v (L2.upd H1 D (.lst acc'))) (hG : ∀ H', Same H H' → G H')
    (hs : ∀ i x H1 H2 (R : V → Hp → Prop), i < n → Same H H1 → Y i H1 x H2 → (∀ v H3, Same H2 H3 → Ps i v H3 → R v H3) → g x (wipe σ vs) H2 fun σ2 H3 => wipe σ2 vs = wipe σ vs ∧ te σ2 H3 R)
    (hd : ∀ (us : List V) H', us.length = n → H' D = some (.lst us) → Same H H' → (∀ j v, us[j]? = some v → Ps j v H') → Qd H') :
    ∃ W : Nat → Nat → Hp → Prop, (∃ m, W 0 m (L2.upd H D (.lst []))) ∧ ∀ i m H, W i m H →
      (J.stop i H ∧ Qd H) ∨ (J.go i H ∧ ∃ Nx : Hp → Prop, (∀ H', Nx H' → ∃ m', m' < m ∧ W (i + 1) m' H') ∧ ∀ x H', J.yld i H x H' → g x (wipe σ vs) H' fun σ2 H2 => wipe σ2 vs = wipe σ vs ∧ tYes σ2 H2 fun b H3 =>
        if b = true then te σ2 H3 fun y H4 => ∃ acc, H4 D = some (.lst acc) ∧ acc.length < sizeLine ∧ Nx (L2.upd H4 D (.lst (acc ++ [y]))) else Nx H3) := by
  refine lc_it w (fun i H' => ∃ us : List V, us.length = i ∧ H' D = some (.lst us) ∧ Same H H' ∧ ∀ j v, us[j]? = some v → Ps j v H') ⟨[], rfl, upd_same, upd_keep nD (Same.refl H), fun j v h => by simp at h⟩ (fun i H' _ ⟨_, _, _, s, _⟩ => hG H' s) ?_ (fun H' ⟨us, l, e, s, p⟩ => hd us H' l e s p)
  rintro i x H1 H2 hi ⟨us, hl, e, s, p⟩ y
  refine hs i x H1 H2 _ hi s y fun v H3 s3 pv => ?_
  have s2 := hY _ _ _ _ y
  have e3 := s3 _ _ (s2 _ _ e)
  refine ⟨us, e3, by omega, us ++ [v], by rw [List.length_append, hl]; rfl, upd_same, upd_keep nD (s.trans (s2.trans s3)), fun j u hj => ?_⟩
  by_cases hjl : j < us.length
  · rw [List.getElem?_append_left hjl] at hj
    exact hp _ _ _ _ _ e3 (hm _ _ _ _ (s2.trans s3) (p j u hj))
  · rw [List.getElem?_append_right (by omega)] at hj
    have ej : j = us.length := by
      by_cases hz : j - us.length = 0
      · omega
      · have : ([v] : List V)[j - us.length]? = none := List.getElem?_eq_none_iff.mpr (by simp; omega)
        rw [this] at hj
        cases hj
    subst ej
    rw [Nat.sub_self] at hj
    cases hj
    rw [hl]
    exact hp _ _ _ _ _ e3 pv
/-- a comprehension whose i-th thing is the whole number f i -/
theorem lc_ints (w : Walk J n G Y) (hY : ∀ i H x H', Y i H x H' → Same H H') {g : TG} {te : TE} {vs : List Nat} {σ : L2.St} {H : Hp} {D : Addr} {Qd : Hp → Prop} (nD : H D = none) (hn : n < sizeLine) (f : Nat → Int) (hG : ∀ H', Same H H' → G H')
    (hs : ∀ i x H1 H2 (R : V → Hp → Prop), i < n → Same H H1 → Y i H1 x H2 → (∀ H3, Same H2 H3 → R (.int (f i)) H3) → g x (wipe σ vs) H2 fun σ2 H3 => wipe σ2 vs = wipe σ vs ∧ te σ2 H3 R)
    (hd : ∀ H', H' D = some (.lst (((List.range n).map f).map V.int)) → Same H H' → Qd H') :
    ∃ W : Nat → Nat → Hp → Prop, (∃ m, W 0 m (L2.upd H D (.lst []))) ∧ ∀ i m H, W i m H →
      (J.stop i H ∧ Qd H) ∨ (J.go i H ∧ ∃ Nx : Hp → Prop, (∀ H', Nx H' → ∃ m', m' < m ∧ W (i + 1) m' H') ∧ ∀ x H', J.yld i H x H' → g x (wipe σ vs) H' fun σ2 H2 => wipe σ2 vs = wipe σ vs ∧ tYes σ2 H2 fun b H3 =>
        if b = true then te σ2 H3 fun y H4 => ∃ acc, H4 D = some (.lst acc) ∧ acc.length < sizeLine ∧ Nx (L2.upd H4 D (.lst (acc ++ [y]))) else Nx H3) := by
  refine lc_all w hY nD hn (fun i v _ => v = .int (f i)) (fun _ _ _ _ _ h => h) (fun _ _ _ _ _ _ h => h) hG (fun i x H1 H2 R hi s y k => hs i x H1 H2 R hi s y fun H3 s3 => k _ H3 s3 rfl) fun us H' l e s p => ?_
  have eu : us = ((List.range n).map f).map V.int := by
    refine List.ext_getElem? fun j => ?_
    by_cases hj : j < us.length
    · have h1 := List.getElem?_eq_getElem hj
      rw [h1, p j _ h1]
      rw [List.getElem?_map, List.getElem?_map, List.getElem?_range (by omega)]
      rfl
    · rw [List.getElem?_eq_none_iff.mpr (by omega), List.getElem?_eq_none_iff.mpr (by simp; omega)]
  subst eu
  exact hd H' e s
end
theorem yFn_same {f : Nat → V} : ∀ i H x H', YFn f i H x H' → Same H H' := fun _ _ _ _ h => by rw [h.1]; exact Same.refl _
theorem yAt_same {xs : List V} : ∀ i H x H', YAt xs i H x H' → Same H H' := fun _ _ _ _ h => by rw [h.1]; exact Same.refl _
theorem yPair_same {xs ys : Nat → Option V} : ∀ i H x H', YPair xs ys i H x H' → Same H H' := by
  rintro i H x H' ⟨T, a, b, rfl, nT, rfl, _⟩
  exact upd_keep nT (Same.refl H)
/-! ### lists of whole numbers, compared -/
theorem dps_ints {K : PySem.W.Frag} {H : Hp} : ∀ ns : List Int, DpAll K H (ns.map V.int) (ns.map PyData.int)
  | [] => .nil
  | n :: ns => .cons (.int n) (dps_ints ns)
theorem dp_ints {K : PySem.W.Frag} {H : Hp} {a : Addr} {ns : List Int} (h : H a = some (.lst (ns.map V.int))) : Dp K H (.ref a) (.list (ns.map PyData.int)) := .lst (SqL.of h) (dps_ints ns)
theorem lay_ints : ∀ ns : List Int, PyData.canLayAll0 (ns.map PyData.int) = true
  | [] => rfl
  | n :: ns => by
    rw [List.map_cons, PyData.canLayAll0, lay_ints ns]
    rfl
theorem dep_ints : ∀ ns : List Int, PyData.depthAll (ns.map PyData.int) ≤ 1
  | [] => by simp [PyData.depthAll]
  | n :: ns => by
    have h := dep_ints ns
    simp only [List.map_cons, PyData.depthAll, PyData.depth]
    omega
theorem sh_ints (ns : List Int) : SeqAt.shaped (.list (ns.map PyData.int)) = true := by
  have h := dep_ints ns
  show (PyData.canLay0 (.list (ns.map PyData.int)) && decide (PyData.depth (.list (ns.map PyData.int)) ≤ 64)) = true
  rw [Bool.and_eq_true]
  refine ⟨by simp only [PyData.canLay0]; exact lay_ints ns, decide_eq_true ?_⟩
  simp only [PyData.depth]
  omega
theorem eqv_intL (ns : List Int) : PyData.eqv (.list (ns.map PyData.int)) (.list (ns.map PyData.int)) = true := SeqAt.eqv_refl _ (by simp only [PyData.canLay0]; exact lay_ints ns)
/-! ### steps from each to the next -/
def stp (f : Nat → Int) (n : Nat) : List Int := (List.range n).map fun i => f (i + 1) - f i
theorem stp_sum (f : Nat → Int) : ∀ n, (stp f n).sum = f n - f 0
  | 0 => by simp [stp]
  | n + 1 => by
    have h := stp_sum f n
    unfold stp at *
    rw [List.range_succ, List.map_append, List.sum_append, h]
    simp
    omega
end MM
namespace MM
open PySem PySem.Spec PySem.Calls PyProof.Rows L2
/-! ### x != y where the class has an own __eq__ and no __ne__ -/
section
variable {prog : Program} {w : World} {A : Around} {E : Value → Shared → Prop} {s : Shared} {K : PySem.W.Frag} {x C L f : Addr} {h₀ : Heap} {m : Str → Option Value} {ox : Obj} {od : Option Obj} {name : Str} {b tb : Value}
theorem ifBound_B {M : Model} {id : String} {args : List Value} {Q : Option Value → Shared → Prop} (X : K.In s.heap) (I : PySem.W.InstAt s.heap x ox C od) (hs : PySem.W.findIn K (.ref C) name = some (some (.builtin id))) (S : Slot "object" name id)
    (h : wpAny M A (call (.builtin id) (.ref x :: args)) (fun v => Q (some v)) E s) : wpAny M A (callSpecialIfBound? (.ref x) name args) Q E s := by
  simp only [callSpecialIfBound?, bindSpecialIfBound?]
  refine wpAny_holding (wpAny_bind (wpAny_bind (wpAny_bind (I.type.here ((PySem.W.looks_findIn X hs).here ?_)))))
  simp only [S.bind]
  refine wpAny_bind (wpAny_askSetting (wpAny_ite ?_))
  have fin : wpAny M A (call (.builtin id) ([.ref x] ++ args) >>= fun v => pure (some v)) Q E s := wpAny_bind (wpAny_mono h (fun v s' h' => wpAny_pure h') fun _ _ h' => h')
  split
  · exact wpAny_bind (wpAny_pure (wpAny_pure fin))
  · exact wpAny_tryCatch (wpAny_bind (wpAny_pure (wpAny_pure fin)))
theorem objNe_own {Q : Fin → Shared → Prop} (X : K.In s.heap) (I : PySem.W.InstAt s.heap x ox C od) (hs : PySem.W.findIn K (.ref C) "__eq__" = some (some (.ref f))) (hf : PySem.W.isFn K (.ref f) = true) (hu : A.units < cLine)
    (hcall : wpAny (model prog w) A (call (.ref f) [.ref x, b]) (fun v s' => ∃ r, v = .bool r ∧ Q (.done (.ret (.bool (!r)))) s') E s) :
    wpAny (model prog w) A (Builtin.«object.__ne__» ⟨[.ref x, b], []⟩) Q E s := by
  obtain ⟨h, g, d, t, os⟩ := s
  unfold Builtin.«object.__ne__»
  repeat (first
    | with_reducible refine wpAny_cRoomFor hu ?_
    | (refine wpAny_bind (m := callSpecialIfBound? (.ref x) (Str.ofString "__eq__") [b])
        (PySem.W.ifBound_K X I hs hf (wpAny_mono hcall (fun r s' hr => by
          obtain ⟨b, rfl, hq⟩ := hr
          repeat (first | exact hq | exact wpAny_pure hq | exact wpAny_truthy_bool hq | (refine wpAny_bind (m := truthy (.bool _)) (wpAny_truthy_bool ?_)) | wp_step)) fun _ _ e => e)))
    | wp_step)
/-- what the written part says of such a class -/
structure NeT (K : PySem.W.Frag) (C : Addr) : Prop where
  ne : PySem.W.findIn K (.ref C) "__ne__" = some (some (.builtin "object.__ne__"))
  cls : ∃ nm q N bs hd sn sub ab col dd k0 k1 k2 k3 k5 nw, K.lookup C = some (excClassObj nm q C N bs [.type "object"] hd sn sub ab col dd k0 k1 k2 k3 k5 nw)
theorem ne_K {Q : Value → Shared → Prop} (T : NeT K C) (hu : A.units + 1 < cLine) (F : Fr h₀ L s.heap m) (X₀ : K.In h₀) (I : PySem.W.InstAt s.heap x ox C od) (hb : PySem.W.Looks (model prog w) s.heap (typeOf b) tb) (hn : PySem.W.notFirst K C tb = true)
    (hs : PySem.W.findIn K (.ref C) "__eq__" = some (some (.ref f))) (hf : PySem.W.isFn K (.ref f) = true)
    (h : wpAny (model prog w) A.in1 (call (.ref f) [.ref x, b]) (fun v s' => ∃ r, v = .bool r ∧ Q (.bool (!r)) s') E s) : wpAny (model prog w) A (richCompare .NotEq (.ref x) b) Q E s := by
  have X := X₀.keeps F.keep
  obtain ⟨nm, q, N, bs, hd, sn, sub, ab, col, dd, k0, k1, k2, k3, k5, nw, hC⟩ := T.cls
  have one : wpAny (model prog w) A (tryCompare (.ref x) "__ne__" b) (fun r s' => ∃ v, r = some v ∧ Q v s') E s := by
    unfold tryCompare
    obtain ⟨hp, g, d, t, os⟩ := s
    refine wpAny_bind (ifBound_B X I T.ne PySem.F.cmp_object.ne (wpAny_call (codeAny_call_builtin PySem.F.cmp_object.ne.plain PySem.F.cmpEntry_ne (wpAny_check_slot_inst PySem.F.cmpKind_ne PySem.F.cmpSplit_ne (PySem.F.cmpArgs_ne _ _) PySem.F.cmp_object.hasObject I.at_ I.cls (X _ _ hC) (objNe_own (A := A.in1) X I hs hf hu (wpAny_mono h (fun v s' hv => ?_) fun _ _ e => e))))))
    obtain ⟨r, rfl, hq⟩ := hv
    first | exact ⟨r, rfl, wpAny_pure ⟨_, rfl, hq⟩⟩ | exact ⟨r, rfl, wpAny_pure (wpAny_pure ⟨_, rfl, hq⟩)⟩ | exact ⟨r, rfl, ⟨_, rfl, hq⟩⟩
  unfold richCompare
  simp only [oneThing_ref]
  refine wpAny_holding (wpAny_bind (wpAny_cRoomFor (Nat.lt_of_succ_lt hu) ?_))
  refine wpAny_bind (I.type.here (wpAny_bind (hb.here ?_)))
  split
  · rename_i q
    have e : PySem.W.subIn K tb (.ref C) = some false := by
      rcases Bool.or_eq_true_iff.mp hn with e | e
      · rw [beq_iff_eq.mp e] at q
        simp at q
      · exact beq_iff_eq.mp e
    refine wpAny_bind ((PySem.W.looks_subIn X e).here ?_)
    simp only [Bool.false_eq_true, if_false]
    refine wpAny_bind (wpAny_mono one (fun r s' z => ?_) fun _ _ e => e)
    obtain ⟨v, rfl, hq⟩ := z
    exact wpAny_pure hq
  · refine wpAny_bind (wpAny_pure ?_)
    simp only [Bool.false_eq_true, if_false]
    refine wpAny_bind (wpAny_mono one (fun r s' z => ?_) fun _ _ e => e)
    obtain ⟨v, rfl, hq⟩ := z
    exact wpAny_pure hq
end
section
variable {X : Cx} {CX : CXT} {k j : Nat} {C f : Addr} {fd : FuncData} {qual : Str} {st : Stmt} {ps : List Str} {sp : Sp} {E : XK}
def rNeO (K : PySem.W.Frag) (C : Addr) (sp : Sp) (E : XK) : R2 := fun x y H Q => ∃ (a dx : Addr) (fs : List (Str × V)) (t : Value), x = .ref a ∧ H a = some (.ins C dx fs) ∧ TyX K H y t ∧ PySem.W.notFirst K C t = true ∧ sp [.ref a, y] H (fun v H' => ∃ b : Bool, v = .bl b ∧ Q (.bl (!b)) H') E
theorem op_neO (T : NeT X.K C) (F : FnOk X.prog X.w X.K X.mg X.base CX k f fd ps sp) (hs : PySem.W.findIn X.K (.ref C) "__eq__" = some (some (.ref f))) (hf : PySem.W.isFn X.K (.ref f) = true) (hb : Binds X.K fd ps []) (hx : Passes CX X E) (hr : Room (k + 1) X.A) : OpR X (compareOp .NotEq) (rNeO X.K C sp E) := by
  intro pins s σ H x y v u Q I rx ry h
  obtain ⟨a, dx, fs, t, rfl, ha, ty, nf, hq⟩ := h
  cases (show v = Value.ref a from rx)
  obtain ⟨mA, J, _⟩ := ins_get I.hok ha
  obtain ⟨od, J, _⟩ := J.look
  obtain ⟨P, kx, hP, _⟩ := kit_of I ry ty
  obtain ⟨m, fr⟩ := I.fr
  have hl : ([Value.ref a, u] ++ []).length = ps.length := (show ([V.ref a, y] : List V).length = _ from F.len _ _ _ _ hq)
  have hr1 : Room k X.A.in1 := hr.in1
  have hun : X.A.units + 1 < cLine := by
    have := hr.un
    omega
  show wpAny (model X.prog X.w) X.A (richCompare .NotEq (.ref a) u) _ _ s
  refine ne_K T hun fr I.ok.mod.kin J (kx.ty _ _ I.kIn hP) nf hs hf (wpAny_call (codeAny_mono (F.run X.A.in1 X.stack s H ⟨[.ref a, u], []⟩ [.ref a, u] [.ref a, y] _ E hr1 I.env0.in1 (hb s [.ref a, u] I.kIn hl) (.cons rfl (.cons ry .nil)) hq) fun res s' hres => ?_))
  match res, hres with
  | .error er, hres => exact hx pins σ H s er s' I hres
  | .ok .next, hres => exact hres.elim
  | .ok .brk, hres => exact hres.elim
  | .ok .cont, hres => exact hres.elim
  | .ok (.ret z0), hres =>
    obtain ⟨z, H', I', rz, b, rfl, q⟩ := I.after hres
    cases (show z0 = Value.bool b from rz)
    exact ⟨b, rfl, .bl (!b), H', I', rfl, q⟩
theorem op_neC (T : NeT X.K C) (c : Cm X.prog X.w X.K X.mg X.base CX k C "__eq__" qual st ps sp) (b : Bd "__eq__" qual st ps) (hx : Passes CX X E) (hr : Room j X.A) (hk : k + 1 ≤ j) : OpR X (compareOp .NotEq) (rNeO X.K C sp E) := by
  obtain ⟨f, fd, F, M, hc, G⟩ := c.ex
  exact op_neO T G M.at_ M.fn (F.bindsN b) hx (hr.mono hk)
end
end MM
namespace MM
open PySem PySem.Spec PyProof.Rows L2
theorem hu65 {k : Nat} {A : Around} (r : Room k A) : A.units + 65 < cLine := by
  have := r.un
  omega
section
variable {X : Cx}
/-- sum(t) of a tuple of whole numbers -/
def rSumT (K : PySem.W.Frag) : List V → Hp → VK → Prop := fun vs H Q => ∃ (a : Addr) (ns : List Int), vs = [V.ref a] ∧ SqT K H a (ns.map V.int) ∧ Q (.int ns.sum) H
theorem cr_sumT (hc : X.calm = true) : CallR X (.builtin "sum") (rSumT X.K) := by
  intro pins s σ H vs us Q I r h
  obtain ⟨a, ns, rfl, hs, q⟩ := h
  obtain ⟨its, rv, hl, _⟩ := I.tuple hs
  rw [Vals.ref1 r]
  have hi := rv.ints
  obtain ⟨xs, hx⟩ := hi.allInts.items
  have hn : numsOf its.toArray.toList = ns := by rw [show its.toArray.toList = its from rfl, hi.numsOf]
  have hl : s.heap.IsTuple a its.toArray := hl
  rw [hx] at hl hn
  rw [nums_intItems] at hn
  refine PySem.W.ktm_sumG (I.ok.hd hc) hl fun h' tk t' hk => ⟨.int _, H, I.kept hk, ⟨_, rfl⟩, ?_⟩
  rw [preSum_eq, List.take_of_length_le (by simp), hn]
  exact q
end
/-! ### data of rows of whole numbers -/
def tupD (ns : List Int) : PyData := .tuple (ns.map PyData.int)
theorem dp_tup {K : PySem.W.Frag} {H : Hp} {a : Addr} {ns : List Int} (h : H a = some (.tup (ns.map V.int))) : Dp K H (.ref a) (tupD ns) := .tup (SqT.of h) (dps_ints ns)
theorem lay_tups : ∀ zs : List (List Int), PyData.canLayAll0 (zs.map tupD) = true
  | [] => rfl
  | z :: zs => by
    rw [List.map_cons, PyData.canLayAll0, lay_tups zs, tupD, PyData.canLay0, lay_ints]
    rfl
theorem dep_tups : ∀ zs : List (List Int), PyData.depthAll (zs.map tupD) ≤ 3
  | [] => by simp [PyData.depthAll]
  | z :: zs => by
    have h := dep_tups zs
    have h2 := dep_ints z
    simp only [List.map_cons, PyData.depthAll, tupD, PyData.depth]

    omega
theorem sh_tups (zs : List (List Int)) : SeqAt.shaped (.list (zs.map tupD)) = true := by
  have h := dep_tups zs
  show (PyData.canLay0 (.list (zs.map tupD)) && decide (PyData.depth (.list (zs.map tupD)) ≤ 64)) = true
  rw [Bool.and_eq_true]
  refine ⟨by simp only [PyData.canLay0]; exact lay_tups zs, decide_eq_true ?_⟩
  simp only [PyData.depth]
  omega
theorem sh_tup (ns : List Int) : SeqAt.shaped (tupD ns) = true := by
  have h := dep_ints ns
  show (PyData.canLay0 (tupD ns) && decide (PyData.depth (tupD ns) ≤ 64)) = true
  rw [Bool.and_eq_true]
  refine ⟨by simp only [tupD, PyData.canLay0]; exact lay_ints ns, decide_eq_true ?_⟩
  simp only [tupD, PyData.depth]
  omega
theorem eqv_tup (ns : List Int) : PyData.eqv (tupD ns) (tupD ns) = true := SeqAt.eqv_refl _ (by simp only [tupD, PyData.canLay0]; exact lay_ints ns)
/-- a list whose things are the rows zs -/
def Rows (H : Hp) (us : List V) (zs : List (List Int)) : Prop := us.length = zs.length ∧ ∀ (j : Nat) (u : V), us[j]? = some u → ∃ (q : Addr) (z : List Int), u = .ref q ∧ zs[j]? = some z ∧ H q = some (.tup (z.map V.int))
theorem Rows.same {H H1 : Hp} {us : List V} {zs : List (List Int)} (h : Rows H us zs) (s : Same H H1) : Rows H1 us zs := ⟨h.1, fun j u hu => by
  obtain ⟨q, z, e1, e2, e3⟩ := h.2 j u hu
  exact ⟨q, z, e1, e2, s _ _ e3⟩⟩
theorem Rows.dps {K : PySem.W.Frag} {H : Hp} : ∀ {us : List V} {zs : List (List Int)}, Rows H us zs → DpAll K H us (zs.map tupD)
  | [], [], _ => .nil
  | [], _ :: _, h => by have := h.1; simp at this
  | _ :: _, [], h => by have := h.1; simp at this
  | u :: us, z :: zs, h => by
    obtain ⟨q, z', rfl, e2, e3⟩ := h.2 0 u rfl
    cases e2
    refine .cons (dp_tup e3) (Rows.dps ⟨by have := h.1; simpa using this, fun j v hv => h.2 (j + 1) v (by simpa using hv)⟩)
theorem Rows.dp {K : PySem.W.Frag} {H : Hp} {a : Addr} {us : List V} {zs : List (List Int)} (h : Rows H us zs) (e : H a = some (.lst us)) : Dp K H (.ref a) (.list (zs.map tupD)) := .lst (SqL.of e) h.dps
theorem any_row {zs : List (List Int)} {z : List Int} (h : z ∈ zs) : ((zs.map tupD).any fun d => PyData.eqv d (tupD z)) = true := List.any_eq_true.mpr ⟨tupD z, List.mem_map.mpr ⟨z, h, rfl⟩, eqv_tup z⟩
end MM
namespace MM
open PySem PySem.Spec PyProof.Rows L2
/-! ### calls that may raise, the names as they stand at the call -/
section
variable {X : Cx} {k j : Nat} {f : Addr} {fd : FuncData} {ps ks : List Str} {sp : Sp} {dvs : List V} {ds : List Value} {x : Str} {st : Stmt} {p pos : Pos} {e : Expr} {es : List Expr} {kws : List Keyword} {t tk : TA} {W : WX}
theorem run_fnS {pins : List (Addr × Obj)} {σ : L2.St} {H : Hp} {s : Shared} {Q : VK} {us : List Value} {vs : List V} (F : FnOk X.prog X.w X.K X.mg X.base (L2.CX X.prog X.w) k f fd ps sp) (hr : Room k X.A) (hb : Binds X.K fd ps ds) (hd : Vals dvs ds) (ht : Takes X W)
    (I : Inv X pins σ H s) (r : Vals vs us) (h : sp (vs ++ dvs) H Q (fun c d H' => W c d σ H')) : wpAny (model X.prog X.w) X.A (call (.ref f) us) (EP X pins σ Q) X.xe s := by
  have r2 : Vals (vs ++ dvs) (us ++ ds) := r.append hd
  have hl : (us ++ ds).length = ps.length := by rw [← r2.length]; exact F.len _ _ _ _ h
  refine wpAny_call (codeAny_mono (F.run X.A X.stack s H ⟨us, []⟩ (us ++ ds) (vs ++ dvs) Q _ hr I.env0 (hb s us I.kIn hl) r2 h) fun r s' hq => ?_)
  match r, hq with
  | .error e, hq => exact ht e s' (XE.of_call I (fun _ _ _ z => z) hq)
  | .ok (.ret u), hq => exact I.after hq
  | .ok .next, hq => exact False.elim hq
  | .ok .brk, hq => exact False.elim hq
  | .ok .cont, hq => exact False.elim hq
theorem pe_caS (c : Ca X.prog X.w X.K X.mg X.base (L2.CX X.prog X.w) k x st [] ps sp) (b : Bd x x st ps) (hr : Room j X.A) (hk : k ≤ j) (ht : Takes X W) (hg : Gl X x) (ha : PA X (e :: es) t)
    (hdb : (x == ("__debug__" : Str)) = false := by decide) (he : starEach (e :: es) X.env = (false, eval e X.env) :: starEach es X.env := by rfl) (hpl : (backTo pos (starEach es X.env)).any (·.1) = false := by rfl) :
    PE X (.Call (.Name x p) (e :: es) [] pos) (fun σ H Q => t σ H fun vs H1 => sp (vs ++ []) H1 Q (fun c d H' => W c d σ H')) := by
  obtain ⟨f, fd, F, hm, G⟩ := c.ex
  refine ⟨fun pins s σ H Q I h => ?_⟩
  refine wpAny_Call_Name_kw (ld_glob I hg hm ?_ hdb)
  refine PySem.W.callWith_K (h₀ := X.base) I.ok.mod.kin F.kp (thn (ha.run pos pins s σ H _ I h) fun us s1 ⟨vs, H1, I1, r, q⟩ => ⟨I1.kIn, ?_⟩) he hpl
  exact run_fnS G (hr.mono hk) (F.bindsN b) .nil ht I1 r q
theorem pe_caKS {g : {α : Type} → List α → List α → List α} (c : Ca X.prog X.w X.K X.mg X.base (L2.CX X.prog X.w) k x st [] ps sp) (b : Kb x st 0 ks ps g) (hr : Room j X.A) (hk : k ≤ j) (ht : Takes X W) (hg : Gl X x) (hkw : PK X kws tk)
    (hall : (backToKw pos (keywordEach kws X.env)).all (·.1.isSome) = true := by rfl) (hks : (backToKw pos (keywordEach kws X.env)).filterMap (·.1) = ks := by rfl) (hdb : (x == ("__debug__" : Str)) = false := by decide)
    (hpl : ((backTo pos (starEach [] X.env)).any (·.1) || (backToKw pos (keywordEach kws X.env)).any (·.1.isNone)) = false := by rfl) :
    PE X (.Call (.Name x p) [] kws pos) (fun σ H Q => tk σ H fun zs H2 => zs.length = ks.length ∧ sp (g [] zs) H2 Q (fun c d H' => W c d σ H')) := by
  obtain ⟨f, fd, F, hm, G⟩ := c.ex
  obtain ⟨kV, doc, pm, an, cdv, ct, rfl⟩ := FunD.none F
  refine ⟨fun pins s σ H Q I h => ?_⟩
  refine wpAny_Call_Name_kw (ld_glob I hg hm ?_ hdb)
  refine PySem.W.callWith_KW0 (h₀ := X.base) I.ok.mod.kin F.kp hall ?_ hpl
  refine thn (hkw.run pos pins s σ H _ I h) fun ws s2 ⟨zs, H2, I2, rz, l2, q2⟩ => ⟨I2.kIn, ?_⟩
  rw [hks]
  have r2 : Vals (g [] zs) (g [] ws) := b.rel rfl l2 .nil rz
  refine wpAny_call (codeAny_mono (G.run X.A X.stack s2 H2 ⟨[], ks.zip ws⟩ (g [] ws) (g [] zs) Q _ (hr.mono hk) I2.env0 (.of_eq (b.bind kV doc pm an cdv ct [] ws rfl (rz.length.symm.trans l2))) r2 q2) fun r s' hq => ?_)
  match r, hq with
  | .error e, hq => exact ht e s' (XE.of_call I2 (fun _ _ _ z => z) hq)
  | .ok (.ret u), hq => exact I2.after hq
  | .ok .next, hq => exact False.elim hq
  | .ok .brk, hq => exact False.elim hq
  | .ok .cont, hq => exact False.elim hq
end
end MM
namespace MM
open PySem PySem.Spec PyProof.Rows L2
/-! ### calls of a def with defaults, which may raise -/
/-- how f(.., k = v, ..) binds where f has defaults -/
structure Kdf (x : Str) (st : Stmt) (dn n : Nat) (ks ps : List Str) (g : {α : Type} → List α → List α → List α → List α) : Prop where
  bind : ∀ (T : Addr) (kV doc pm : Value) (an : Option Addr) (cdv ct : Value) (us its ws : List Value), us.length = n → its.length = dn → ws.length = ks.length →
    ∃ k, bindArgs (PySem.W.fnOf x x (defArgs st) (defBody st) (defScope st) (.ref T) kV doc pm an cdv ct) ⟨us, ks.zip ws⟩ = seqItems? (.ref T) >>= k ∧ k (some its.toArray) = pure (ps.zip (g us its ws))
  rel : ∀ {vs ds zs : List V} {us its ws : List Value}, Vals vs us → Vals ds its → Vals zs ws → Vals (g vs ds zs) (g us its ws)
theorem op_eqDK {X : Cx} {K : PySem.W.Frag} (hK : X.K = K) (hu : X.A.units + 64 < cLine) : OpR X (compareOp .Eq) (rEqD K) := by
  subst hK
  exact op_eqD hu
section
variable {X : Cx} {k j n d : Nat} {f : Addr} {fd : FuncData} {ps ks : List Str} {sp : Sp} {dvs : List V} {x : Str} {st : Stmt} {p pos : Pos} {e : Expr} {es : List Expr} {kws : List Keyword} {t tk : TA} {W : WX}
/-- f(e, ..): n values, the defaults from the d-th on -/
theorem pe_caDS (c : Ca X.prog X.w X.K X.mg X.base (L2.CX X.prog X.w) k x st dvs ps sp) (b : Bd1 x x st ps n d dvs.length) (hd : dvs ≠ []) (hn : n + (dvs.length - d) = ps.length) (hr : Room j X.A) (hk : k ≤ j) (ht : Takes X W) (hg : Gl X x) (ha : PA X (e :: es) t)
    (hdb : (x == ("__debug__" : Str)) = false := by decide) (he : starEach (e :: es) X.env = (false, eval e X.env) :: starEach es X.env := by rfl) (hpl : (backTo pos (starEach es X.env)).any (·.1) = false := by rfl) :
    PE X (.Call (.Name x p) (e :: es) [] pos) (fun σ H Q => t σ H fun vs H1 => sp (vs ++ dvs.drop d) H1 Q (fun c d H' => W c d σ H')) := by
  obtain ⟨f, fd, F, hm, G⟩ := c.ex
  obtain ⟨ds, r, bb⟩ := F.binds1 n d hd hn b
  refine ⟨fun pins s σ H Q I h => ?_⟩
  refine wpAny_Call_Name_kw (ld_glob I hg hm ?_ hdb)
  refine PySem.W.callWith_K (h₀ := X.base) I.ok.mod.kin F.kp (thn (ha.run pos pins s σ H _ I h) fun us s1 ⟨vs, H1, I1, rv, q⟩ => ⟨I1.kIn, ?_⟩) he hpl
  exact run_fnS G (hr.mono hk) bb r ht I1 rv q
theorem run_fnkS {pins : List (Addr × Obj)} {σ : L2.St} {H : Hp} {s : Shared} {Q : VK} {us ws : List Value} {vs zs : List V} {g : List Value → List Value → List Value} {gV : List V → List V → List V} (F : FnOk X.prog X.w X.K X.mg X.base (L2.CX X.prog X.w) k f fd ps sp) (hr : Room k X.A) (hb : KBn X.K fd ps n ks g gV) (ht : Takes X W)
    (I : Inv X pins σ H s) (r : Vals vs us) (rz : Vals zs ws) (l1 : vs.length = n) (l2 : zs.length = ks.length) (h : sp (gV vs zs) H Q (fun c d H' => W c d σ H')) : wpAny (model X.prog X.w) X.A (call (.ref f) us (ks.zip ws)) (EP X pins σ Q) X.xe s := by
  have r2 := hb.rel r rz
  refine wpAny_call (codeAny_mono (F.run X.A X.stack s H ⟨us, ks.zip ws⟩ (g us ws) (gV vs zs) Q _ hr I.env0 (hb.to s us ws I.kIn (r.length.symm.trans l1) (rz.length.symm.trans l2)) r2 h) fun r s' hq => ?_)
  match r, hq with
  | .error e, hq => exact ht e s' (XE.of_call I (fun _ _ _ z => z) hq)
  | .ok (.ret u), hq => exact I.after hq
  | .ok .next, hq => exact False.elim hq
  | .ok .brk, hq => exact False.elim hq
  | .ok .cont, hq => exact False.elim hq
/-- f(e, .., k = v, ..) -/
theorem pe_caDK {g : {α : Type} → List α → List α → List α → List α} (c : Ca X.prog X.w X.K X.mg X.base (L2.CX X.prog X.w) k x st dvs ps sp) (b : Kdf x st dvs.length n ks ps g) (hd : dvs ≠ []) (hr : Room j X.A) (hk : k ≤ j) (ht : Takes X W) (hg : Gl X x) (ha : PA X (e :: es) t) (hkw : PK X kws tk)
    (hall : (backToKw pos (keywordEach kws X.env)).all (·.1.isSome) = true := by rfl) (hks : (backToKw pos (keywordEach kws X.env)).filterMap (·.1) = ks := by rfl) (hdb : (x == ("__debug__" : Str)) = false := by decide)
    (he : starEach (e :: es) X.env = (false, eval e X.env) :: starEach es X.env := by rfl) (hpl : ((backTo pos (starEach (e :: es) X.env)).any (·.1) || (backToKw pos (keywordEach kws X.env)).any (·.1.isNone)) = false := by rfl) :
    PE X (.Call (.Name x p) (e :: es) kws pos) (fun σ H Q => t σ H fun vs H1 => tk σ H1 fun zs H2 => vs.length = n ∧ zs.length = ks.length ∧ sp (g vs dvs zs) H2 Q (fun c d H' => W c d σ H')) := by
  obtain ⟨f, fd, F, hm, G⟩ := c.ex
  obtain ⟨its, hb⟩ := F.kbindsD n ks g hd b.rel b.bind
  refine ⟨fun pins s σ H Q I h => ?_⟩
  refine wpAny_Call_Name_kw (ld_glob I hg hm ?_ hdb)
  refine PySem.W.callWith_KW (h₀ := X.base) I.ok.mod.kin F.kp hall (thn (ha.run pos pins s σ H _ I h) fun us s1 ⟨vs, H1, I1, r, q⟩ => ?_) hpl he
  refine thn (hkw.run pos pins s1 σ H1 _ I1 q) fun ws s2 ⟨zs, H2, I2, rz, l1, l2, q2⟩ => ⟨I2.kIn, ?_⟩
  rw [hks]
  exact run_fnkS G (hr.mono hk) hb ht I2 r rz l1 l2 q2
/-- f(k = v, ..) -/
theorem pe_caDK0 {g : {α : Type} → List α → List α → List α → List α} (c : Ca X.prog X.w X.K X.mg X.base (L2.CX X.prog X.w) k x st dvs ps sp) (b : Kdf x st dvs.length 0 ks ps g) (hd : dvs ≠ []) (hr : Room j X.A) (hk : k ≤ j) (ht : Takes X W) (hg : Gl X x) (hkw : PK X kws tk)
    (hall : (backToKw pos (keywordEach kws X.env)).all (·.1.isSome) = true := by rfl) (hks : (backToKw pos (keywordEach kws X.env)).filterMap (·.1) = ks := by rfl) (hdb : (x == ("__debug__" : Str)) = false := by decide)
    (hpl : ((backTo pos (starEach [] X.env)).any (·.1) || (backToKw pos (keywordEach kws X.env)).any (·.1.isNone)) = false := by rfl) :
    PE X (.Call (.Name x p) [] kws pos) (fun σ H Q => tk σ H fun zs H2 => zs.length = ks.length ∧ sp (g [] dvs zs) H2 Q (fun c d H' => W c d σ H')) := by
  obtain ⟨f, fd, F, hm, G⟩ := c.ex
  obtain ⟨its, hb⟩ := F.kbindsD 0 ks g hd b.rel b.bind
  refine ⟨fun pins s σ H Q I h => ?_⟩
  refine wpAny_Call_Name_kw (ld_glob I hg hm ?_ hdb)
  refine PySem.W.callWith_KW0 (h₀ := X.base) I.ok.mod.kin F.kp hall ?_ hpl
  refine thn (hkw.run pos pins s σ H _ I h) fun ws s2 ⟨zs, H2, I2, rz, l2, q2⟩ => ⟨I2.kIn, ?_⟩
  rw [hks]
  exact run_fnkS (us := []) (vs := []) G (hr.mono hk) hb ht I2 .nil rz rfl l2 q2
end
end MM
namespace MM
open PySem PySem.Spec PyProof.Rows L2
/-! ### calls of a def with defaults, which never raises -/
/-- how f(.., k = v, ..) binds where f has defaults -/
structure Kdn (x : Str) (st : Stmt) (dn n : Nat) (ks ps : List Str) (g : {α : Type} → List α → List α → List α → List α) : Prop where
  bind : ∀ (T : Addr) (kV doc pm : Value) (an : Option Addr) (cdv ct : Value) (us its ws : List Value), us.length = n → its.length = dn → ws.length = ks.length →
    ∃ k, bindArgs (PySem.W.fnOf x x (defArgs st) (defBody st) (defScope st) (.ref T) kV doc pm an cdv ct) ⟨us, ks.zip ws⟩ = seqItems? (.ref T) >>= k ∧ k (some its.toArray) = pure (ps.zip (g us its ws))
  rel : ∀ {vs ds zs : List V} {us its ws : List Value}, Vals vs us → Vals ds its → Vals zs ws → Vals (g vs ds zs) (g us its ws)
section
variable {X : Cx} {CX : CXT} {k j n d : Nat} {f : Addr} {fd : FuncData} {ps ks : List Str} {sp : Sp} {dvs : List V} {x : Str} {st : Stmt} {p pos : Pos} {e : Expr} {es : List Expr} {kws : List Keyword} {t tk : TA} {E : XK}
/-- f(e, ..): n values, the defaults from the d-th on -/
theorem pe_caD (c : Ca X.prog X.w X.K X.mg X.base CX k x st dvs ps sp) (b : Bd1 x x st ps n d dvs.length) (hd : dvs ≠ []) (hn : n + (dvs.length - d) = ps.length) (hr : Room j X.A) (hk : k ≤ j) (hx : Passes CX X E) (hg : Gl X x) (ha : PA X (e :: es) t)
    (hdb : (x == ("__debug__" : Str)) = false := by decide) (he : starEach (e :: es) X.env = (false, eval e X.env) :: starEach es X.env := by rfl) (hpl : (backTo pos (starEach es X.env)).any (·.1) = false := by rfl) :
    PE X (.Call (.Name x p) (e :: es) [] pos) (tCall sp (dvs.drop d) E t) := by
  obtain ⟨f, fd, F, hm, G⟩ := c.ex
  obtain ⟨ds, r, bb⟩ := F.binds1 n d hd hn b
  exact pe_call G (hr.mono hk) hg hm F.kp bb r hx ha hdb he hpl
theorem run_fnkP {pins : List (Addr × Obj)} {σ : L2.St} {H : Hp} {s : Shared} {Q : VK} {us ws : List Value} {vs zs : List V} {g : List Value → List Value → List Value} {gV : List V → List V → List V} (F : FnOk X.prog X.w X.K X.mg X.base CX k f fd ps sp) (hr : Room k X.A) (hb : KBn X.K fd ps n ks g gV) (hx : Passes CX X E)
    (I : Inv X pins σ H s) (r : Vals vs us) (rz : Vals zs ws) (l1 : vs.length = n) (l2 : zs.length = ks.length) (h : sp (gV vs zs) H Q E) : wpAny (model X.prog X.w) X.A (call (.ref f) us (ks.zip ws)) (EP X pins σ Q) X.xe s := by
  have r2 := hb.rel r rz
  refine wpAny_call (codeAny_mono (F.run X.A X.stack s H ⟨us, ks.zip ws⟩ (g us ws) (gV vs zs) Q _ hr I.env0 (hb.to s us ws I.kIn (r.length.symm.trans l1) (rz.length.symm.trans l2)) r2 h) fun r s' hq => ?_)
  match r, hq with
  | .error e, hq => exact hx pins σ H s e s' I hq
  | .ok (.ret u), hq => exact I.after hq
  | .ok .next, hq => exact False.elim hq
  | .ok .brk, hq => exact False.elim hq
  | .ok .cont, hq => exact False.elim hq
/-- f(e, .., k = v, ..) -/
theorem pe_caDk {g : {α : Type} → List α → List α → List α → List α} (c : Ca X.prog X.w X.K X.mg X.base CX k x st dvs ps sp) (b : Kdn x st dvs.length n ks ps g) (hd : dvs ≠ []) (hr : Room j X.A) (hk : k ≤ j) (hx : Passes CX X E) (hg : Gl X x) (ha : PA X (e :: es) t) (hkw : PK X kws tk)
    (hall : (backToKw pos (keywordEach kws X.env)).all (·.1.isSome) = true := by rfl) (hks : (backToKw pos (keywordEach kws X.env)).filterMap (·.1) = ks := by rfl) (hdb : (x == ("__debug__" : Str)) = false := by decide)
    (he : starEach (e :: es) X.env = (false, eval e X.env) :: starEach es X.env := by rfl) (hpl : ((backTo pos (starEach (e :: es) X.env)).any (·.1) || (backToKw pos (keywordEach kws X.env)).any (·.1.isNone)) = false := by rfl) :
    PE X (.Call (.Name x p) (e :: es) kws pos) (fun σ H Q => t σ H fun vs H1 => tk σ H1 fun zs H2 => vs.length = n ∧ zs.length = ks.length ∧ sp (g vs dvs zs) H2 Q E) := by
  obtain ⟨f, fd, F, hm, G⟩ := c.ex
  obtain ⟨its, hb⟩ := F.kbindsD n ks g hd b.rel b.bind
  refine ⟨fun pins s σ H Q I h => ?_⟩
  refine wpAny_Call_Name_kw (ld_glob I hg hm ?_ hdb)
  refine PySem.W.callWith_KW (h₀ := X.base) I.ok.mod.kin F.kp hall (thn (ha.run pos pins s σ H _ I h) fun us s1 ⟨vs, H1, I1, r, q⟩ => ?_) hpl he
  refine thn (hkw.run pos pins s1 σ H1 _ I1 q) fun ws s2 ⟨zs, H2, I2, rz, l1, l2, q2⟩ => ⟨I2.kIn, ?_⟩
  rw [hks]
  exact run_fnkP G (hr.mono hk) hb hx I2 r rz l1 l2 q2
/-- f(k = v, ..) -/
theorem pe_caDk0 {g : {α : Type} → List α → List α → List α → List α} (c : Ca X.prog X.w X.K X.mg X.base CX k x st dvs ps sp) (b : Kdn x st dvs.length 0 ks ps g) (hd : dvs ≠ []) (hr : Room j X.A) (hk : k ≤ j) (hx : Passes CX X E) (hg : Gl X x) (hkw : PK X kws tk)
    (hall : (backToKw pos (keywordEach kws X.env)).all (·.1.isSome) = true := by rfl) (hks : (backToKw pos (keywordEach kws X.env)).filterMap (·.1) = ks := by rfl) (hdb : (x == ("__debug__" : Str)) = false := by decide)
    (hpl : ((backTo pos (starEach [] X.env)).any (·.1) || (backToKw pos (keywordEach kws X.env)).any (·.1.isNone)) = false := by rfl) :
    PE X (.Call (.Name x p) [] kws pos) (fun σ H Q => tk σ H fun zs H2 => zs.length = ks.length ∧ sp (g [] dvs zs) H2 Q E) := by
  obtain ⟨f, fd, F, hm, G⟩ := c.ex
  obtain ⟨its, hb⟩ := F.kbindsD 0 ks g hd b.rel b.bind
  refine ⟨fun pins s σ H Q I h => ?_⟩
  refine wpAny_Call_Name_kw (ld_glob I hg hm ?_ hdb)
  refine PySem.W.callWith_KW0 (h₀ := X.base) I.ok.mod.kin F.kp hall ?_ hpl
  refine thn (hkw.run pos pins s σ H _ I h) fun ws s2 ⟨zs, H2, I2, rz, l2, q2⟩ => ⟨I2.kIn, ?_⟩
  rw [hks]
  exact run_fnkP (us := []) (vs := []) G (hr.mono hk) hb hx I2 .nil rz rfl l2 q2
end
end MM
namespace MM
/-! ### rounds: when months and years come together -/
theorem den_mul (x : Rat) : (x.den : Rat) * x = (x.num : Rat) := by
  have h := Rat.num_divInt_den x
  rw [Rat.divInt_eq_div] at h
  have hd : ((x.den : Int) : Rat) ≠ 0 := by
    have := x.den_nz
    intro z
    exact this (by exact_mod_cast z)
  rw [Rat.intCast_natCast] at h hd
  grind
def lcI (a b : Int) : Int := a / (Int.gcd a b : Int) * b
theorem gcd_div_gcd {a b : Int} (ha : 0 < a) : Int.gcd (b / (Int.gcd a b : Int)) (a / (Int.gcd a b : Int)) = 1 := by
  have hg : 0 < Int.gcd a b := Int.gcd_pos_of_ne_zero_left b (by omega)
  have := Int.gcd_ediv_gcd_ediv_gcd (i := a) (j := b) hg
  rw [Int.gcd_comm]
  exact this
theorem lc_facts {a b : Int} (ha : 0 < a) (hb : 0 < b) : 0 < lcI a b ∧ lcI a b % a = 0 ∧ lcI a b % b = 0 ∧ lcI a b / a = b / (Int.gcd a b : Int) ∧ lcI a b / b = a / (Int.gcd a b : Int) ∧ 0 < b / (Int.gcd a b : Int) ∧ 0 < a / (Int.gcd a b : Int) := by
  have hg : 0 < Int.gcd a b := Int.gcd_pos_of_ne_zero_left b (by omega)
  obtain ⟨x, hx⟩ := Int.gcd_dvd_left a b
  obtain ⟨z, hz⟩ := Int.gcd_dvd_right a b
  unfold lcI
  generalize hG : (Int.gcd a b : Int) = G at *
  have hG0 : 0 < G := by omega
  have e1 : a / G = x := by rw [hx, Int.mul_ediv_cancel_left _ (by omega)]
  have e2 : b / G = z := by rw [hz, Int.mul_ediv_cancel_left _ (by omega)]
  have x0 : 0 < x := by
    apply Int.not_le.mp
    intro h
    have := Int.mul_le_mul_of_nonneg_left h (Int.le_of_lt hG0)
    omega
  have z0 : 0 < z := by
    apply Int.not_le.mp
    intro h
    have := Int.mul_le_mul_of_nonneg_left h (Int.le_of_lt hG0)
    omega
  rw [e1, e2]
  have e3 : x * b = a * z := by rw [hx, hz]; ac_rfl
  refine ⟨Int.mul_pos x0 hb, ?_, ?_, ?_, ?_, z0, x0⟩
  · rw [e3]
    exact Int.mul_emod_right _ _
  · exact Int.mul_emod_left _ _
  · rw [e3, Int.mul_ediv_cancel_left _ (by omega)]
  · rw [Int.mul_ediv_cancel _ (by omega)]
def wrD (m y : Rat) : Int := lcI m.num y.num
def wrM (m y : Rat) : Int := wrD m y / m.num * m.den
def wrY (m y : Rat) : Int := wrD m y / y.num * y.den
theorem div_back {a d : Int} (h : d % a = 0) : d / a * a = d := Int.ediv_mul_cancel (Int.dvd_of_emod_eq_zero h)
theorem wr_eqM {m y : Rat} (hm : 0 < m) (hy : 0 < y) : wrD m y * m.den = wrM m y * m.num := by
  have f := lc_facts (num_pos hm) (num_pos hy)
  have := div_back (show wrD m y % m.num = 0 from f.2.1)
  unfold wrM
  rw [Int.mul_right_comm, this]
theorem wr_eqY {m y : Rat} (hm : 0 < m) (hy : 0 < y) : wrD m y * y.den = wrY m y * y.num := by
  have f := lc_facts (num_pos hm) (num_pos hy)
  have := div_back (show wrD m y % y.num = 0 from f.2.2.1)
  unfold wrY
  rw [Int.mul_right_comm, this]
theorem den_ne (x : Rat) : ((x.den : Int) : Rat) ≠ 0 := by
  have := x.den_nz
  intro z
  exact this (by exact_mod_cast z)
theorem of_den {x : Rat} {D M : Int} (h : D * x.den = M * x.num) : (M : Rat) * x = (D : Rat) := by
  have h1 : ((D * x.den : Int) : Rat) = ((M * x.num : Int) : Rat) := by rw [h]
  rw [Rat.intCast_mul, Rat.intCast_mul] at h1
  have h2 := den_mul x
  have h3 := den_ne x
  rw [Rat.intCast_natCast] at h1 h3
  grind
theorem fl_int (x : Rat) (n : Int) : (x + n).floor = x.floor + n := by
  have h1 : ∀ i : Int, (x + n).floor ≤ i ↔ x.floor + n ≤ i := fun i => by
    rw [floor_le_iff]
    have h2 : x.floor + n ≤ i ↔ x.floor ≤ i - n := by omega
    rw [h2, floor_le_iff]
    have e1 : ((i + 1 : Int) : Rat) = (i : Rat) + 1 := cast_add1 i
    have e2 : ((i - n + 1 : Int) : Rat) = (i : Rat) - n + 1 := by rw [cast_add1, Rat.intCast_sub]
    rw [e1, e2]
    grind
  have a := (h1 ((x + n).floor)).mp (Int.le_refl _)
  have b := (h1 (x.floor + n)).mpr (Int.le_refl _)
  omega
theorem st_shift {m o : Rat} {M D : Int} (h : (M : Rat) * m = D) (k t : Int) : stF m o (k + t * M) = stF m o k + t * D := by
  unfold stF
  rw [← fl_int]
  congr 1
  rw [Rat.intCast_add, Rat.intCast_mul, Rat.intCast_mul, ← h]
  grind
theorem ma_shift {m o : Rat} {M D : Int} (hm : 0 < m) (h : (M : Rat) * m = D) (d t : Int) : maF m o (d + t * D) = maF m o d + t * M := by
  refine ma_of hm ?_ ?_
  · rw [st_shift h]
    have := st_ma (o := o) hm d
    omega
  · rw [Int.add_right_comm, st_shift h]
    have := ma_st (o := o) hm d
    omega
theorem md_shift {y k : Rat} {Y D : Int} (h : (Y : Rat) * y = D) (j t : Int) : mdF y k (j + 12 * (t * Y)) = mdF y k j + t * D := by
  unfold mdF
  rw [← fl_int]
  congr 1
  have e : ((12 : Int) : Rat) = 12 := rfl
  rw [Rat.intCast_add, Rat.intCast_mul, Rat.intCast_mul, Rat.intCast_mul, ← h, e]
  grind
theorem j_shift {y k : Rat} {Y D : Int} (hy : 0 < y / 12) (h : (Y : Rat) * y = D) (d t : Int) : jF y k (d + t * D) = jF y k d + 12 * (t * Y) := by
  have key : ∀ j : Int, j < jF y k (d + t * D) ↔ j < jF y k d + 12 * (t * Y) := fun j => by
    rw [← md_lt hy]
    have e : mdF y k j = mdF y k (j - 12 * (t * Y)) + t * D := by
      rw [← md_shift h]
      congr 1
      omega
    rw [e]
    have e2 : j < jF y k d + 12 * (t * Y) ↔ j - 12 * (t * Y) < jF y k d := by omega
    rw [e2, ← md_lt hy]
    omega
  have a := key (jF y k (d + t * D))
  have b := key (jF y k d + 12 * (t * Y))
  omega
end MM
namespace MM
open PySem PySem.Spec PyProof.Rows L2
section
variable {J : It} {n : Nat} {G : Hp → Prop} {Y : Nat → Hp → V → Hp → Prop}
/-- a comprehension with a test, whose i-th thing is the whole number f i, and there where B i -/
theorem lc_filt (w : Walk J n G Y) (hY : ∀ i H x H', Y i H x H' → Same H H') {g : TG} {tt : TT} {te : TE} {vs : List Nat} {σ : L2.St} {H : Hp} {D : Addr} {Qd : Hp → Prop} (nD : H D = none) (hn : n < sizeLine) (f : Nat → Int) (B : Nat → Bool) (hG : ∀ H', Same H H' → G H')
    (hs : ∀ i x H1 H2 (R : V → Hp → Prop) (N : Hp → Prop), i < n → Same H H1 → Y i H1 x H2 → (B i = true → ∀ H3, Same H2 H3 → R (.int (f i)) H3) → (B i = false → ∀ H3, Same H2 H3 → N H3) → g x (wipe σ vs) H2 fun σ2 H3 => wipe σ2 vs = wipe σ vs ∧ tt σ2 H3 fun b H4 => if b = true then te σ2 H4 R else N H4)
    (hd : ∀ H', H' D = some (.lst ((((List.range n).filter B).map f).map V.int)) → Same H H' → Qd H') :
    ∃ W : Nat → Nat → Hp → Prop, (∃ m, W 0 m (L2.upd H D (.lst []))) ∧ ∀ i m H, W i m H →
      (J.stop i H ∧ Qd H) ∨ (J.go i H ∧ ∃ Nx : Hp → Prop, (∀ H', Nx H' → ∃ m', m' < m ∧ W (i + 1) m' H') ∧ ∀ x H', J.yld i H x H' → g x (wipe σ vs) H' fun σ2 H2 => wipe σ2 vs = wipe σ vs ∧ tt σ2 H2 fun b H3 =>
        if b = true then te σ2 H3 fun y H4 => ∃ acc, H4 D = some (.lst acc) ∧ acc.length < sizeLine ∧ Nx (L2.upd H4 D (.lst (acc ++ [y]))) else Nx H3) := by
  refine lc_it w (fun i H' => H' D = some (.lst ((((List.range i).filter B).map f).map V.int)) ∧ Same H H') ⟨upd_same, upd_keep nD (Same.refl H)⟩ (fun i H' _ ⟨_, s⟩ => hG H' s) ?_ (fun H' ⟨e, s⟩ => hd H' e s)
  rintro i x H1 H2 hi ⟨e, s⟩ y
  have s2 := hY _ _ _ _ y
  have el : ((((List.range i).filter B).map f).map V.int).length < sizeLine := by
    rw [List.length_map, List.length_map]
    have := List.length_filter_le B (List.range i)
    rw [List.length_range] at this
    omega
  refine hs i x H1 H2 _ _ hi s y (fun hB H3 s3 => ?_) (fun hB H3 s3 => ?_)
  · refine ⟨_, s3 _ _ (s2 _ _ e), el, ?_, upd_keep nD (s.trans (s2.trans s3))⟩
    rw [upd_same, List.range_succ, List.filter_append, List.map_append, List.map_append]
    simp [hB]
  · refine ⟨?_, s.trans (s2.trans s3)⟩
    rw [s3 _ _ (s2 _ _ e), List.range_succ, List.filter_append]
    simp [hB]
end
/-! ### first days of years -/
def fdF (m y o k : Rat) (a : Int) : Int := stF m o (maF m o (mdF y k (12 * a)))
theorem int_le_floor {i : Int} {x : Rat} : i ≤ x.floor ↔ (i : Rat) ≤ x := by
  have h := floor_le_iff (q := x) (i := i - 1)
  rw [show i - 1 + 1 = i by omega] at h
  constructor
  · intro a
    apply Rat.not_lt.mp
    intro z
    have := h.mpr z
    omega
  · intro a
    apply Int.not_lt.mp
    intro z
    have := h.mp (by omega)
    grind
theorem fl_mono {x z : Rat} (h : x ≤ z) : x.floor ≤ z.floor := by
  rw [int_le_floor]
  have := int_le_floor (i := x.floor) (x := x) |>.mp (Int.le_refl _)
  grind
theorem st_w {m y o : Rat} (f : Fit m y) (i : Int) : stF m o (i + 1) ≤ stF m o i + m.ceil := by
  unfold stF
  rw [← fl_int]
  refine fl_mono ?_
  have h : m ≤ (m.ceil : Rat) := by
    apply Rat.not_lt.mp
    intro z
    have := lt_ceil_iff (q := m) (i := m.ceil) |>.mpr z
    omega
  rw [cast_add1]
  grind
theorem md_w {m y k : Rat} (f : Fit m y) (j : Int) : mdF y k j + m.ceil ≤ mdF y k (j + 1) := by
  unfold mdF
  rw [← fl_int]
  refine fl_mono ?_
  have h := f.between
  rw [cast_add1]
  grind
theorem md_mono {y k : Rat} (hy : 0 < y / 12) {i j : Int} (h : i ≤ j) : mdF y k i ≤ mdF y k j := by
  unfold mdF
  refine fl_mono ?_
  have h1 : (i : Rat) ≤ (j : Rat) := by exact_mod_cast h
  have h2 := Rat.mul_le_mul_of_nonneg_right h1 (Rat.le_of_lt hy)
  grind
/-- in a month falls one mark at most -/
theorem one_mark {m y o k : Rat} (f : Fit m y) {i j : Int} (h1 : stF m o i ≤ mdF y k j) (h2 : mdF y k j < stF m o (i + 1)) : jF y k (stF m o i) = j := by
  have hy := f.ypos
  have a : ¬ j < jF y k (stF m o i) := fun z => by
    have := (md_lt hy).mpr z
    omega
  apply Int.le_antisymm (by omega)
  apply Int.not_lt.mp
  intro z
  have b := md_ge (y := y) (k := k) hy (stF m o i)
  have c := md_w (k := k) f (jF y k (stF m o i))
  have d := md_mono (k := k) hy (show jF y k (stF m o i) + 1 ≤ j by omega)
  have e := st_w (o := o) f i
  omega
theorem ma_st' {m o : Rat} (h1 : 1 ≤ m) (i : Int) : maF m o (stF m o i) = i := by
  have := st_step (o := o) h1 i
  exact ma_of (by grind) (Int.le_refl _) (by omega)
theorem first_jF {m y o k : Rat} (f : Fit m y) (a : Int) : jF y k (stF m o (maF m o (mdF y k (12 * a)))) = 12 * a := one_mark f (st_ma f.pos _) (ma_st f.pos _)
/-- about which year begins on a day -/
theorem first_near {m y o k : Rat} (f : Fit m y) (a : Int) : (((fdF m y o k a - k.floor : Int) : Rat) / y).floor ≤ a ∧ a ≤ (((fdF m y o k a - k.floor : Int) : Rat) / y).floor + 1 := by
  have hp := f.pos
  have hy := f.ypos'
  have y12 : 12 ≤ y := by
    have h1 := f.one
    have h2 := f.between
    have h3 : (1 : Rat) ≤ (m.ceil : Rat) := by
      have : ((1 : Int) : Rat) ≤ (m.ceil : Rat) := by
        have : (1 : Int) ≤ m.ceil := by
          apply Int.not_lt.mp
          intro z
          have hm : m ≤ (m.ceil : Rat) := by
            apply Rat.not_lt.mp
            intro z
            have := lt_ceil_iff (q := m) (i := m.ceil) |>.mpr z
            omega
          have h0 : (m.ceil : Rat) ≤ ((0 : Int) : Rat) := by exact_mod_cast (show m.ceil ≤ 0 by omega)
          have e0 : ((0 : Int) : Rat) = 0 := rfl
          grind
        exact_mod_cast this
      exact this
    grind
  have s1 := st_ma (o := o) hp (mdF y k (12 * a))
  have s2 := ma_st (o := o) hp (mdF y k (12 * a))
  have s3 := st_w (o := o) f (maF m o (mdF y k (12 * a)))
  have bt := f.between
  have kf := int_le_floor (i := k.floor) (x := k) |>.mp (Int.le_refl _)
  have kl := floor_le_iff (q := k) (i := k.floor) |>.mp (Int.le_refl _)
  rw [cast_add1] at kl
  have md1 := int_le_floor (i := mdF y k (12 * a)) (x := k + ((12 * a : Int) : Rat) * (y / 12)) |>.mp (Int.le_refl _)
  have md2 := floor_le_iff (q := k + ((12 * a : Int) : Rat) * (y / 12)) (i := mdF y k (12 * a)) |>.mp (Int.le_refl _)
  rw [cast_add1] at md2
  have e12 : ((12 * a : Int) : Rat) * (y / 12) = (a : Rat) * y := by
    rw [Rat.intCast_mul]
    have : ((12 : Int) : Rat) = 12 := rfl
    rw [this]
    grind
  rw [e12] at md1 md2
  have c1 : ((fdF m y o k a : Int) : Rat) ≤ (mdF y k (12 * a) : Rat) := by exact_mod_cast s1
  have c2 : (mdF y k (12 * a) : Rat) + 1 ≤ (fdF m y o k a : Rat) + (m.ceil : Rat) := by
    have h := Int.lt_of_lt_of_le s2 s3
    have h2 : mdF y k (12 * a) + 1 ≤ fdF m y o k a + m.ceil := h
    have h3 : ((mdF y k (12 * a) + 1 : Int) : Rat) ≤ ((fdF m y o k a + m.ceil : Int) : Rat) := by exact_mod_cast h2
    rw [Rat.intCast_add, Rat.intCast_add] at h3
    exact h3
  have cs : ((fdF m y o k a - k.floor : Int) : Rat) = (fdF m y o k a : Rat) - (k.floor : Rat) := Rat.intCast_sub _ _
  rw [cs]
  generalize (fdF m y o k a : Rat) = A at *
  generalize (k.floor : Rat) = F at *
  generalize (mdF y k (12 * a) : Rat) = Md at *
  generalize (m.ceil : Rat) = Wc at *
  have u1 : A - F < (a : Rat) * y + 1 := by grind
  have u2 : (a : Rat) * y - y / 12 ≤ A - F + 1 := by grind
  constructor
  · rw [floor_le_iff, cast_add1]
    apply (Rat.div_lt_iff hy).mpr
    grind
  · have key : (a - 1 : Int) ≤ ((A - F) / y).floor := by
      rw [int_le_floor, Rat.intCast_sub]
      have : ((1 : Int) : Rat) = 1 := rfl
      rw [this]
      apply Rat.not_lt.mp
      intro z
      have z2 := (Rat.div_lt_iff hy).mp z
      grind
    omega
end MM
namespace MM
open PySem PySem.Spec PyProof.Rows L2
/-! ### figures -/
def dg (d : Nat) : Nat := if d < 10 then 48 + d else 87 + d
/-- the figures, the last one first -/
def lsd (b n : Nat) : List Nat := if h : b < 2 ∨ n < b then [n] else (n % b) :: lsd b (n / b)
termination_by n
decreasing_by exact Nat.div_lt_self (by omega) (by omega)
theorem lsd_lt {b n : Nat} (h : n < b) : lsd b n = [n] := by
  rw [lsd, dif_pos (.inr h)]
theorem lsd_ge {b n : Nat} (hb : 2 ≤ b) (h : b ≤ n) : lsd b n = (n % b) :: lsd b (n / b) := by
  rw [lsd, dif_neg (by omega)]
theorem lsd_ne (b n : Nat) : lsd b n ≠ [] := by
  rw [lsd]
  split <;> simp
theorem lsd_small {b : Nat} (hb : 2 ≤ b) : ∀ (n : Nat), ∀ d ∈ lsd b n, d < b := fun n => by
  induction n using Nat.strongRecOn with
  | _ n ih =>
    intro d hd
    by_cases h : n < b
    · rw [lsd_lt h] at hd
      rw [List.mem_singleton.mp hd]
      exact h
    · rw [lsd_ge hb (by omega)] at hd
      rcases List.mem_cons.mp hd with rfl | hd
      · exact Nat.mod_lt _ (by omega)
      · exact ih (n / b) (Nat.div_lt_self (by omega) (by omega)) d hd
theorem lsd_len {b : Nat} (hb : 2 ≤ b) : ∀ (e n : Nat), n < 2 ^ e → 0 < e → (lsd b n).length ≤ e := fun e => by
  induction e with
  | zero => intro n h h0; omega
  | succ e ih =>
    intro n h h0
    by_cases hn : n < b
    · rw [lsd_lt hn]
      simp
    · rw [lsd_ge hb (by omega), List.length_cons]
      have h1 : n / b ≤ n / 2 := Nat.div_le_div_left hb (by decide)
      have h2 : n / 2 < 2 ^ e := by rw [Nat.pow_succ] at h; omega
      by_cases he : 0 < e
      · have := ih (n / b) (by omega) he
        omega
      · have e0 : e = 0 := by omega
        subst e0
        have : n / b = 0 := by omega
        rw [this, lsd_lt (by omega)]
        simp at h2 ⊢
        have hz : n / b = 0 := by omega
        have := (Nat.div_eq_zero_iff).mp hz
        omega
theorem lsd_val {b : Nat} (hb : 2 ≤ b) : ∀ n : Nat, (lsd b n).foldr (fun d a => a * b + d) 0 = n := fun n => by
  induction n using Nat.strongRecOn with
  | _ n ih =>
    by_cases h : n < b
    · rw [lsd_lt h]
      simp
    · rw [lsd_ge hb (by omega), List.foldr_cons, ih (n / b) (Nat.div_lt_self (by omega) (by omega))]
      have := Nat.div_add_mod n b
      rw [Nat.mul_comm] at this
      exact this
def sg (d : Nat) : Str := ⟨#[dg d]⟩
def txt (ds : List Nat) : Str := ⟨(ds.map dg).toArray⟩
/-- a whole number by a base -/
def numT (b : Nat) (i : Int) : Str := if i < 0 then ("-" : Str) ++ txt (lsd b i.natAbs).reverse else txt (lsd b i.natAbs).reverse
theorem str_ext {x y : Str} (h : x.cps.toList = y.cps.toList) : x = y := by
  cases x
  cases y
  congr
  exact Array.toList_inj.mp h
theorem app_cps (x y : Str) : (x ++ y).cps.toList = x.cps.toList ++ y.cps.toList := by
  show (x.cps ++ y.cps).toList = _
  simp
theorem txt_cps (ds : List Nat) : (txt ds).cps.toList = ds.map dg := rfl
theorem txt_len (ds : List Nat) : (txt ds).length = ds.length := by
  show ((ds.map dg).toArray).size = _
  simp
theorem dash_cps : ("-" : Str).cps.toList = [45] := by decide +kernel
theorem sg_txt (d : Nat) (ds : List Nat) : sg d ++ txt ds = txt (d :: ds) := str_ext (by
  rw [app_cps]
  rfl)
theorem nil_txt : ("" : Str) = txt [] := str_ext (by decide +kernel)
theorem dg_ne {d : Nat} (h : d < 16) : dg d ≠ 45 := by
  unfold dg
  split <;> omega
def FIG : Str := "0123456789abcdef"
theorem fig_len : FIG.length = 16 := by decide +kernel
theorem fig_at {d : Nat} (h : d < 16) : atI FIG.cps.toList (d : Int) = some (dg d) := by
  have : ∀ d : Fin 16, atI FIG.cps.toList ((d.val : Nat) : Int) = some (dg d.val) := by decide +kernel
  exact this ⟨d, h⟩
theorem fig_find {d : Nat} (h : d < 16) : Txt.find FIG (sg d) = (d : Int) := by
  have : ∀ d : Fin 16, Txt.find FIG (sg d.val) = ((d.val : Nat) : Int) := by decide +kernel
  exact this ⟨d, h⟩
theorem glued_nil : ∀ (ps : List Str) (acc : Array Nat), (ps.foldl (fun acc p => acc ++ ("" : Str).cps ++ p.cps) acc).toList = acc.toList ++ (ps.map fun p => p.cps.toList).flatten
  | [], acc => by simp
  | p :: ps, acc => by
    rw [List.foldl_cons, glued_nil ps]
    have e : ("" : Str).cps = #[] := by decide +kernel
    rw [e]
    simp
theorem join_nil (ps : List Str) : (Txt.join ("" : Str) ps).cps.toList = (ps.map fun p => p.cps.toList).flatten := by
  show (((ps.drop 1).foldl (fun acc p => acc ++ ("" : Str).cps ++ p.cps) (ps.headD Str.empty).cps)).toList = _
  cases ps with
  | nil => rfl
  | cons p ps =>
    show ((ps.foldl (fun acc p => acc ++ ("" : Str).cps ++ p.cps) p.cps)).toList = _
    rw [glued_nil]
    simp
theorem flat_sg : ∀ ds : List Nat, ((ds.map sg).map fun p => p.cps.toList).flatten = ds.map dg
  | [] => rfl
  | d :: ds => by
    rw [List.map_cons, List.map_cons, List.flatten_cons, flat_sg ds]
    rfl
theorem join_sg (ds : List Nat) : Txt.join ("" : Str) ((ds.map sg).reverse) = txt ds.reverse := str_ext (by
  rw [join_nil, ← List.map_reverse, flat_sg]
  rfl)
theorem join_dash (ds : List Nat) : Txt.join ("" : Str) ((ds.map sg ++ [("-" : Str)]).reverse) = ("-" : Str) ++ txt ds.reverse := str_ext (by
  rw [join_nil, List.reverse_append, ← List.map_reverse, List.map_append, List.flatten_append, flat_sg, app_cps]
  rfl)
theorem sub_iff (x y : Str) : Builtin.Str.subAt x y 0 = true ↔ x.cps.toList.take y.length = y.cps.toList := by
  unfold Builtin.Str.subAt
  rw [beq_iff_eq, ← Array.toList_inj]
  simp
theorem dash_len : ("-" : Str).length = 1 := by decide +kernel
theorem not_dash {ds : List Nat} (h0 : ds ≠ []) (h : ∀ d ∈ ds, d < 16) : Builtin.Str.subAt (txt ds) ("-" : Str) 0 = false := by
  cases hb : Builtin.Str.subAt (txt ds) ("-" : Str) 0 with
  | false => rfl
  | true =>
    have := (sub_iff _ _).mp hb
    rw [dash_len, dash_cps, txt_cps] at this
    cases ds with
    | nil => exact absurd rfl h0
    | cons d ds =>
      have e : dg d = 45 := by simpa using this
      exact absurd e (dg_ne (h d (by simp)))
theorem is_dash (ds : List Nat) : Builtin.Str.subAt (("-" : Str) ++ txt ds) ("-" : Str) 0 = true := by
  rw [sub_iff, dash_len, app_cps, dash_cps]
  rfl
theorem dash_txt_len (ds : List Nat) : (("-" : Str) ++ txt ds).length = ds.length + 1 := by
  show (("-" : Str).cps ++ (txt ds).cps).size = _
  rw [Array.size_append]
  show ("-" : Str).length + (txt ds).length = _
  rw [dash_len, txt_len]
  omega
theorem rp_txt {ds : List Nat} (h0 : ds ≠ []) (h : ∀ d ∈ ds, d < 16) : Txt.removeprefix (txt ds) ("-" : Str) = txt ds := by
  unfold Txt.removeprefix
  rw [not_dash h0 h]
  rfl
theorem rp_dash (ds : List Nat) : Txt.removeprefix (("-" : Str) ++ txt ds) ("-" : Str) = txt ds := by
  unfold Txt.removeprefix
  rw [is_dash, dash_len, dash_txt_len]
  show (if (ds.length + 1 - 1 == (("-" : Str) ++ txt ds).length) = true then _ else _) = _
  rw [dash_txt_len, if_neg (by simp)]
  refine str_ext ?_
  show ((("-" : Str) ++ txt ds).cps.extract 1 (ds.length + 1)).toList = _
  have e : (("-" : Str) ++ txt ds).cps.toList = 45 :: ds.map dg := by rw [app_cps, dash_cps]; rfl
  rw [Array.toList_extract, e, txt_cps]
  simp
  exact List.take_of_length_le (by simp)
theorem sw_txt {ds : List Nat} (h0 : ds ≠ []) (h : ∀ d ∈ ds, d < 16) : Txt.startswith (txt ds) ("-" : Str) = false := by
  unfold Txt.startswith
  rw [not_dash h0 h, Bool.and_false]
theorem sw_dash (ds : List Nat) : Txt.startswith (("-" : Str) ++ txt ds) ("-" : Str) = true := by
  unfold Txt.startswith
  rw [is_dash, dash_txt_len, dash_len]
  simp
/-! ### a text once or not at all -/
theorem op_mulS {X : Cx} : OpR X (binaryOp .Mult) (fun x y H Q => ∃ (z : Str) (b : Bool), x = .str z ∧ y = .int (if b = true then 1 else 0) ∧ Q (.str (if b = true then z else Str.empty)) H) := by
  intro pins s σ H x y v u Q I rx ry h
  obtain ⟨z, b, rfl, rfl, q⟩ := h
  obtain ⟨t, rfl⟩ := rx
  obtain ⟨t', rfl⟩ := ry
  cases b with
  | false => exact P.mul_str_none (by decide) (by decide) ⟨.str Str.empty, H, I.tok _, ⟨_, rfl⟩, q⟩
  | true =>
    refine P.mul_str (by decide) (fun _ e => by simp at e) (fun _ e => by simp at e) ?_
    rw [if_neg (by decide), if_pos (by simp)]
    exact ⟨.str z, H, I, ⟨_, rfl⟩, q⟩
end MM
namespace MM
open PySem PySem.Spec PyProof.Rows L2
/-- what try .. except C as n: m = n wishes of an exception of the body -/
def wKeep1 (K : PySem.W.Frag) (c : Value) (i j : Nat) (D : Ends) : WX := fun cls d σ H => PySem.W.exmOne K cls c = some true ∧ ∀ a, H a = none → D.nx (((σ.set i (some (.ref a))).set j (some (.ref a))).set i none) (L2.upd H a (KX a cls d))
section
variable {X : Cx} {c : Value} {x n m : Str} {i j : Nat} {body : List Stmt} {tpos np mp apos pos pos' : Pos} {tb : WX → TS}
/-- try: body / except (..) as n: m = n; nothing else leaves the body -/
theorem ps_try_keep1 (hs : X.stack = X.env :: X.outer) (hf : X.env.frame = some X.env.locals) (hex : X.ex = []) (hN : X.N.Nodup) (hi : X.N[i]? = some n) (hln : X.env.kindOf n = some .local) (hj : X.N[j]? = some m) (hlm : X.env.kindOf m = some .local) (hg : Gl X x) (hd0 : (x == ("__debug__" : Str)) = false) (hm0 : X.mg x = some c)
    (hdb : (n == ("__debug__" : Str)) = false := by decide) (hcd : (n == ("__classdict__" : Str)) = false := by decide)
    (hb : ∀ (W : WX) (pn : List (Addr × Obj)) (xe : Value → Shared → Prop), Takes (X.tr pn xe) W → PassesOwn (model X.prog X.w) X.A X.env xe → PSs (X.tr pn xe) body (tb W))
    (hsw : swapsWith (.Name n np) (some (.Name m mp)) apos.line X.env = pure false := by rfl) :
    PS X (.Try body [.ExceptHandler (some (.Name x tpos)) (some n) [.Assign [.Name m mp] (.Name n np) apos] pos'] [] [] pos) (fun D σ H => tb (wKeep1 X.K c i j D) D σ H) := by
  refine ⟨fun pins s σ H D I h => ?_⟩
  have ok := I.ok
  have hfr : X.A.frames = some (X.env :: X.outer) := by rw [ok.frames, hs]
  refine wpAny_Try_except ?_
  refine wpAny_mono ((hb (wKeep1 X.K c i j D) (X.pn ++ pins) (fun e s₁ => wpAny (model X.prog X.w) X.A (noteFrame e X.env) (fun _ s₂ => wpAny (model X.prog X.w) X.A (setFlight e none) (fun _ s₃ =>
    wpAny (model X.prog X.w) X.A (handleBy e X.env [.ExceptHandler (some (.Name x tpos)) (some n) [.Assign [.Name m mp] (.Name n np) apos] pos']) (SP X pins D) X.xe s₃) X.xe s₂) X.xe s₁) (fun u s' xx => ?_) PassesOwn.looking).run [] s σ H D (I.toTry _) h) (fun f s1 hsp => ?_) (fun e s1 he => he)
  · obtain ⟨a, B, sI, pins', σ', H', cls, d, rfl, J', nb, up, sky, na, os, ag, hB, wish⟩ := xx
    have J : Inv X pins σ' H' sI := J'.ofTry ok
    have sky' : Sky B (X.env :: X.outer) a (Zc cls d) X.env.locals s'.heap := by rw [← hs]; exact sky
    show wpAny (model X.prog X.w) X.A (noteFrame (.ref a) X.env) _ _ _
    refine Sky.land Zc.steady hfr hf sky' fun h3 fl3 up3 => ?_
    have J3 : Inv X pins σ' H' { s' with heap := h3 } := J.landed nb fl3.1 (up.trans up3) os ag
    obtain ⟨oe3, vs3, he3, hz3, hd3⟩ := fl3.there
    have nfr : a ∉ frs (X.env :: X.outer) := fun hm => by
      obtain ⟨_, o', e', hnf⟩ := fl3.2.2.1.mem hm
      rw [he3] at e'
      cases e'
      exact hnf _ hd3
    have nL : a ≠ X.env.locals := fun z => nfr (List.mem_filterMap.mpr ⟨X.env, List.mem_cons_self, by rw [hf, z]⟩)
    have nF : a ∉ X.fs := fun hm => by
      obtain ⟨e, he, q⟩ := List.mem_filterMap.mp hm
      exact nfr (List.mem_filterMap.mpr ⟨e, List.mem_cons_of_mem _ he, q⟩)
    have nI : sI.heap.get? a = none := by
      cases q : sI.heap.get? a with
      | none => rfl
      | some o =>
        have z := nb a o q (by rw [hs]; exact nfr)
        rw [fl3.2.1] at z
        cases z
    have n0 : X.s_0.heap.get? a = none := by
      cases q : X.s_0.heap.get? a with
      | none => rfl
      | some o =>
        obtain ⟨o', z⟩ := J.base.there a o q (by rw [hex]; exact fun y => nomatch y)
        rw [nI] at z
        cases z
    have nC : ∀ x c, X.env.cells.lookup x = some c → c ≠ a := fun x c e z => by
      obtain ⟨v, o, ho, _⟩ := J.cell x c e
      rw [z, nI] at ho
      cases ho
    have nP : ∀ p ∈ X.pn ++ pins, p.1 ≠ a := fun p hp z => by
      have q := (J.pin p hp).1
      rw [z, nI] at q
      cases q
    have S3 := J3.suite he3 hd3 na nL nF
    refine wpAny_handleBy_cons (codeAny_handlers_test ?_) (by intro q; cases q)
    refine ld_glob (X := X.suite a ((a, oe3) :: (X.pn ++ pins))) S3 hg hm0 ?_ hd0
    have LT : PySem.W.Looks (model X.prog X.w) h3 (typeOf (.ref a)) cls := fun A Q E s k q => wpAny_typeOf_ref (k _ _ he3) (by rw [hz3.1]; exact q)
    have LM := PySem.W.exm_one (M := model X.prog X.w) J3.kIn LT hB
    refine LM.here ?_
    refine codeAny_handlers_suite_as ?_
    refine HandSPX.lands_againZ fl3 fun h4 fl4 up4 => ?_
    have J4 : Inv X pins σ' H' { s' with heap := h4 } := J.landed nb fl4.1 ((up.trans up3).trans up4) os ag
    obtain ⟨oe4, vs4, he4, hz4, hd4⟩ := fl4.there
    have S4 := J4.suite he4 hd4 na nL nF
    refine store_ok (X := X.suite a ((a, oe4) :: (X.pn ++ pins))) (v := .ref a) S4 hN hi (.inl hln) rfl (fun s5 S5 => ?_) (.inr hln)
    have rd : PSs (X.suite a ((a, oe4) :: (X.pn ++ pins))) [.Assign [.Name m mp] (.Name n np) apos] (tAsg (tVar i) (gName j)) := pss_one (ps_set hN hj (.inl hlm) (pe_var hi (.inl hln) hdb hcd) hsw (.inr hlm))
    refine wpAny_mono (rd.run [] s5 _ H' { nx := fun σ6 H6 => σ6 = (σ'.set i (some (.ref a))).set j (some (.ref a)) ∧ H6 = H', rt := fun _ _ => False } S5 ⟨_, ?_, rfl, rfl⟩) (fun f s6 hsp => ?_) (fun _ _ z => False.elim z)
    · exact List.getElem?_set_self (by rw [J.len]; exact (List.getElem?_eq_some_iff.mp hi).1)
    · cases f with
      | next =>
        obtain ⟨σ6, H6, S6, rfl, rfl⟩ := hsp
        obtain ⟨p1, p2, _⟩ := S6.pin (a, oe4) (List.mem_append_left _ List.mem_cons_self)
        have J6 := Inv.track (S6.unsuite ok) p1 hz4 hd4 na n0 nL nC nP
        exact gone_ok J6 hN hi hln fun s7 J7 => ⟨_, _, J7, wish a na⟩
      | brk =>
        obtain ⟨_, _, _, z⟩ := hsp
        exact z.elim
      | cont =>
        obtain ⟨_, _, _, z⟩ := hsp
        exact z.elim
      | ret u =>
        obtain ⟨_, _, _, _, _, z⟩ := hsp
        exact z.elim
  · cases f with
    | next =>
      obtain ⟨σ1, H1, J1, q⟩ := hsp
      exact wpAny_execs_nil ⟨σ1, H1, J1.ofTry ok, q⟩
    | brk =>
      obtain ⟨σ1, H1, J1, q⟩ := hsp
      exact ⟨σ1, H1, J1.ofTry ok, q⟩
    | cont =>
      obtain ⟨σ1, H1, J1, q⟩ := hsp
      exact ⟨σ1, H1, J1.ofTry ok, q⟩
    | ret u =>
      obtain ⟨v1, σ1, H1, J1, r1, q⟩ := hsp
      exact ⟨v1, σ1, H1, J1.ofTry ok, r1, q⟩
end
section
variable {X : Cx} {D : Addr}
/-- isinstance(x, (c, ..)), x a kept exception -/
def rIsKT (K : PySem.W.Frag) (D : Addr) : List V → Hp → VK → Prop := fun xs H Q => ∃ (a oD : Addr) (fs : List (Str × V)) (tp : Addr) (cs : List V) (us : List Value) (b : Bool), xs = [.ref a, .ref tp] ∧ H a = some (KX a (.ref D) (some oD)) ∧ H oD = some (.xd fs) ∧ H tp = some (.tup cs) ∧ Paired ClsV cs us ∧ PySem.W.kitAny K (.ref D) us = some b ∧ Q (.bl b) H
theorem call_isKT (C : XcF X.K D) : CallR X (.builtin "isinstance") (rIsKT X.K D) := by
  intro pins s σ H xs us Q I r h
  obtain ⟨a, oD, fs, tp, cs, ws, b, rfl, ha, hd, hT, k, e, q⟩ := h
  obtain ⟨u1, u2, rfl, r1, r2⟩ := vals2 r
  cases (show u1 = Value.ref a from r1)
  cases (show u2 = Value.ref tp from r2)
  obtain ⟨ox, od, _, J, _⟩ := kept_inst I ha hd
  obtain ⟨_, its, rv, o, h1, h2, n, h3⟩ := (show ObjOk X.prog X.w H s.heap tp (.tup cs) from I.hok tp _ hT)
  have e3 := ClsV.all k rv
  subst e3
  obtain ⟨oc, od', dt, sl⟩ := o
  simp only at h2 h3
  subst h2 h3
  exact PySem.W.kia_tup (kitx_kept C) I.kIn ⟨ox, _, J⟩ h1 e (fun z => nomatch z) fun tk => ⟨.bl b, H, I.kept (t' := tk) fun _ _ z => z, rfl, q⟩
end
end MM
namespace MM
open PySem PySem.Spec PySem.Calls PyProof.Rows L2
section
variable {X : Cx} {a : Expr} {ta : TE}
/-- x is not False, x a truth -/
def tNotF (ta : TE) : TE := fun σ H Q => ta σ H fun x H1 => ∃ b : Bool, x = .bl b ∧ Q (.bl b) H1
theorem pc_notF {j : Nat} {pos' : Pos} (ha : PE X a ta) : PC X .IsNot a (.Constant (.bool false) j pos') (tNotF ta) := by
  refine ⟨fun pins s σ H Q I h => ?_⟩
  refine thn (ha.run pins s σ H _ I h) fun v s1 ⟨x, H1, I1, r1, b, ex, q1⟩ => ?_
  subst ex
  cases (show v = Value.bool b from r1)
  refine Constant_bool ?_
  cases b with
  | true => exact wpAny_pure (a := Value.bool (!(Value.bool true == Value.bool false))) ⟨.bl true, H1, I1, rfl, q1⟩
  | false => exact wpAny_pure (a := Value.bool (!(Value.bool false == Value.bool false))) ⟨.bl false, H1, I1, rfl, q1⟩
end
/-- str(x) of a whole number, or of an instance with its own __str__ -/
@[irreducible] def rSI (C : Addr) (sp : Sp) (E : XK) : List V → Hp → VK → Prop := fun xs H Q => (∃ i : Int, xs = [.int i] ∧ i.natAbs.log2 < 1920 ∧ Q (.str (toString i)) H) ∨ rStrO C sp E xs H Q
theorem call_str_IS {X : Cx} {CX : CXT} {k : Nat} {C : Addr} {qual : Str} {st : Stmt} {ps : List Str} {sp : Sp} {E : XK} (c : Cm X.prog X.w X.K X.mg X.base CX k C "__str__" qual st ps sp) (b : Bd "__str__" qual st ps) (hr : Room (k + 2) X.A) (hx : Passes CX X E) :
    CallR X (.type "str") (rSI C sp E) := by
  obtain ⟨f, fd, F, M, hc, G⟩ := c.ex
  unfold rSI
  exact CallR.or call_str_int (call_strO G M.1 M.2 (F.bindsN b) hx hr)
end MM
namespace MM
open PySem PySem.Spec PySem.Calls PyProof.Rows L2
/-! ### figures by ten are what str tells -/
theorem dg_char {d : Nat} (h : d < 10) : d.digitChar.toNat = dg d := by
  have : ∀ d : Fin 10, d.val.digitChar.toNat = dg d.val := by decide
  exact this ⟨d, h⟩
theorem digits_lsd : ∀ n : Nat, (Nat.toDigits 10 n).map Char.toNat = (lsd 10 n).reverse.map dg := fun n => by
  induction n using Nat.strongRecOn with
  | _ n ih =>
    by_cases h : n < 10
    · rw [Nat.toDigits_of_lt_base h, lsd_lt h]
      show [n.digitChar.toNat] = [dg n]
      rw [dg_char h]
    · rw [Nat.toDigits_of_base_le (by decide) (by omega), lsd_ge (by decide) (by omega), List.map_append, ih (n / 10) (by omega), List.reverse_cons, List.map_append]
      show _ ++ [(n % 10).digitChar.toNat] = _ ++ [dg (n % 10)]
      rw [dg_char (by omega)]
theorem of_cps (s : String) : (Str.ofString s).cps.toList = s.toList.map Char.toNat := by
  show (cpsOfBytes 0 0 s.toByteArray.data.toList).toArray.toList = _
  rw [cpsOfBytes_string]
theorem nat_txt (n : Nat) : Str.ofString n.repr = txt (lsd 10 n).reverse := str_ext (by
  rw [of_cps, txt_cps]
  unfold Nat.repr
  rw [String.toList_ofList]
  exact digits_lsd n)
theorem numT_str (i : Int) : Str.ofString (toString i) = numT 10 i := by
  cases i with
  | ofNat m =>
    show Str.ofString m.repr = _
    unfold numT
    rw [if_neg (show ¬ Int.ofNat m < 0 from Int.not_lt.mpr (Int.natCast_nonneg m)), nat_txt]
    rfl
  | negSucc m =>
    show Str.ofString ("-" ++ m.succ.repr) = _
    unfold numT
    rw [if_pos (by omega)]
    refine str_ext ?_
    rw [of_cps, String.toList_append, List.map_append, app_cps, dash_cps]
    have e : m.succ.repr.toList.map Char.toNat = (txt (lsd 10 m.succ).reverse).cps.toList := by rw [← nat_txt, of_cps]
    rw [e]
    rfl
/-! ### repr(x) of an instance with its own __repr__ -/
def rReprO (C : Addr) (sp : Sp) (E : XK) : List V → Hp → VK → Prop := fun xs H Q => ∃ (a dx : Addr) (fs : List (Str × V)), xs = [.ref a] ∧ H a = some (.ins C dx fs) ∧ sp [.ref a] H (fun v H' => ∃ x : Str, v = .str x ∧ Q (.str x) H') E
theorem call_reprO {X : Cx} {CX : CXT} {k : Nat} {C f : Addr} {fd : FuncData} {ps : List Str} {sp : Sp} {E : XK} (F : FnOk X.prog X.w X.K X.mg X.base CX k f fd ps sp) (hs : PySem.W.findIn X.K (.ref C) "__repr__" = some (some (.ref f))) (hf : PySem.W.isFn X.K (.ref f) = true) (hb : Binds X.K fd ps []) (hx : Passes CX X E) (hr : Room (k + 1) X.A) : CallR X (.builtin "repr") (rReprO C sp E) := by
  intro pins s σ H xs us Q I r h
  obtain ⟨a, dx, fs, rfl, ha, hq⟩ := h
  obtain ⟨u, rfl, r1⟩ := vals1 r
  cases (show u = Value.ref a from r1)
  obtain ⟨mA, J, _⟩ := ins_get I.hok ha
  obtain ⟨od, J, _⟩ := J.look
  obtain ⟨m, fr⟩ := I.fr
  have hr1 : Room k X.A.in1 := hr.in1
  have hl : ([Value.ref a] ++ []).length = ps.length := (show ([V.ref a] : List V).length = _ from F.len _ _ _ _ hq)
  refine PySem.W.repr_K hr1.units0 fr I.ok.mod.kin J hs hf (wpAny_call (codeAny_mono (F.run X.A.in1 X.stack s H ⟨[.ref a], []⟩ [.ref a] [.ref a] _ E hr1 I.env0.in1 (hb s [.ref a] I.kIn hl) (.cons rfl .nil) hq) fun res s' hres => ?_))
  match res, hres with
  | .error er, hres => exact hx pins σ H s er s' I hres
  | .ok .next, hres => exact hres.elim
  | .ok .brk, hres => exact hres.elim
  | .ok .cont, hres => exact hres.elim
  | .ok (.ret u), hres =>
    obtain ⟨z, H', I', rz, x, rfl, q⟩ := I.after hres
    obtain ⟨t, rfl⟩ := rz
    exact ⟨.str x, H', I', ⟨t, rfl⟩, q⟩
end MM
namespace MM
open PySem PySem.Spec PySem.Calls PyProof.Rows L2
/-! ### x in [..] where a comparison runs code of its own -/
section
variable {prog : Program} {w : World} {A : Around} {R : Result → Shared → Prop}
theorem in_loopG (l : Addr) (x : Value) (N : Nat) (B : Nat → Bool) (Iv : Nat → Shared → Prop)
    (hl : ∀ i s, Iv i s → ∃ (its : Array Value) (n : Nat), s.heap.get? l = some { cls := .type "list", data := .seq its n } ∧ its.size = N ∧ ∀ h : i < its.size, wpAny (model prog w) A.in1 (eqBool its[i] x) (fun r s' => r = B i ∧ Iv (i + 1) s') (fun e s' => R (.error e) s') s)
    (fT : ∀ i s, i < N → B i = true → Iv (i + 1) s → R (.ok (.ret (.bool true))) s) (fF : (∀ j, j < N → B j = false) → ∀ s, Iv N s → R (.ok (.ret (.bool false))) s) (k : Nat) :
    ∀ i : Nat, N - i = k → i ≤ N → (∀ j, j < i → B j = false) → ∀ s, Iv i s →
      wpAny (model prog w) A.in1 (Builtin.«list.__contains__.loop» ⟨[.ref l, x, rawInt i], []⟩) (GQ.FinOf prog w A R) (fun e s' => R (.error e) s') s := by
  induction k with
  | zero =>
    intro i hk hi hno s h
    obtain ⟨its, n, h1, hs, _⟩ := hl _ _ h
    have ei : i = N := by omega
    subst ei
    have hR := fF hno s h
    obtain ⟨hp, g, d, tk, os⟩ := s
    wp_walk using wpAny_loadPart' h1
    have e1 : its[((i : Nat) : Int).toNat]? = none := by simp; omega
    rw [e1]
    wp_walk
    exact hR
  | succ k ih =>
    intro i hk hi hno s h
    obtain ⟨its, n, h1, hs, turn⟩ := hl _ _ h
    have hlt : i < its.size := by omega
    have ht := turn hlt
    obtain ⟨hp, g, d, tk, os⟩ := s
    wp_walk using wpAny_loadPart' h1
    have e1 : its[((i : Nat) : Int).toNat]? = some its[i] := by simp [hlt]
    have hc : ((i : Int) + 1) = ((i + 1 : Nat) : Int) := by omega
    rw [e1]
    refine wpAny_bind (wpAny_mono ht (fun r s2 h2 => ?_) fun _ _ z => z)
    obtain ⟨hr, h2⟩ := h2
    cases hb : B i with
    | true =>
      rw [hb] at hr
      subst hr
      have hR := fT i s2 (by omega) hb h2
      obtain ⟨hp2, g2, d2, tk2, os2⟩ := s2
      wp_walk
      exact hR
    | false =>
      rw [hb] at hr
      subst hr
      have hrec := ih (i + 1) (by omega) (by omega) (fun j hj => by
        by_cases e : j = i
        · subst e
          exact hb
        · exact hno j (by omega)) s2 h2
      obtain ⟨hp2, g2, d2, tk2, os2⟩ := s2
      wp_walk
      rw [hc]
      exact ⟨plainId_quiet PySem.MeetsSeq.plain_contains_loop _, codeAny_builtin PySem.MeetsSeq.entry_contains_loop (by
        rw [Around.under_plainId PySem.MeetsSeq.plain_contains_loop _]
        exact hrec)⟩
theorem in_listG {E : Value → Shared → Prop} {s : Shared} {Q : Value → Shared → Prop} (l : Addr) (x : Value) (N : Nat) (B : Nat → Bool) (Iv : Nat → Shared → Prop)
    (hl : ∀ i s, Iv i s → ∃ (its : Array Value) (n : Nat), s.heap.get? l = some { cls := .type "list", data := .seq its n } ∧ its.size = N ∧ ∀ h : i < its.size, wpAny (model prog w) A.in1 (eqBool its[i] x) (fun r s' => r = B i ∧ Iv (i + 1) s') E s)
    (fT : ∀ i s, i < N → B i = true → Iv (i + 1) s → Q (.bool true) s) (fF : (∀ j, j < N → B j = false) → ∀ s, Iv N s → Q (.bool false) s) (h : Iv 0 s) : wpAny (model prog w) A (compareOp .In x (.ref l)) Q E s := by
  obtain ⟨its, n, h1, _, _⟩ := hl _ _ h
  show wpAny _ A (do return .bool (← contains (.ref l) x)) Q E s
  refine wpAny_bind (wpAny_contains_slot ⟨_, h1, rfl⟩ F.slot_list_contains (wpAny_mono (GQ.call_here (Q := fun v s' => ∃ b, v = .bool b ∧ Q (.bool b) s') F.slot_list_contains ⟨_, h1, rfl⟩ F.entry_list_contains (F.args_list_contains_2 _ _) ?_) (fun v s' hv => ?_) fun _ _ e => e))
  · have go := in_loopG (prog := prog) (w := w) (A := A) (R := wants (fun v s' => ∃ b, v = .bool b ∧ Q (.bool b) s') E) l x N B Iv hl (fun i s hi hb q => ⟨true, rfl, fT i s hi hb q⟩) (fun hno s q => ⟨false, rfl, fF hno s q⟩) (N - 0) 0 rfl (Nat.zero_le _) (fun j hj => absurd hj (Nat.not_lt_zero j)) s h
    obtain ⟨hp, g, d, tk, os⟩ := s
    wp_walk
    exact ⟨plainId_quiet PySem.MeetsSeq.plain_contains_loop _, codeAny_builtin PySem.MeetsSeq.entry_contains_loop (by
      rw [Around.under_plainId PySem.MeetsSeq.plain_contains_loop _]
      exact go)⟩
  · obtain ⟨b, rfl, hq⟩ := hv
    exact wpAny_truthy_bool (wpAny_pure hq)
end
/-- == inside a builtin, with either answer: it may run code, and the heap may grow -/
def EqB (X : Cx) (n : Nat) (D : V → V → Hp → Bool → Prop) : Prop :=
  ∀ (A : Around) (pins : List (Addr × Obj)) (s : Shared) (σ : L2.St) (H : Hp) (x y : V) (u v : Value) (b : Bool), L2.Sub X n A → Inv X pins σ H s → RelV x u → RelV y v → D x y H b →
    wpAny (model X.prog X.w) A (eqBool u v) (fun r s' => r = b ∧ ∃ H', Inv X pins σ H' s' ∧ Ext H H') X.xe s
/-- x in [..]: B i tells whether the i-th thing is == x -/
def rInG (D : V → V → Hp → Bool → Prop) : R2 := fun x y H Q => ∃ (p : Addr) (xs : List V) (B : Nat → Bool), y = .ref p ∧ H p = some (.lst xs) ∧ (∀ i z, xs[i]? = some z → ∀ H', Ext H H' → D z x H' (B i)) ∧ ∀ H', Ext H H' → Q (.bl ((List.range xs.length).any B)) H'
theorem op_inG {X : Cx} {n : Nat} {D : V → V → Hp → Bool → Prop} (h : EqB X n D) (hr : Room (n + 1) X.A) : OpR X (compareOp .In) (rInG D) := by
  intro pins s σ H x y v u Q I rx ry hq
  obtain ⟨p, xs, B, rfl, hp, hD, q⟩ := hq
  cases (show u = Value.ref p from ry)
  have sb : L2.Sub X (n + 1) X.A := ⟨hr, rfl⟩
  refine in_listG (A := X.A) p v xs.length B (fun _ s' => ∃ H', Inv X pins σ H' s' ∧ Ext H H') ?_ ?_ ?_ ⟨H, I, Ext.rfl'⟩
  · rintro i s' ⟨H', I', e⟩
    obtain ⟨z, its, k, r, ek⟩ := I'.hok p _ (e _ _ hp)
    refine ⟨its.toArray, k, ek, by rw [List.size_toArray, ← r.length], fun h1 => ?_⟩
    have hi : i < its.length := by simpa using h1
    have hx : i < xs.length := by rw [r.length]; exact hi
    obtain ⟨w, hw, rw'⟩ := r.get (List.getElem?_eq_getElem hx)
    have ew : its.toArray[i] = w := by
      rw [List.getElem?_eq_getElem hi] at hw
      simpa using Option.some.inj hw
    rw [ew]
    refine wpAny_mono (h X.A.in1 pins s' σ H' _ x w v (B i) sb.in1 I' rw' rx (hD i _ (List.getElem?_eq_getElem hx) H' e)) (fun c s2 z2 => ?_) fun _ _ y => y
    obtain ⟨hc, H2, I2, e2⟩ := z2
    exact ⟨hc, H2, I2, e.trans e2⟩
  · rintro i s' hi hb ⟨H', I', e⟩
    refine ⟨.bl true, H', I', rfl, ?_⟩
    have z := q H' e
    have ea : (List.range xs.length).any B = true := List.any_eq_true.mpr ⟨i, List.mem_range.mpr hi, hb⟩
    rw [ea] at z
    exact z
  · rintro hno s' ⟨H', I', e⟩
    refine ⟨.bl false, H', I', rfl, ?_⟩
    have z := q H' e
    have ea : (List.range xs.length).any B = false := by
      rw [List.any_eq_false]
      intro j hj
      rw [hno j (List.mem_range.mp hj)]
      decide
    rw [ea] at z
    exact z
end MM
namespace MM
open PySem PySem.Spec PySem.Calls PyProof.Rows L2
open AutoSeq1 (wpAny_loadPart')
/-! ### plain things == an instance: they decline, the instance's own __eq__ is asked -/
section
theorem int_dec_b (b : Bool) (l C dx : Addr) : Meets (Builtin.«int.__eq__» ⟨[.bool b, .ref l], []⟩) (fun _ R s => s.heap.get? l = some (PySem.W.instObj C dx) ∧ R (.ok (.ret .notImplemented)) s) :=
  .of_wp fun prog w A R s h => by obtain ⟨hp, g, d, tk, os⟩ := s; obtain ⟨hl, h⟩ := h; wp_walk using wpAny_loadPart' hl, wpAny_load hl; exact ⟨_, rfl, h⟩
theorem int_dec_i (b : Int) (u : Tok) (l C dx : Addr) : Meets (Builtin.«int.__eq__» ⟨[.int b u, .ref l], []⟩) (fun _ R s => s.heap.get? l = some (PySem.W.instObj C dx) ∧ R (.ok (.ret .notImplemented)) s) :=
  .of_wp fun prog w A R s h => by obtain ⟨hp, g, d, tk, os⟩ := s; obtain ⟨hl, h⟩ := h; wp_walk using wpAny_loadPart' hl, wpAny_load hl; exact ⟨_, rfl, h⟩
theorem str_dec_s (b : Str) (u : Tok) (l C dx : Addr) : Meets (Builtin.«str.__eq__» ⟨[.str b u, .ref l], []⟩) (fun _ R s => s.heap.get? l = some (PySem.W.instObj C dx) ∧ R (.ok (.ret .notImplemented)) s) :=
  .of_wp fun prog w A R s h => by obtain ⟨hp, g, d, tk, os⟩ := s; obtain ⟨hl, h⟩ := h; wp_walk using wpAny_loadPart' hl, wpAny_load hl; exact ⟨_, rfl, h⟩
end
section
variable {prog : Program} {w : World} {A : Around} {E : Value → Shared → Prop} {s : Shared} {K : PySem.W.Frag} {x C L f dx : Addr} {h₀ : Heap} {m : Str → Option Value} {od : Option Obj} {a : Value} {T : String}
/-- richCompare a x where a is of a built-in type and declines -/
theorem rc_back {Q : Value → Shared → Prop} (hu : A.units < cLine) (F : Fr h₀ L s.heap m) (X₀ : K.In h₀) (I : PySem.W.InstAt s.heap x (PySem.W.instObj C dx) C od) (ha : s.TypeIs a T) (hsub : PySem.W.subIn K (.ref C) (.type T) = some false)
    (one : wpAny (model prog w) A (tryCompare a "__eq__" (.ref x)) (fun r s' => r = none ∧ s' = s) E s)
    (hs : PySem.W.findIn K (.ref C) "__eq__" = some (some (.ref f))) (hf : PySem.W.isFn K (.ref f) = true)
    (h : wpAny (model prog w) A (call (.ref f) [.ref x, a]) (PySem.W.CmpBack Q) E s) : wpAny (model prog w) A (richCompare .Eq a (.ref x)) Q E s := by
  have X := X₀.keeps F.keep
  have two : wpAny (model prog w) A (tryCompare (.ref x) "__eq__" a) (fun r s' => ∃ v, r = some v ∧ Q v s') E s := by
    unfold tryCompare
    refine wpAny_bind (PySem.W.ifBound_K X I hs hf (wpAny_mono h (fun v s' hv => ?_) fun _ _ e => e))
    cases v <;> first | exact hv.elim | exact wpAny_pure ⟨_, rfl, hv⟩
  simp only [richCompare, cmpInfo, ha.oneThing_none]
  refine wpAny_holding (wpAny_bind (wpAny_cRoomFor hu ?_))
  refine wpAny_bind (wpAny_typeOf ha (wpAny_bind (I.type.here ?_)))
  have hne : (Value.type T != Value.ref C) = true := rfl
  simp only [hne, if_true]
  refine wpAny_bind ((PySem.W.looks_subIn X hsub).here ?_)
  simp only [Bool.false_eq_true, if_false, Bool.not_false, if_true]
  refine wpAny_bind (m := tryCompare a _ (.ref x)) (wpAny_mono one (fun r s1 z => ?_) fun _ _ e => e)
  obtain ⟨z1, z2⟩ := z
  subst z1
  subst z2
  refine wpAny_bind (m := tryCompare (.ref x) _ a) (wpAny_mono two (fun r s2 z => ?_) fun _ _ e => e)
  obtain ⟨v, rfl, hq⟩ := z
  exact wpAny_pure hq
end

/-! ### == inside a builtin by an own __eq__, either way about -/
/-- what is of a built-in type and declines beside an instance -/
inductive Pl (K : PySem.W.Frag) (H : Hp) : V → String → Prop where
  | non : Pl K H .non "NoneType"
  | bl (b : Bool) : Pl K H (.bl b) "bool"
  | int (i : Int) : Pl K H (.int i) "int"
  | str (x : Str) : Pl K H (.str x) "str"
  | tup {a : Addr} {xs : List V} (h : H a = some (.tup xs)) : Pl K H (.ref a) "tuple"
  | lst {a : Addr} {xs : List V} (h : H a = some (.lst xs)) : Pl K H (.ref a) "list"
section
variable {prog : Program} {w : World} {A : Around} {E : Value → Shared → Prop} {s : Shared} {K : PySem.W.Frag} {x l C dx : Addr} {od : Option Obj}
theorem tup_dec {items : Array Value} {Q : Option Value → Shared → Prop} (X : K.In s.heap) (I : PySem.W.InstAt s.heap x (PySem.W.instObj C dx) C od) (hl : s.heap.IsTuple l items) (hsub : PySem.W.subIn K (.ref C) (.type "tuple") = some false) (q : Q none s) :
    wpAny (model prog w) A (tryCompare (.ref l) "__eq__" (.ref x)) Q E s := by
  obtain ⟨⟨cls, dd, data, sl⟩, ho, hc, n, hd⟩ := id hl
  simp only at hc hd
  subst hc hd
  refine wpAny_tryCompare_declines ⟨_, ho, rfl⟩ PySem.F.slot_tuple_eq (GQ.call_here PySem.F.slot_tuple_eq ⟨_, ho, rfl⟩ PySem.F.entry_tuple_eq (PySem.F.args_tuple_eq_2 _ _) ?_)
  have L : PySem.W.Looks (model prog w) s.heap (isInstance (.ref x) (.type "tuple")) false := I.type.andThen (PySem.W.looks_subIn X hsub)
  obtain ⟨hp, g, d, tk, os⟩ := s
  wp_walk using wpAny_loadPart' ho, L.here
  exact ⟨rfl, q⟩
theorem lst_dec {items : Array Value} {n : Nat} {Q : Option Value → Shared → Prop} (X : K.In s.heap) (I : PySem.W.InstAt s.heap x (PySem.W.instObj C dx) C od) (ho : s.heap.get? l = some { cls := .type "list", data := .seq items n }) (hsub : PySem.W.subIn K (.ref C) (.type "list") = some false) (q : Q none s) :
    wpAny (model prog w) A (tryCompare (.ref l) "__eq__" (.ref x)) Q E s := by
  refine wpAny_tryCompare_declines ⟨_, ho, rfl⟩ PySem.F.slot_list_eq (GQ.call_here PySem.F.slot_list_eq ⟨_, ho, rfl⟩ PySem.F.entry_list_eq (PySem.F.args_list_eq_2 _ _) ?_)
  have L : PySem.W.Looks (model prog w) s.heap (isInstance (.ref x) (.type "list")) false := I.type.andThen (PySem.W.looks_subIn X hsub)
  obtain ⟨hp, g, d, tk, os⟩ := s
  wp_walk using wpAny_loadPart' ho, L.here
  exact ⟨rfl, q⟩
end
theorem pl_dec {X : Cx} {pins : List (Addr × Obj)} {σ : L2.St} {H : Hp} {s : Shared} {A : Around} {z : V} {u : Value} {T : String} {x C dx : Addr} {od : Option Obj} {E : Value → Shared → Prop} (I : Inv X pins σ H s) (p : Pl X.K H z T) (r : RelV z u) (J : PySem.W.InstAt s.heap x (PySem.W.instObj C dx) C od)
    (hsub : PySem.W.subIn X.K (.ref C) (.type T) = some false) : s.TypeIs u T ∧ wpAny (model X.prog X.w) A (tryCompare u "__eq__" (.ref x)) (fun r s' => r = none ∧ s' = s) E s := by
  cases p with
  | non =>
    cases (show u = Value.none from r)
    exact ⟨rfl, wpAny_tryCompare_declines rfl PySem.F.slot_NoneType_eq (call_gives PySem.F.slot_NoneType_eq rfl PySem.F.entry_NoneType_eq (PySem.F.args_NoneType_eq_2 _ _) (SeqAt.NoneType___eq___none_ref_0 x) ⟨rfl, rfl, rfl⟩)⟩
  | bl b =>
    cases (show u = Value.bool b from r)
    exact ⟨rfl, wpAny_tryCompare_declines rfl PySem.F.slot_bool_eq (call_meets PySem.F.slot_bool_eq rfl PySem.F.entry_int_eq (PySem.F.args_int_eq_2 _ _) (int_dec_b b x C dx) ⟨J.at_, rfl, rfl, rfl⟩)⟩
  | int i =>
    obtain ⟨t, rfl⟩ := r
    exact ⟨typeIs_int s i t, wpAny_tryCompare_declines (typeIs_int s i t) PySem.F.slot_int_eq (call_meets PySem.F.slot_int_eq (typeIs_int s i t) PySem.F.entry_int_eq (PySem.F.args_int_eq_2 _ _) (int_dec_i i t x C dx) ⟨J.at_, rfl, rfl, rfl⟩)⟩
  | str y =>
    obtain ⟨t, rfl⟩ := r
    exact ⟨typeIs_str s y t, wpAny_tryCompare_declines (typeIs_str s y t) PySem.F.slot_str_eq (call_meets PySem.F.slot_str_eq (typeIs_str s y t) PySem.F.entry_str_eq (PySem.F.args_str_eq_2 _ _) (str_dec_s y t x C dx) ⟨J.at_, rfl, rfl, rfl⟩)⟩
  | tup h =>
    rename_i a xs
    cases (show u = Value.ref a from r)
    obtain ⟨its, r2, e, z⟩ := I.tuple (SqT.of h)
    refine ⟨?_, tup_dec I.kIn J e hsub ⟨rfl, rfl⟩⟩
    obtain ⟨o, ho, hc, n, hd⟩ := e
    exact ⟨o, ho, hc⟩
  | lst h =>
    rename_i a xs
    cases (show u = Value.ref a from r)
    obtain ⟨z, its, k, r2, e⟩ := I.hok a _ h
    exact ⟨⟨_, e, rfl⟩, lst_dec I.kIn J e hsub ⟨rfl, rfl⟩⟩
def DOwn (K : PySem.W.Frag) (C : Addr) (sp : Sp) (E : XK) : V → V → Hp → Bool → Prop := fun z x H b =>
  (∃ (a dx : Addr) (fs : List (Str × V)), z = .ref a ∧ H a = some (.ins C dx fs) ∧ ((x = .ref a ∧ b = true) ∨ (x ≠ .ref a ∧ ∃ t, TyX K H x t ∧ PySem.W.notFirst K C t = true ∧ sp [z, x] H (fun v H' => v = .bl b ∧ Ext H H') E))) ∨
  (∃ (a dx : Addr) (fs : List (Str × V)) (T : String), x = .ref a ∧ H a = some (.ins C dx fs) ∧ Pl K H z T ∧ PySem.W.subIn K (.ref C) (.type T) = some false ∧ sp [x, z] H (fun v H' => v = .bl b ∧ Ext H H') E)
theorem rel_ne {x : V} {v : Value} {a : Addr} (r : RelV x v) (h : x ≠ .ref a) : (Value.ref a == v) = false ∧ (v == Value.ref a) = false := by
  constructor
  · rw [beq_eq_false_iff_ne]
    intro z
    subst z
    apply h
    cases x <;> first | (cases r; rfl) | (obtain ⟨_, z⟩ := r; cases z) | (cases r)
  · rw [beq_eq_false_iff_ne]
    intro z
    subst z
    apply h
    cases x <;> first | (cases r; rfl) | (obtain ⟨_, z⟩ := r; cases z) | (cases r)
theorem env_sub {X : Cx} {n : Nat} {A : Around} {pins : List (Addr × Obj)} {σ : L2.St} {H : Hp} {s : Shared} (sb : L2.Sub X n A) (I : Inv X pins σ H s) : Env0 X.prog X.w X.K X.mg X.base A X.stack s H := by
  have e := I.env0
  exact ⟨by rw [sb.fr]; exact e.frames, e.mod, e.bs, e.bsz, e.funs, e.frf, e.hok, e.bare⟩
theorem eqB_own {X : Cx} {n : Nat} {CX : CXT} {C f : Addr} {fd : FuncData} {ps : List Str} {sp : Sp} {E : XK} (F : FnOk X.prog X.w X.K X.mg X.base CX n f fd ps sp)
    (hs : PySem.W.findIn X.K (.ref C) "__eq__" = some (some (.ref f))) (hf : PySem.W.isFn X.K (.ref f) = true) (hb : Binds X.K fd ps []) (hx : Passes CX X E) : EqB X n (DOwn X.K C sp E) := by
  intro A pins s σ H x y u v b sb I rx ry d
  have e0 := env_sub sb I
  obtain ⟨m, hF⟩ := I.fr
  -- the call of the own __eq__
  have run : ∀ (p q : V) (p' q' : Value), RelV p p' → RelV q q' → sp [p, q] H (fun v H' => v = .bl b ∧ Ext H H') E →
      wpAny (model X.prog X.w) A (call (.ref f) [p', q']) (PySem.W.CmpBack (fun v s' => v = .bool b ∧ ∃ H', Inv X pins σ H' s' ∧ Ext H H')) X.xe s := by
    intro p q p' q' rp rq hsp
    have hl := F.len _ _ _ _ hsp
    refine wpAny_call (codeAny_mono (F.run A X.stack s H ⟨[p', q'], []⟩ [p', q'] [p, q] _ E sb.room e0 (by
      have := hb s [p', q'] I.kIn (by simpa using hl)
      simpa using this) (.cons rp (.cons rq .nil)) hsp) fun r s' hq => ?_)
    cases r with
    | error e => exact hx pins σ H s e s' I hq
    | ok fl =>
      cases fl with
      | ret w =>
        obtain ⟨z, H', I', rz, ez, ex⟩ := I.after hq
        subst ez
        cases (show w = Value.bool b from rz)
        exact ⟨rfl, H', I', ex⟩
      | next => exact False.elim hq
      | brk => exact False.elim hq
      | cont => exact False.elim hq
  rcases d with ⟨a, dx, fs, rfl, ha, hh⟩ | ⟨a, dx, fs, T, rfl, ha, pl, hsub, hsp⟩
  · cases (show u = Value.ref a from rx)
    rcases hh with ⟨rfl, rfl⟩ | ⟨hne, t, ty, nf, hsp⟩
    · cases (show v = Value.ref a from ry)
      exact SeqAt.EqAt.same (A := A) (s := s) (.ref a) X.prog X.w X.xe _ ⟨rfl, H, I, Ext.rfl'⟩
    · obtain ⟨mA, J, _⟩ := ins_get I.hok ha
      obtain ⟨od, J, _⟩ := J.look
      obtain ⟨P, kx, hP, _⟩ := kit_of I ry ty
      unfold eqBool
      refine wpAny_holding ?_
      rw [(rel_ne ry hne).1]
      simp only [Bool.false_eq_true, if_false]
      refine wpAny_bind (PySem.W.cmp_K (op := .Eq) sb.room.units0 hF I.ok.mod.kin J (kx.ty _ _ I.kIn hP) nf hs hf (wpAny_mono (run (.ref a) y (.ref a) v rfl ry hsp) (fun w s' hw => ?_) fun _ _ z => z))
      cases w with
      | bool c =>
        obtain ⟨hc, q⟩ := (show Value.bool c = .bool b ∧ _ from hw)
        exact wpAny_truthy_bool ⟨Value.bool.inj hc, q⟩
      | notImplemented => exact hw.elim
      | _ =>
        obtain ⟨hc, q⟩ := hw
        cases hc
  · cases (show v = Value.ref a from ry)
    obtain ⟨mA, J, _⟩ := ins_get I.hok ha
    obtain ⟨od, J, _⟩ := J.look
    obtain ⟨ht, dec⟩ := pl_dec (A := A) (E := X.xe) I pl rx J hsub
    have hne : x ≠ .ref a := by
      rintro rfl
      cases pl with
      | tup h =>
        obtain ⟨its, r2, e, z⟩ := I.tuple (SqT.of h)
        obtain ⟨o, ho, hc, _⟩ := e
        rw [J.at_] at ho
        cases ho
        cases hc
      | lst h =>
        rw [ha] at h
        cases h
    unfold eqBool
    refine wpAny_holding ?_
    rw [(rel_ne rx hne).2]
    simp only [Bool.false_eq_true, if_false]
    have go : wpAny (model X.prog X.w) A (richCompare .Eq u (.ref a)) (fun w s' => wpAny (model X.prog X.w) A (truthOfDropped w) (fun r s' => r = b ∧ ∃ H', Inv X pins σ H' s' ∧ Ext H H') X.xe s') X.xe s := by
      refine rc_back sb.room.units0 hF I.ok.mod.kin J ht hsub dec hs hf (wpAny_mono (run (.ref a) x (.ref a) u rfl rx hsp) (fun w s' hw => ?_) fun _ _ z => z)
      cases w with
      | bool c =>
        obtain ⟨hc, q⟩ := (show Value.bool c = .bool b ∧ _ from hw)
        exact wpAny_truthy_bool ⟨Value.bool.inj hc, q⟩
      | notImplemented => exact hw.elim
      | _ =>
        obtain ⟨hc, q⟩ := hw
        cases hc
    cases u <;> exact wpAny_bind go
theorem op_inO {X : Cx} {CX : CXT} {k j : Nat} {C : Addr} {qual : Str} {st : Stmt} {ps : List Str} {sp : Sp} {E : XK} (c : Cm X.prog X.w X.K X.mg X.base CX k C "__eq__" qual st ps sp) (b : Bd "__eq__" qual st ps) (hx : Passes CX X E) (hr : Room j X.A) (hk : k + 1 ≤ j) :
    OpR X (compareOp .In) (rInG (DOwn X.K C sp E)) := by
  obtain ⟨f, fd, F, M, hc, G⟩ := c.ex
  exact op_inG (eqB_own G M.1 M.2 (F.bindsN b) hx) (hr.mono hk)
/-- the built-in types come of no class of the text -/
theorem sub_T {K : PySem.W.Frag} {C : Addr} {T : String} (ms : List String) (e : fastBuiltinMro T = some (ms.map Value.type)) : PySem.W.subIn K (.type T) (.ref C) = some false := by
  show (fastBuiltinMro T).map (·.contains (.ref C)) = some false
  rw [e]
  show some ((ms.map Value.type).contains (.ref C)) = some false
  congr 1
  rw [List.contains_eq_any_beq]
  rw [List.any_eq_false]
  intro x hx
  obtain ⟨m, _, rfl⟩ := List.mem_map.mp hx
  simp
theorem sub_ty {K : PySem.W.Frag} {C : Addr} {H : Hp} {z : V} {T : String} (p : Pl K H z T) : PySem.W.subIn K (.type T) (.ref C) = some false := by
  cases p with
  | non => exact sub_T ["NoneType", "object"] (by decide +kernel)
  | bl b => exact sub_T ["bool", "int", "object"] (by decide +kernel)
  | int i => exact sub_T ["int", "object"] (by decide +kernel)
  | str x => exact sub_T ["str", "object"] (by decide +kernel)
  | tup h => exact sub_T ["tuple", "object"] (by decide +kernel)
  | lst h => exact sub_T ["list", "object"] (by decide +kernel)
theorem Pl.tyx {K : PySem.W.Frag} {H : Hp} {z : V} {T : String} (p : Pl K H z T) : TyX K H z (.type T) := by
  cases p with
  | non => exact .base .non
  | bl b => exact .base (.bl b)
  | int i => exact .base (.int i)
  | str x => exact .base (.str x)
  | tup e => exact .base (.tup e)
  | lst e => exact .base (.lst e)
theorem Pl.first {K : PySem.W.Frag} {C : Addr} {H : Hp} {z : V} {T : String} (p : Pl K H z T) : PySem.W.notFirst K C (.type T) = true := by
  unfold PySem.W.notFirst
  rw [sub_ty p]
  simp
end MM
namespace MM
open PySem PySem.Spec PySem.Calls PyProof.Rows L2
/-! ### truths as texts -/
def blS (b : Bool) : Str := if b then "True" else "False"
section
variable {prog : Program} {w : World} {A : Around} {E : Value → Shared → Prop} {s : Shared}
open Builtin Builtin.Str in
theorem strOf_bool {b : Bool} {Q : Value → Shared → Prop} (h : Q (.str (blS b) s.toks) { s with toks := s.toks + 1 }) : wpAny (model prog w) A (PySem.Builtin.Str.strOf (.bool b)) Q E s := by
  unfold PySem.Builtin.Str.strOf
  rw [show isExactStr (.bool b) = false from rfl]
  simp only [cRoomFor, show [Value.bool b].any Value.onHeap = false from rfl, Bool.false_eq_true, if_false, pure_bind]
  refine wpAny_bind (m := callSpecial? _ (PySem.Str.ofString "__str__")) (wpAny_callSpecial?_slot (name := PySem.Str.ofString "__str__") (PySem.typeIs_bool s b) PySem.F.slot_bool_str (call_object_str_gives (PySem.typeIs_bool s b) PySem.F.slot_bool_str PySem.F.slot_bool_repr PySem.F.entry_bool_repr (PySem.F.args_bool_repr_1 _) (gives_bool_repr b) ?_ rfl (by cases b <;> decide)))
  exact wpAny_pure h
theorem str_of_bool {b : Bool} {Q : Value → Shared → Prop} (h : Q (.str (blS b) s.toks) { s with toks := s.toks + 1 }) : wpAny (model prog w) A (call (.type "str") [.bool b]) Q E s := by
  refine callType_codes (T := "str") (Bi := Builtin.«object.__init__») (Q₁ := fun r s₁ => ∃ y u, r = .str y u ∧ Q r s₁) PySem.F.called_str (PySem.F.typeCall_str_1 _) PySem.F.entry_object_init ?_ ?_
  · refine codeAny_of_tree ?_
    show wpAny _ A.in1.in1 (do checkBuiltinCall "str.__new__" ⟨[.type "str", .bool b], []⟩; again (.builtin "str.__new__" ⟨[.type "str", .bool b], []⟩)) _ _ s
    refine wpAny_bind (wpAny_of_eq (PySem.F.newCall_str_1 _) (wpAny_pure ⟨plainId_quiet (by decide +kernel) _, codeAny_builtin PySem.F.entry_str_new ?_⟩))
    rw [Around.under_plainId (by decide +kernel) _]
    rw [str_new_tree]
    refine wpAny_bind (wpAny_pure ?_)
    refine wpAny_bind (wpAny_of_eq isSubtype_str_str ?_)
    exact wpAny_bind (strOf_bool (wpAny_pure ⟨_, _, rfl, h⟩))
  · rintro obj s₁ ⟨y, u, rfl, hq⟩
    exact ⟨typeIs_str _ _ _, PySem.F.args_object_init_2 _ _, object_init_meets PySem.F.called_str.init.lookup PySem.F.called_str.made (by decide) prog w A.in1 _ s₁ ⟨typeIs_str _ _ _, rfl, hq⟩⟩
end
section
variable {X : Cx}
theorem call_str_bool : CallR X (.type "str") (fun xs H Q => ∃ b, xs = [.bl b] ∧ Q (.str (blS b)) H) := by
  intro pins s σ H xs us Q I r h
  obtain ⟨b, rfl, q⟩ := h
  obtain ⟨u, rfl, r1⟩ := vals1 r
  cases (show u = Value.bool b from r1)
  exact str_of_bool ⟨.str _, H, I.tok _, ⟨_, rfl⟩, q⟩
/-- str of a whole number or a truth -/
theorem call_strIB : CallR X (.type "str") (fun xs H Q => (∃ i : Int, xs = [.int i] ∧ i.natAbs.log2 < 1920 ∧ Q (.str (toString i)) H) ∨ ∃ b, xs = [.bl b] ∧ Q (.str (blS b)) H) := CallR.or call_str_int call_str_bool
/-- {x} of a truth -/
def tFmtB (te : TE) : TE := fun σ H Q => te σ H fun x H1 => ∃ b : Bool, x = .bl b ∧ Q (.str (blS b)) H1
theorem pe_fmtB {e : Expr} {te : TE} {pos : Pos} (he : PE X e te) : PE X (.FormattedValue e (-1) none pos) (tFmtB te) := by
  refine ⟨fun pins s σ H Q I h => ?_⟩
  refine wpAny_FormattedValue_plain (thn (he.run pins s σ H _ I h) fun v s1 hv => ?_)
  obtain ⟨x, H1, I1, r1, b, rfl, q⟩ := hv
  cases (show v = Value.bool b from r1)
  exact wpAny_formatField_bool ⟨.str (blS b), H1, I1.tok _, ⟨_, rfl⟩, q⟩
end
/-- str(x) of a whole number, a truth, or an instance with its own __str__ -/
@[irreducible] def rSA (C : Addr) (sp : Sp) (E : XK) : List V → Hp → VK → Prop := fun xs H Q => ((∃ i : Int, xs = [.int i] ∧ i.natAbs.log2 < 1920 ∧ Q (.str (toString i)) H) ∨ ∃ b, xs = [.bl b] ∧ Q (.str (blS b)) H) ∨ rStrO C sp E xs H Q
theorem sa_int {C : Addr} {sp : Sp} {E : XK} {H : Hp} {Q : VK} {i : Int} (h : i.natAbs.log2 < 1920) (q : Q (.str (toString i)) H) : rSA C sp E [.int i] H Q := by
  unfold rSA
  exact .inl (.inl ⟨i, rfl, h, q⟩)
theorem sa_bl {C : Addr} {sp : Sp} {E : XK} {H : Hp} {Q : VK} {b : Bool} (q : Q (.str (blS b)) H) : rSA C sp E [.bl b] H Q := by
  unfold rSA
  exact .inl (.inr ⟨b, rfl, q⟩)
theorem sa_own {C : Addr} {sp : Sp} {E : XK} {H : Hp} {Q : VK} {a dx : Addr} {fs : List (Str × V)} (e : H a = some (.ins C dx fs)) (q : sp [.ref a] H (fun v H' => ∃ x : Str, v = .str x ∧ Q (.str x) H') E) : rSA C sp E [.ref a] H Q := by
  unfold rSA
  exact .inr ⟨a, dx, fs, rfl, e, q⟩
theorem call_str_SA {X : Cx} {CX : CXT} {k : Nat} {C : Addr} {qual : Str} {st : Stmt} {ps : List Str} {sp : Sp} {E : XK} (c : Cm X.prog X.w X.K X.mg X.base CX k C "__str__" qual st ps sp) (b : Bd "__str__" qual st ps) (hr : Room (k + 2) X.A) (hx : Passes CX X E) :
    CallR X (.type "str") (rSA C sp E) := by
  obtain ⟨f, fd, F, M, hc, G⟩ := c.ex
  unfold rSA
  exact CallR.or call_strIB (call_strO G M.1 M.2 (F.bindsN b) hx hr)
theorem call_reprC {X : Cx} {CX : CXT} {k : Nat} {C : Addr} {qual : Str} {st : Stmt} {ps : List Str} {sp : Sp} {E : XK} (c : Cm X.prog X.w X.K X.mg X.base CX k C "__repr__" qual st ps sp) (b : Bd "__repr__" qual st ps) (hr : Room (k + 1) X.A) (hx : Passes CX X E) :
    CallR X (.builtin "repr") (rReprO C sp E) := by
  obtain ⟨f, fd, F, M, hc, G⟩ := c.ex
  exact call_reprO G M.1 M.2 (F.bindsN b) hx hr
theorem ln (xs : List V) (h : Nat.ble xs.length 1000 = true := by rfl) : xs.length ≤ sizeLine := Nat.le_trans (Nat.le_of_ble_eq_true h) (by decide)
end MM
namespace MM
open PySem PySem.Spec PySem.Calls PyProof.Rows L2
/-- an own class that comes of no built-in one -/
structure OwnC (K : PySem.W.Frag) (C : Addr) : Prop where
  iC : PySem.W.isClsIn K C = true
  tC : PySem.W.typeIn K (.ref C) = some (.type "type")
  bn : PySem.W.subIn K (.ref C) (.type "NoneType") = some false
  bb : PySem.W.subIn K (.ref C) (.type "bool") = some false
  bi : PySem.W.subIn K (.ref C) (.type "int") = some false
  bs : PySem.W.subIn K (.ref C) (.type "str") = some false
  bt : PySem.W.subIn K (.ref C) (.type "tuple") = some false
  bl : PySem.W.subIn K (.ref C) (.type "list") = some false
theorem OwnC.sub {K : PySem.W.Frag} {C : Addr} {H : Hp} {z : V} {T : String} (o : OwnC K C) (p : Pl K H z T) : PySem.W.subIn K (.ref C) (.type T) = some false := by
  cases p with
  | non => exact o.bn
  | bl _ => exact o.bb
  | int _ => exact o.bi
  | str _ => exact o.bs
  | tup _ => exact o.bt
  | lst _ => exact o.bl
theorem OwnC.kit {K : PySem.W.Frag} {C : Addr} {H : Hp} {z : V} {T : String} (o : OwnC K C) (p : Pl K H z T) : PySem.W.kitOne K (.type T) (.ref C) = some false := kit_no o.iC o.tC (by simp) (sub_ty p)
theorem Pl.ext {K : PySem.W.Frag} {H H' : Hp} {z : V} {T : String} (p : Pl K H z T) (e : Ext H H') : Pl K H' z T := by
  cases p with
  | non => exact .non
  | bl b => exact .bl b
  | int i => exact .int i
  | str x => exact .str x
  | tup h => exact .tup (e _ _ h)
  | lst h => exact .lst (e _ _ h)
theorem Pl.ne {K : PySem.W.Frag} {H : Hp} {z : V} {T : String} {a C dx : Addr} {fs : List (Str × V)} (p : Pl K H z T) (e : H a = some (.ins C dx fs)) : z ≠ .ref a := by
  rintro rfl
  cases p with
  | tup h =>
    rw [e] at h
    cases h
  | lst h =>
    rw [e] at h
    cases h
end MM
namespace MM
open PySem PySem.Spec PyProof.Rows L2
/-! ### a class called in a try, the names as they stand at the call -/
section
variable {X : Cx} {k j n d : Nat} {C f : Addr} {fd : FuncData} {ps ks : List Str} {sp : Sp} {dvs : List V} {ds : List Value} {x qual : Str} {st : Stmt} {p pos : Pos} {e : Expr} {es : List Expr} {kws : List Keyword} {t tk : TA} {W : WX}
theorem make_S {pins : List (Addr × Obj)} {σ : L2.St} {H : Hp} {s : Shared} {Q : VK} {us : List Value} {zs : List V} {bs : List Value} {kv : List (Str × Value)} (M : Mk X.K C f) (F : FnOk X.prog X.w X.K X.mg X.base (L2.CX X.prog X.w) k f fd ps sp) (hr : Room (k + 1) X.A) (ht : Takes X W) (I : Inv X pins σ H s)
    (hb : ∀ s', X.K.In s'.heap → BindsTo s' fd ⟨Value.ref (s.heap.objs.size + 1) :: us, kv⟩ (ps.zip bs)) (r2 : Vals zs bs)
    (h : sp zs (L2.upd (L2.upd H s.heap.objs.size (.own (s.heap.objs.size + 1))) (s.heap.objs.size + 1) (.ins C s.heap.objs.size [])) (fun v H2 => v = .non ∧ Q (.ref (s.heap.objs.size + 1)) H2) (fun c d H' => W c d σ H')) :
    wpAny (model X.prog X.w) X.A (call (.ref C) us kv) (EP X pins σ Q) X.xe s := by
  have J := Inv.made (C := C) I
  have go := F.run _ X.stack _ _ ⟨Value.ref (s.heap.objs.size + 1) :: us, kv⟩ bs zs _ _ (hr.make C us kv) (J.env0.make C us kv) (hb _ J.kIn) r2 h
  refine wpAny_call (make_map (f := f) I.kIn M.makes M.init (beq_iff_eq.mp M.fn) (codeAny_mono go fun res s' hq => ?_))
  match res, hq with
  | .error er, hq => exact ht er s' (XE.of_call J (fun _ _ _ z => z) hq)
  | .ok .next, hq => exact hq.elim
  | .ok .brk, hq => exact hq.elim
  | .ok .cont, hq => exact hq.elim
  | .ok (.ret u), hq =>
    obtain ⟨v, H3, K3, rv, ev, q3⟩ := J.after hq
    subst ev
    exact ⟨rv, ⟨V.ref (s.heap.objs.size + 1), H3, K3, rfl, q3⟩⟩
/-- C(e, ..) -/
theorem pe_ciS (c : Ci X.prog X.w X.K X.mg X.base (L2.CX X.prog X.w) k x C qual st dvs ps sp) (b : Bd1 "__init__" qual st ps n d dvs.length) (hd : dvs ≠ []) (hn : n + (dvs.length - d) = ps.length) (hr : Room j X.A) (hk : k + 1 ≤ j) (ht : Takes X W) (hg : Gl X x) (ha : PA X (e :: es) t)
    (hdb : (x == ("__debug__" : Str)) = false := by decide) (he : starEach (e :: es) X.env = (false, eval e X.env) :: starEach es X.env := by rfl) (hpl : (backTo pos (starEach es X.env)).any (·.1) = false := by rfl) :
    PE X (.Call (.Name x p) (e :: es) [] pos) (fun σ H Q => t σ H fun vs H1 => ∀ a dx, H1 a = none → H1 dx = none → dx ≠ a → sp (.ref a :: (vs ++ dvs.drop d)) (L2.upd (L2.upd H1 dx (.own a)) a (.ins C dx [])) (fun v H2 => v = .non ∧ Q (.ref a) H2) (fun c d H' => W c d σ H')) := by
  obtain ⟨f, fd, F, M, hm, G⟩ := c.ex
  obtain ⟨ds, r, bb⟩ := F.binds1 n d hd hn b
  refine ⟨fun pins s σ H Q I h => ?_⟩
  refine wpAny_Call_Name_kw (ld_glob I hg hm ?_ hdb)
  refine PySem.W.callWith_K (h₀ := X.base) I.ok.mod.kin M.kp (thn (ha.run pos pins s σ H _ I h) fun us s1 ⟨vs, H1, I1, rv, q⟩ => ⟨I1.kIn, ?_⟩) he hpl
  have hq := q (s1.heap.objs.size + 1) s1.heap.objs.size (I1.hok.fresh (Nat.le_succ _)) (I1.hok.fresh (Nat.le_refl _)) (Nat.ne_of_lt (Nat.lt_succ_self _))
  have r2 : Vals (V.ref (s1.heap.objs.size + 1) :: (vs ++ dvs.drop d)) (Value.ref (s1.heap.objs.size + 1) :: (us ++ ds)) := .cons rfl (rv.append r)
  refine make_S M G (hr.mono hk) ht I1 (fun s' hK => ?_) r2 hq
  exact bb s' (Value.ref (s1.heap.objs.size + 1) :: us) hK (r2.length.symm.trans (G.len _ _ _ _ hq))
/-- C(k = v, ..) -/
theorem pe_ciKS0 {g : {α : Type} → List α → List α → List α → List α} (c : Ci X.prog X.w X.K X.mg X.base (L2.CX X.prog X.w) k x C qual st dvs ps sp) (b : Kd qual st dvs.length 1 ks ps g) (hd : dvs ≠ []) (hr : Room j X.A) (hk : k + 1 ≤ j) (ht : Takes X W) (hg : Gl X x) (hkw : PK X kws tk)
    (hall : (backToKw pos (keywordEach kws X.env)).all (·.1.isSome) = true := by rfl) (hks : (backToKw pos (keywordEach kws X.env)).filterMap (·.1) = ks := by rfl) (hdb : (x == ("__debug__" : Str)) = false := by decide)
    (hpl : ((backTo pos (starEach [] X.env)).any (·.1) || (backToKw pos (keywordEach kws X.env)).any (·.1.isNone)) = false := by rfl) :
    PE X (.Call (.Name x p) [] kws pos) (fun σ H Q => tk σ H fun zs H1 => zs.length = ks.length ∧ ∀ a dx, H1 a = none → H1 dx = none → dx ≠ a → sp (g [.ref a] dvs zs) (L2.upd (L2.upd H1 dx (.own a)) a (.ins C dx [])) (fun v H2 => v = .non ∧ Q (.ref a) H2) (fun c d H' => W c d σ H')) := by
  obtain ⟨f, fd, F, M, hm, G⟩ := c.ex
  obtain ⟨its, hb⟩ := F.kbindsD 1 ks g hd b.rel b.bind
  refine ⟨fun pins s σ H Q I h => ?_⟩
  refine wpAny_Call_Name_kw (ld_glob I hg hm ?_ hdb)
  refine PySem.W.callWith_KW0 (h₀ := X.base) I.ok.mod.kin M.kp hall ?_ hpl
  refine thn (hkw.run pos pins s σ H _ I h) fun ws s1 ⟨zs, H1, I1, rz, l2, q⟩ => ⟨I1.kIn, ?_⟩
  rw [hks]
  have hq := q (s1.heap.objs.size + 1) s1.heap.objs.size (I1.hok.fresh (Nat.le_succ _)) (I1.hok.fresh (Nat.le_refl _)) (Nat.ne_of_lt (Nat.lt_succ_self _))
  have r2 := hb.rel (vs := [V.ref (s1.heap.objs.size + 1)]) (us := [Value.ref (s1.heap.objs.size + 1)]) (.cons rfl .nil) rz
  refine make_S (us := []) M G (hr.mono hk) ht I1 (fun s' hK => ?_) r2 hq
  exact hb.to s' [Value.ref (s1.heap.objs.size + 1)] ws hK rfl (rz.length.symm.trans l2)
/-- C(e, .., k = v, ..) -/
theorem pe_ciKS {g : {α : Type} → List α → List α → List α → List α} (c : Ci X.prog X.w X.K X.mg X.base (L2.CX X.prog X.w) k x C qual st dvs ps sp) (b : Kd qual st dvs.length (n + 1) ks ps g) (hd : dvs ≠ []) (hr : Room j X.A) (hk : k + 1 ≤ j) (ht : Takes X W) (hg : Gl X x) (ha : PA X (e :: es) t) (hkw : PK X kws tk)
    (hall : (backToKw pos (keywordEach kws X.env)).all (·.1.isSome) = true := by rfl) (hks : (backToKw pos (keywordEach kws X.env)).filterMap (·.1) = ks := by rfl) (hdb : (x == ("__debug__" : Str)) = false := by decide)
    (he : starEach (e :: es) X.env = (false, eval e X.env) :: starEach es X.env := by rfl) (hpl : ((backTo pos (starEach (e :: es) X.env)).any (·.1) || (backToKw pos (keywordEach kws X.env)).any (·.1.isNone)) = false := by rfl) :
    PE X (.Call (.Name x p) (e :: es) kws pos) (fun σ H Q => t σ H fun vs H0 => tk σ H0 fun zs H1 => vs.length = n ∧ zs.length = ks.length ∧ ∀ a dx, H1 a = none → H1 dx = none → dx ≠ a → sp (g (.ref a :: vs) dvs zs) (L2.upd (L2.upd H1 dx (.own a)) a (.ins C dx [])) (fun v H2 => v = .non ∧ Q (.ref a) H2) (fun c d H' => W c d σ H')) := by
  obtain ⟨f, fd, F, M, hm, G⟩ := c.ex
  obtain ⟨its, hb⟩ := F.kbindsD (n + 1) ks g hd b.rel b.bind
  refine ⟨fun pins s σ H Q I h => ?_⟩
  refine wpAny_Call_Name_kw (ld_glob I hg hm ?_ hdb)
  refine PySem.W.callWith_KW (h₀ := X.base) I.ok.mod.kin M.kp hall (thn (ha.run pos pins s σ H _ I h) fun us s0 ⟨vs, H0, I0, r, q0⟩ => ?_) hpl he
  refine thn (hkw.run pos pins s0 σ H0 _ I0 q0) fun ws s1 ⟨zs, H1, I1, rz, l1, l2, q⟩ => ⟨I1.kIn, ?_⟩
  rw [hks]
  have hq := q (s1.heap.objs.size + 1) s1.heap.objs.size (I1.hok.fresh (Nat.le_succ _)) (I1.hok.fresh (Nat.le_refl _)) (Nat.ne_of_lt (Nat.lt_succ_self _))
  have r2 := hb.rel (vs := V.ref (s1.heap.objs.size + 1) :: vs) (us := Value.ref (s1.heap.objs.size + 1) :: us) (.cons rfl r) rz
  refine make_S M G (hr.mono hk) ht I1 (fun s' hK => ?_) r2 hq
  exact hb.to s' (Value.ref (s1.heap.objs.size + 1) :: us) ws hK (by rw [List.length_cons, ← r.length, l1]) (rz.length.symm.trans l2)
end
end MM
namespace MM
open PySem PySem.Spec PySem.Calls PyProof.Rows L2
open AutoSeq1 (wpAny_loadPart')
open GQ (FinOf call_here)
/-! ### tuples of instances, != -/
section
variable {prog : Program} {w : World} {A : Around} {R : Result → Shared → Prop}
theorem tup_ne (l b : Addr) (xs ys : Array Value) (n m : Nat) (dd de : Option Addr) (sl sm : Array (Option Value)) (hz : xs.size = ys.size) (Iv : Nat → Shared → Prop)
    (turn : ∀ i (h1 : i < xs.size) (h2 : i < ys.size) s, Iv i s → wpAny (model prog w) A.in1 (eqBool xs[i] ys[i]) (fun r s' => r = true ∧ Iv (i + 1) s') (fun e s' => R (.error e) s') s)
    (fin : ∀ s, Iv xs.size s → R (.ok (.ret (.bool false))) s) {s : Shared} (ha : s.heap.get? l = some { cls := .type "tuple", dict := dd, data := .seq xs n, slots := sl }) (hb : s.heap.get? b = some { cls := .type "tuple", dict := de, data := .seq ys m, slots := sm }) (h : Iv 0 s) :
    wpAny (model prog w) A.in1 (Builtin.«tuple.__ne__» ⟨[.ref l, .ref b], []⟩) (FinOf prog w A R) (fun e s' => R (.error e) s') s := by
  have f2 := AutoSeq1.sub_tuple_tuple
  have hZ : (xs.toList.zip ys.toList).length = xs.size := by simp [hz]
  have h0 := h
  obtain ⟨hp, g, d, tk, os⟩ := s
  wp_walk using wpAny_loadPart' ha, wpAny_loadPart' hb, wpAny_forIn_list _ (fun rest b s' => b.1 = none ∧ ∃ i, rest = (xs.toList.zip ys.toList).drop i ∧ i ≤ xs.size ∧ Iv i s') _
  case turn =>
    rintro ⟨y, x⟩ rest b s' ⟨hb', i, hq, hi, hI⟩
    have hlt : i < (xs.toList.zip ys.toList).length := by
      by_cases h' : i < (xs.toList.zip ys.toList).length
      · exact h'
      · rw [List.drop_of_length_le (by omega)] at hq
        cases hq
    have h1 : i < xs.size := hZ ▸ hlt
    have h2 : i < ys.size := hz ▸ h1
    rw [List.drop_eq_getElem_cons hlt] at hq
    injection hq with hyx hrest
    have hy : y = xs[i] := by have := congrArg Prod.fst hyx; simpa using this
    have hx : x = ys[i] := by have := congrArg Prod.snd hyx; simpa using this
    subst hy hx
    refine wpAny_bind (wpAny_mono (turn i h1 h2 s' hI) (fun r s2 q2 => ?_) fun _ _ x => x)
    obtain ⟨hr, q2⟩ := q2
    subst hr
    wp_walk
    exact ⟨rfl, i + 1, hrest, h1, q2⟩
  case fin =>
    rintro ⟨b1, b2⟩ s' ⟨hb', i, hq, hi, hI⟩
    simp only at hb'
    subst hb'
    have hge : xs.size ≤ i := by
      by_cases h' : i < (xs.toList.zip ys.toList).length
      · rw [List.drop_eq_getElem_cons h'] at hq
        cases hq
      · omega
    have hi' : i = xs.size := by omega
    have hR : R (.ok (.ret (.bool false))) s' := fin s' (hi' ▸ hI)
    wp_walk
    simpa [Builtin.Tuple.tupleCompareSizes, hz] using hR
  case h =>
    exact ⟨rfl, 0, rfl, Nat.zero_le _, h0⟩
theorem rc_tup_ne {E : Value → Shared → Prop} {s : Shared} {l b : Addr} {xs ys : Array Value} {Q : Value → Shared → Prop} (hz : xs.size = ys.size) (hu : A.units < cLine) (Iv : Nat → Shared → Prop) (hl : s.heap.IsTuple l xs) (hb : s.heap.IsTuple b ys)
    (turn : ∀ i (h1 : i < xs.size) (h2 : i < ys.size) s, Iv i s → wpAny (model prog w) A.in1 (eqBool xs[i] ys[i]) (fun r s' => r = true ∧ Iv (i + 1) s') E s)
    (fin : ∀ s, Iv xs.size s → Q (.bool false) s) (h : Iv 0 s) : wpAny (model prog w) A (richCompare .NotEq (.ref l) (.ref b)) Q E s := by
  obtain ⟨⟨cls, dd, data, sl⟩, ho, hc, n, hd⟩ := id hl
  obtain ⟨⟨cls2, dd2, data2, sl2⟩, ho2, hc2, n2, hd2⟩ := id hb
  simp only at hc hd hc2 hd2
  subst hc hd hc2 hd2
  refine wpAny_richCompare_same_room (op := .NotEq) ⟨_, ho, rfl⟩ ⟨_, ho2, rfl⟩ PySem.F.slot_tuple_ne (call_here PySem.F.slot_tuple_ne ⟨_, ho, rfl⟩ PySem.F.entry_tuple_ne (PySem.F.args_tuple_ne_2 _ _) ?_) hu
  exact tup_ne (R := wants (fun v s' => v ≠ .notImplemented ∧ Q v s') E) l b xs ys n n2 dd dd2 sl sl2 hz Iv turn (fun s' q => ⟨(fun x => nomatch x), fin s' q⟩) ho ho2 h
end
/-- tuples whose things are equal one by one -/
def rNeG (D : Eqv) : R2 := fun x y H Q => D x y H ∧ ∀ H', Ext H H' → Q (.bl false) H'
theorem op_neTG {X : Cx} {n : Nat} {D : Eqv} (hD : Mon D) (h : EqG X n D) (hr : Room (n + 1) X.A) : OpR X (compareOp .NotEq) (rNeG (DTup X.K D)) := by
  intro pins s σ H x y v u Q I rx ry hq
  obtain ⟨⟨a, b, xs, ys, rfl, rfl, ha, hb, p⟩, q⟩ := hq
  cases (show v = Value.ref a from rx)
  cases (show u = Value.ref b from ry)
  have sb : L2.Sub X (n + 1) X.A := ⟨hr, rfl⟩
  obtain ⟨its, r, e, z⟩ := I.tuple ha
  obtain ⟨its2, r2, e2, z2⟩ := I.tuple hb
  have hz : its.toArray.size = its2.toArray.size := by rw [List.size_toArray, List.size_toArray, ← r.length, ← r2.length]; exact p.1
  show wpAny (model X.prog X.w) X.A (richCompare .NotEq (.ref a) (.ref b)) (EP X pins σ Q) X.xe s
  refine rc_tup_ne hz sb.room.units0 (fun _ s' => LoopI X pins σ H s') e e2 (fun i h1 h2 s' q => turnG hD h sb p r r2 i h1 h2 s' q) (fun s' q' => ?_) ⟨H, I, Ext.rfl'⟩
  obtain ⟨H', I', e'⟩ := q'
  exact ⟨.bl false, H', I', rfl, q H' e'⟩
/-- equal things of a class by its own __eq__ -/
theorem eqG_own {X : Cx} {CX : CXT} {k : Nat} {C : Addr} {qual : Str} {st : Stmt} {ps : List Str} {sp : Sp} {E : XK} {D : Eqv} (c : Cm X.prog X.w X.K X.mg X.base CX k C "__eq__" qual st ps sp) (b : Bd "__eq__" qual st ps) (hx : Passes CX X E) (hd : ∀ x y H, D x y H → DOwn X.K C sp E x y H true) : EqG X k D := by
  obtain ⟨f, fd, F, M, hc, G⟩ := c.ex
  intro A pins s σ H x y u v sb I rx ry d
  exact eqB_own G M.1 M.2 (F.bindsN b) hx A pins s σ H x y u v true sb I rx ry (hd x y H d)
end MM
namespace MM
open PySem PySem.Spec PySem.Calls PyProof.Rows L2
open AutoSeq1 (wpAny_loadPart')
open GQ (FinOf call_here)
/-! ### tuples of instances, ==, with either answer -/
section
variable {prog : Program} {w : World} {A : Around} {R : Result → Shared → Prop}
theorem tup_eqB (l b : Addr) (xs ys : Array Value) (n m : Nat) (dd de : Option Addr) (sl sm : Array (Option Value)) (hz : xs.size = ys.size) (B : Nat → Bool) (Iv : Nat → Shared → Prop)
    (turn : ∀ i (h1 : i < xs.size) (h2 : i < ys.size) s, Iv i s → wpAny (model prog w) A.in1 (eqBool xs[i] ys[i]) (fun r s' => r = B i ∧ Iv (i + 1) s') (fun e s' => R (.error e) s') s)
    (finF : ∀ i s, i < xs.size → B i = false → Iv (i + 1) s → R (.ok (.ret (.bool false))) s) (fin : (∀ i, i < xs.size → B i = true) → ∀ s, Iv xs.size s → R (.ok (.ret (.bool true))) s) {s : Shared} (ha : s.heap.get? l = some { cls := .type "tuple", dict := dd, data := .seq xs n, slots := sl }) (hb : s.heap.get? b = some { cls := .type "tuple", dict := de, data := .seq ys m, slots := sm }) (h : Iv 0 s) :
    wpAny (model prog w) A.in1 (Builtin.«tuple.__eq__» ⟨[.ref l, .ref b], []⟩) (FinOf prog w A R) (fun e s' => R (.error e) s') s := by
  have f2 := AutoSeq1.sub_tuple_tuple
  have hZ : (xs.toList.zip ys.toList).length = xs.size := by simp [hz]
  have h0 := h
  obtain ⟨hp, g, d, tk, os⟩ := s
  wp_walk using wpAny_loadPart' ha, wpAny_loadPart' hb, wpAny_forIn_list _ (fun rest b s' => (b.1 = none ∧ ∃ i, rest = (xs.toList.zip ys.toList).drop i ∧ i ≤ xs.size ∧ (∀ j, j < i → B j = true) ∧ Iv i s')) _
  case turn =>
    rintro ⟨y, x⟩ rest b s' ⟨hb', i, hq, hi, hall, hI⟩
    have hlt : i < (xs.toList.zip ys.toList).length := by
      by_cases h' : i < (xs.toList.zip ys.toList).length
      · exact h'
      · rw [List.drop_of_length_le (by omega)] at hq
        cases hq
    have h1 : i < xs.size := hZ ▸ hlt
    have h2 : i < ys.size := hz ▸ h1
    rw [List.drop_eq_getElem_cons hlt] at hq
    injection hq with hyx hrest
    have hy : y = xs[i] := by have := congrArg Prod.fst hyx; simpa using this
    have hx : x = ys[i] := by have := congrArg Prod.snd hyx; simpa using this
    subst hy hx
    refine wpAny_bind (wpAny_mono (turn i h1 h2 s' hI) (fun r s2 q2 => ?_) fun _ _ x => x)
    obtain ⟨hr, q2⟩ := q2
    cases hB : B i with
    | true =>
      rw [hB] at hr
      subst hr
      wp_walk
      refine ⟨rfl, i + 1, hrest, h1, fun j hj => ?_, q2⟩
      by_cases e : j = i
      · subst e
        exact hB
      · exact hall j (by omega)
    | false =>
      rw [hB] at hr
      subst hr
      have q3 := finF i s2 h1 hB q2
      wp_walk
      exact q3
  case fin =>
    rintro ⟨b1, b2⟩ s' ⟨hb', i, hq, hi, hall, hI⟩
    simp only at hb'
    subst hb'
    have hge : xs.size ≤ i := by
      by_cases h' : i < (xs.toList.zip ys.toList).length
      · rw [List.drop_eq_getElem_cons h'] at hq
        cases hq
      · omega
    have hi' : i = xs.size := by omega
    have hR : R (.ok (.ret (.bool true))) s' := fin (fun j hj => hall j (by omega)) s' (hi' ▸ hI)
    wp_walk
    simpa [Builtin.Tuple.tupleCompareSizes, hz] using hR
  case h =>
    exact ⟨rfl, 0, rfl, Nat.zero_le _, fun j hj => absurd hj (Nat.not_lt_zero j), h0⟩
end

/-- x == y, tuples whose i-th things are == just where B i -/
def rEqTB (K : PySem.W.Frag) (D : V → V → Hp → Bool → Prop) : R2 := fun x y H Q => ∃ (a b : Addr) (xs ys : List V) (B : Nat → Bool), x = .ref a ∧ y = .ref b ∧ SqT K H a xs ∧ SqT K H b ys ∧ xs.length = ys.length ∧ (∀ i p q, xs[i]? = some p → ys[i]? = some q → ∀ H', Ext H H' → D p q H' (B i)) ∧ ∀ H', Ext H H' → Q (.bl ((List.range xs.length).all B)) H'
theorem get_arr {xs : List V} {its : List Value} (r : Vals xs its) {i : Nat} (h1 : i < its.toArray.size) : ∃ x, xs[i]? = some x ∧ RelV x its.toArray[i] := by
  have hi : i < its.length := by simpa using h1
  have hx : i < xs.length := by rw [r.length]; exact hi
  obtain ⟨w, hw, rw'⟩ := r.get (List.getElem?_eq_getElem hx)
  refine ⟨_, List.getElem?_eq_getElem hx, ?_⟩
  have ew : its.toArray[i] = w := by
    rw [List.getElem?_eq_getElem hi] at hw
    simpa using Option.some.inj hw
  rw [ew]
  exact rw'
theorem op_eqTB {X : Cx} {n : Nat} {D : V → V → Hp → Bool → Prop} (h : EqB X n D) (hr : Room (n + 1) X.A) : OpR X (compareOp .Eq) (rEqTB X.K D) := by
  intro pins s σ H x y v u Q I rx ry hq
  obtain ⟨a, b, xs, ys, B, rfl, rfl, ha, hb, hlen, hD, q⟩ := hq
  cases (show v = Value.ref a from rx)
  cases (show u = Value.ref b from ry)
  have sb : L2.Sub X (n + 1) X.A := ⟨hr, rfl⟩
  obtain ⟨its, r, e, z⟩ := I.tuple ha
  obtain ⟨its2, r2, e2, z2⟩ := I.tuple hb
  have hz : its.toArray.size = its2.toArray.size := by rw [List.size_toArray, List.size_toArray, ← r.length, ← r2.length]; exact hlen
  have hzx : its.toArray.size = xs.length := by rw [List.size_toArray, ← r.length]
  obtain ⟨⟨cls, dd, data, sl⟩, ho, hc, m1, hd⟩ := id e
  obtain ⟨⟨cls2, dd2, data2, sl2⟩, ho2, hc2, m2, hd2⟩ := id e2
  simp only at hc hd hc2 hd2
  subst hc hd hc2 hd2
  show wpAny (model X.prog X.w) X.A (richCompare .Eq (.ref a) (.ref b)) (EP X pins σ Q) X.xe s
  refine wpAny_richCompare_same_room (op := .Eq) ⟨_, ho, rfl⟩ ⟨_, ho2, rfl⟩ PySem.F.slot_tuple_eq (call_here PySem.F.slot_tuple_eq ⟨_, ho, rfl⟩ PySem.F.entry_tuple_eq (PySem.F.args_tuple_eq_2 _ _) ?_) sb.room.units0
  refine tup_eqB (R := wants (fun v s' => v ≠ .notImplemented ∧ EP X pins σ Q v s') X.xe) a b its.toArray its2.toArray m1 m2 dd dd2 sl sl2 hz B (fun _ s' => LoopI X pins σ H s') ?_ ?_ ?_ ho ho2 ⟨H, I, Ext.rfl'⟩
  · intro i h1 h2 s' hl
    obtain ⟨H', I', x'⟩ := hl
    obtain ⟨p, hp, rp⟩ := get_arr r h1
    obtain ⟨p2, hp2, rp2⟩ := get_arr r2 h2
    refine wpAny_mono (h X.A.in1 pins s' σ H' _ _ _ _ (B i) sb.in1 I' rp rp2 (hD i p p2 hp hp2 H' x')) (fun c s2 z2 => ?_) fun _ _ y => y
    obtain ⟨hc, H2, I2, x2⟩ := z2
    exact ⟨hc, H2, I2, x'.trans x2⟩
  · rintro i s' hi hB ⟨H', I', x'⟩
    refine ⟨(fun z => nomatch z), .bl false, H', I', rfl, ?_⟩
    have z := q H' x'
    have ea : (List.range xs.length).all B = false := by
      rw [List.all_eq_false]
      exact ⟨i, List.mem_range.mpr (by omega), by rw [hB]; decide⟩
    rw [ea] at z
    exact z
  · rintro hall s' ⟨H', I', x'⟩
    refine ⟨(fun z => nomatch z), .bl true, H', I', rfl, ?_⟩
    have z := q H' x'
    have ea : (List.range xs.length).all B = true := by
      rw [List.all_eq_true]
      intro j hj
      exact hall j (by have := List.mem_range.mp hj; omega)
    rw [ea] at z
    exact z
/-! ### x not in [..] by an own __eq__ -/
section
variable {prog : Program} {w : World} {A : Around}
theorem notin_listG {E : Value → Shared → Prop} {s : Shared} {Q : Value → Shared → Prop} (l : Addr) (x : Value) (N : Nat) (B : Nat → Bool) (Iv : Nat → Shared → Prop)
    (hl : ∀ i s, Iv i s → ∃ (its : Array Value) (n : Nat), s.heap.get? l = some { cls := .type "list", data := .seq its n } ∧ its.size = N ∧ ∀ h : i < its.size, wpAny (model prog w) A.in1 (eqBool its[i] x) (fun r s' => r = B i ∧ Iv (i + 1) s') E s)
    (fT : ∀ i s, i < N → B i = true → Iv (i + 1) s → Q (.bool false) s) (fF : (∀ j, j < N → B j = false) → ∀ s, Iv N s → Q (.bool true) s) (h : Iv 0 s) : wpAny (model prog w) A (compareOp .NotIn x (.ref l)) Q E s := by
  obtain ⟨its, n, h1, _, _⟩ := hl _ _ h
  show wpAny _ A (do return .bool (!(← contains (.ref l) x))) Q E s
  refine wpAny_bind (wpAny_contains_slot ⟨_, h1, rfl⟩ PySem.F.slot_list_contains (wpAny_mono (call_here (Q := fun v s' => ∃ b, v = .bool b ∧ Q (.bool (!b)) s') PySem.F.slot_list_contains ⟨_, h1, rfl⟩ PySem.F.entry_list_contains (PySem.F.args_list_contains_2 _ _) ?_) (fun v s' hv => ?_) fun _ _ e => e))
  · have go := in_loopG (prog := prog) (w := w) (A := A) (R := wants (fun v s' => ∃ b, v = .bool b ∧ Q (.bool (!b)) s') E) l x N B Iv hl (fun i s hi hb q => ⟨true, rfl, fT i s hi hb q⟩) (fun hno s q => ⟨false, rfl, fF hno s q⟩) (N - 0) 0 rfl (Nat.zero_le _) (fun j hj => absurd hj (Nat.not_lt_zero j)) s h
    obtain ⟨hp, g, d, tk, os⟩ := s
    wp_walk
    exact ⟨plainId_quiet PySem.MeetsSeq.plain_contains_loop _, codeAny_builtin PySem.MeetsSeq.entry_contains_loop (by
      rw [Around.under_plainId PySem.MeetsSeq.plain_contains_loop _]
      exact go)⟩
  · obtain ⟨b, rfl, hq⟩ := hv
    exact wpAny_truthy_bool (wpAny_pure hq)
/-! ### [..].count(x) by an own __eq__ -/
theorem count_loopG {R : Result → Shared → Prop} (l : Addr) (x : Value) (N : Nat) (B : Nat → Bool) (Iv : Nat → Shared → Prop)
    (hl : ∀ i s, Iv i s → ∃ (its : Array Value) (n : Nat), s.heap.get? l = some { cls := .type "list", data := .seq its n } ∧ its.size = N ∧ ∀ h : i < its.size, wpAny (model prog w) A.in1 (eqBool its[i] x) (fun r s' => r = B i ∧ Iv (i + 1) s') (fun e s' => R (.error e) s') s)
    (fin : ∀ s t k, Iv N s → R (.ok (.ret (.int (((List.range N).countP B : Nat) : Int) t))) { s with toks := k }) (k : Nat) :
    ∀ i : Nat, N - i = k → i ≤ N → ∀ s, Iv i s →
      wpAny (model prog w) A.in1 (Builtin.«list.count.loop» ⟨[.ref l, x, rawInt i, rawInt ((((List.range i).countP B : Nat)) : Int)], []⟩) (FinOf prog w A R) (fun e s' => R (.error e) s') s := by
  induction k with
  | zero =>
    intro i hk hi s h
    obtain ⟨its, n, h1, hs, _⟩ := hl _ _ h
    have ei : i = N := by omega
    subst ei
    have hR := fin s
    obtain ⟨hp, g, d, tk, os⟩ := s
    wp_walk using wpAny_loadPart' h1
    have e1 : its[((i : Nat) : Int).toNat]? = none := by simp; omega
    rw [e1]
    wp_walk
    exact hR _ _ h
  | succ k ih =>
    intro i hk hi s h
    obtain ⟨its, n, h1, hs, turn⟩ := hl _ _ h
    have hlt : i < its.size := by omega
    have ht := turn hlt
    obtain ⟨hp, g, d, tk, os⟩ := s
    wp_walk using wpAny_loadPart' h1
    have e1 : its[((i : Nat) : Int).toNat]? = some its[i] := by simp [hlt]
    have hc : ((i : Int) + 1) = ((i + 1 : Nat) : Int) := by omega
    rw [e1]
    refine wpAny_bind (wpAny_mono ht (fun r s2 h2 => ?_) fun _ _ z => z)
    obtain ⟨hr, h2⟩ := h2
    subst hr
    have hrec := ih (i + 1) (by omega) (by omega) s2 h2
    have ec : (if B i = true then (((List.range i).countP B : Nat) : Int) + 1 else (((List.range i).countP B : Nat) : Int)) = (((List.range (i + 1)).countP B : Nat) : Int) := by
      rw [List.range_succ, List.countP_append]
      rw [show List.countP B [i] = if B i = true then 1 else 0 by rw [List.countP_cons]; simp]
      split <;> omega
    obtain ⟨hp2, g2, d2, tk2, os2⟩ := s2
    wp_walk
    rw [hc, ec]
    exact ⟨plainId_quiet PySem.MeetsSeq.plain_count_loop _, codeAny_builtin PySem.MeetsSeq.entry_count_loop (by
      rw [Around.under_plainId PySem.MeetsSeq.plain_count_loop _]
      exact hrec)⟩
end
def rNotInG (D : V → V → Hp → Bool → Prop) : R2 := fun x y H Q => ∃ (p : Addr) (xs : List V) (B : Nat → Bool), y = .ref p ∧ H p = some (.lst xs) ∧ (∀ i z, xs[i]? = some z → ∀ H', Ext H H' → D z x H' (B i)) ∧ ∀ H', Ext H H' → Q (.bl (!(List.range xs.length).any B)) H'
/-- the i-th thing of the list at p beside x, in whatever state came -/
theorem turn_lst {X : Cx} {n : Nat} {D : V → V → Hp → Bool → Prop} (h : EqB X n D) {A : Around} (sb : L2.Sub X n A) {pins : List (Addr × Obj)} {σ : L2.St} {H : Hp} {p : Addr} {xs : List V} {x : V} {v : Value} {B : Nat → Bool} (hp : H p = some (.lst xs)) (rx : RelV x v)
    (hD : ∀ i z, xs[i]? = some z → ∀ H', Ext H H' → D z x H' (B i)) : ∀ (i : Nat) (s' : Shared), LoopI X pins σ H s' → ∃ (its : Array Value) (k : Nat), s'.heap.get? p = some { cls := .type "list", data := .seq its k } ∧ its.size = xs.length ∧ ∀ h1 : i < its.size, wpAny (model X.prog X.w) A (eqBool its[i] v) (fun r s2 => r = B i ∧ LoopI X pins σ H s2) X.xe s' := by
  rintro i s' ⟨H', I', e⟩
  obtain ⟨z, its, k, r, ek⟩ := I'.hok p _ (e _ _ hp)
  refine ⟨its.toArray, k, ek, by rw [List.size_toArray, ← r.length], fun h1 => ?_⟩
  obtain ⟨y, hy, ry⟩ := get_arr r h1
  refine wpAny_mono (h A pins s' σ H' _ x _ v (B i) sb I' ry rx (hD i _ hy H' e)) (fun c s2 z2 => ?_) fun _ _ y => y
  obtain ⟨hc, H2, I2, e2⟩ := z2
  exact ⟨hc, H2, I2, e.trans e2⟩
theorem op_notInG {X : Cx} {n : Nat} {D : V → V → Hp → Bool → Prop} (h : EqB X n D) (hr : Room (n + 1) X.A) : OpR X (compareOp .NotIn) (rNotInG D) := by
  intro pins s σ H x y v u Q I rx ry hq
  obtain ⟨p, xs, B, rfl, hp, hD, q⟩ := hq
  cases (show u = Value.ref p from ry)
  have sb : L2.Sub X (n + 1) X.A := ⟨hr, rfl⟩
  refine notin_listG (A := X.A) p v xs.length B (fun _ s' => LoopI X pins σ H s') (fun i s' hl => turn_lst h sb.in1 hp rx hD i s' hl) ?_ ?_ ⟨H, I, Ext.rfl'⟩
  · rintro i s' hi hb ⟨H', I', e⟩
    refine ⟨.bl false, H', I', rfl, ?_⟩
    have z := q H' e
    have ea : (List.range xs.length).any B = true := List.any_eq_true.mpr ⟨i, List.mem_range.mpr hi, hb⟩
    rw [ea] at z
    exact z
  · rintro hno s' ⟨H', I', e⟩
    refine ⟨.bl true, H', I', rfl, ?_⟩
    have z := q H' e
    have ea : (List.range xs.length).any B = false := by
      rw [List.any_eq_false]
      intro j hj
      rw [hno j (List.mem_range.mp hj)]
      decide
    rw [ea] at z
    exact z
theorem op_notInO {X : Cx} {CX : CXT} {k j : Nat} {C : Addr} {qual : Str} {st : Stmt} {ps : List Str} {sp : Sp} {E : XK} (c : Cm X.prog X.w X.K X.mg X.base CX k C "__eq__" qual st ps sp) (b : Bd "__eq__" qual st ps) (hx : Passes CX X E) (hr : Room j X.A) (hk : k + 1 ≤ j) :
    OpR X (compareOp .NotIn) (rNotInG (DOwn X.K C sp E)) := by
  obtain ⟨f, fd, F, M, hc, G⟩ := c.ex
  exact op_notInG (eqB_own G M.1 M.2 (F.bindsN b) hx) (hr.mono hk)
/-- [..].count(x) -/
def rCountG (D : V → V → Hp → Bool → Prop) : V → List V → Hp → VK → Prop := fun y vs H Q => ∃ (p : Addr) (xs : List V) (x : V) (B : Nat → Bool), y = .ref p ∧ vs = [x] ∧ H p = some (.lst xs) ∧ (∀ i z, xs[i]? = some z → ∀ H', Ext H H' → D z x H' (B i)) ∧ ∀ H', Ext H H' → Q (.int (((List.range xs.length).countP B : Nat) : Int)) H'
theorem mt_countG {X : Cx} {n : Nat} {D : V → V → Hp → Bool → Prop} (h : EqB X n D) (hr : Room (n + 1) X.A) : MtR X "list.count" (rCountG D) := by
  intro pins s σ H y vs v us Q I ry rs hq
  obtain ⟨p, xs, x, B, rfl, rfl, hp, hD, q⟩ := hq
  cases (show v = Value.ref p from ry)
  obtain ⟨u, rfl, rx⟩ := vals1 rs
  have sb : L2.Sub X (n + 1) X.A := ⟨hr, rfl⟩
  obtain ⟨z, its, k, r, ek⟩ := I.hok p _ hp
  refine call_here PySem.F.slot_list_count ⟨_, ek, rfl⟩ PySem.F.entry_list_count (PySem.F.args_list_count_2 _ _) ?_
  have go := count_loopG (prog := X.prog) (w := X.w) (A := X.A) (R := wants (EP X pins σ Q) X.xe) p u xs.length B (fun _ s' => LoopI X pins σ H s') (fun i s' hl => turn_lst h sb.in1 hp rx hD i s' hl) (fun s' t k ⟨H', I', e⟩ => ⟨.int _, H', I'.tok _, ⟨t, rfl⟩, q H' e⟩) xs.length 0 rfl (Nat.zero_le _) s ⟨H, I, Ext.rfl'⟩
  obtain ⟨hp2, g, d, tk, os⟩ := s
  wp_walk
  exact ⟨plainId_quiet PySem.MeetsSeq.plain_count_loop _, codeAny_builtin PySem.MeetsSeq.entry_count_loop (by
    rw [Around.under_plainId PySem.MeetsSeq.plain_count_loop _]
    exact go)⟩
theorem mt_countO {X : Cx} {CX : CXT} {k j : Nat} {C : Addr} {qual : Str} {st : Stmt} {ps : List Str} {sp : Sp} {E : XK} (c : Cm X.prog X.w X.K X.mg X.base CX k C "__eq__" qual st ps sp) (b : Bd "__eq__" qual st ps) (hx : Passes CX X E) (hr : Room j X.A) (hk : k + 1 ≤ j) :
    MtR X "list.count" (rCountG (DOwn X.K C sp E)) := by
  obtain ⟨f, fd, F, M, hc, G⟩ := c.ex
  exact mt_countG (eqB_own G M.1 M.2 (F.bindsN b) hx) (hr.mono hk)
/-! ### {x} and {x!r} of instances with their own __str__ and __repr__ -/
def tFmtO (C : Addr) (sp : Sp) (E : XK) (te : TE) : TE := fun σ H Q => te σ H fun x H1 => ∃ (a dx : Addr) (fs : List (Str × V)), x = .ref a ∧ H1 a = some (.ins C dx fs) ∧ sp [.ref a] H1 (fun v H' => ∃ y : Str, v = .str y ∧ Q (.str y) H') E
section
variable {X : Cx} {CX : CXT} {k j : Nat} {C : Addr} {qual : Str} {st : Stmt} {ps : List Str} {sp : Sp} {E : XK} {e : Expr} {te : TE} {pos : Pos}
theorem run_own {A : Around} {n : Nat} {f : Addr} {fd : FuncData} {pins : List (Addr × Obj)} {σ : L2.St} {H : Hp} {s : Shared} {a : Addr} {Q : Str → Hp → Prop} {R : Value → Shared → Prop} (F : FnOk X.prog X.w X.K X.mg X.base CX n f fd ps sp) (hb : Binds X.K fd ps []) (hx : Passes CX X E) (sb : L2.Sub X n A) (I : Inv X pins σ H s)
    (hq : sp [.ref a] H (fun v H' => ∃ y : Str, v = .str y ∧ Q y H') E) (hR : ∀ y t s' H', Inv X pins σ H' s' → Q y H' → R (.str y t) s') : wpAny (model X.prog X.w) A (call (.ref f) [.ref a]) (PySem.W.StrBack R) X.xe s := by
  have hl : ([Value.ref a] ++ []).length = ps.length := (show ([V.ref a] : List V).length = _ from F.len _ _ _ _ hq)
  refine wpAny_call (codeAny_mono (F.run A X.stack s H ⟨[.ref a], []⟩ [.ref a] [.ref a] _ E sb.room (env_sub sb I) (hb s [.ref a] I.kIn hl) (.cons rfl .nil) hq) fun res s' hres => ?_)
  match res, hres with
  | .error er, hres => exact hx pins σ H s er s' I hres
  | .ok .next, hres => exact hres.elim
  | .ok .brk, hres => exact hres.elim
  | .ok .cont, hres => exact hres.elim
  | .ok (.ret u), hres =>
    obtain ⟨z, H', I', rz, y, rfl, q⟩ := I.after hres
    obtain ⟨t, rfl⟩ := rz
    exact hR y t s' H' I' q
theorem pe_fmtO (he : PE X e te) (c : Cm X.prog X.w X.K X.mg X.base CX k C "__str__" qual st ps sp) (b : Bd "__str__" qual st ps) (hfm : PySem.W.findIn X.K (.ref C) "__format__" = some (some (.builtin "object.__format__"))) (hm : PySem.W.mroIn X.K C (.type "object") = some true) (hr : Room j X.A) (hk : k + 1 ≤ j) (hx : Passes CX X E) :
    PE X (.FormattedValue e (-1) none pos) (tFmtO C sp E te) := by
  obtain ⟨f, fd, F, M, hc, G⟩ := c.ex
  have sb : L2.Sub X (k + 1) X.A := ⟨hr.mono hk, rfl⟩
  refine ⟨fun pins s σ H Q I h => ?_⟩
  refine wpAny_FormattedValue_plain (thn (he.run pins s σ H _ I h) fun v s1 hv => ?_)
  obtain ⟨x, H1, I1, r1, a, dx, fs, rfl, ea, q⟩ := hv
  cases (show v = Value.ref a from r1)
  obtain ⟨mA, J, _⟩ := ins_get I1.hok ea
  obtain ⟨od, J, _⟩ := J.look
  exact PySem.W.kfo_fieldS sb.in1.room.units0 I1.kIn J hfm hm M.1 M.2 (run_own G (F.bindsN b) hx sb.in1 (I1.tok _) q fun y t s' H' I' hq => ⟨.str y, H', I', ⟨t, rfl⟩, hq⟩)
theorem pe_fmtRO (he : PE X e te) (c : Cm X.prog X.w X.K X.mg X.base CX k C "__repr__" qual st ps sp) (b : Bd "__repr__" qual st ps) (hr : Room j X.A) (hk : k + 1 ≤ j) (hx : Passes CX X E) (hz : ∀ (a : Addr) H Q, sp [.ref a] H Q E → sp [.ref a] H (fun v H' => (∀ y, v = .str y → y.length ≤ sizeLine) ∧ Q v H') E) :
    PE X (.FormattedValue e 114 none pos) (tFmtO C sp E te) := by
  obtain ⟨f, fd, F, M, hc, G⟩ := c.ex
  have sb : L2.Sub X (k + 1) X.A := ⟨hr.mono hk, rfl⟩
  refine ⟨fun pins s σ H Q I h => ?_⟩
  refine wpAny_FormattedValue_repr (thn (he.run pins s σ H _ I h) fun v s1 hv => ?_)
  obtain ⟨x, H1, I1, r1, a, dx, fs, rfl, ea, q⟩ := hv
  cases (show v = Value.ref a from r1)
  obtain ⟨mA, J, _⟩ := ins_get I1.hok ea
  obtain ⟨od, J, _⟩ := J.look
  have q2 := hz _ _ _ q
  have sb0 : L2.Sub X k X.A := ⟨(hr.mono hk).mono (Nat.le_succ k), rfl⟩
  have go := run_own (Q := fun y H' => y.length ≤ sizeLine ∧ Q (.str y) H') (R := fun v s' => ∃ y t, v = .str y t ∧ y.length ≤ sizeLine ∧ ∃ H', Inv X pins σ H' s' ∧ Q (.str y) H') G (F.bindsN b) hx sb0 I1 (by
    have e : (fun v H' => (∀ y, v = V.str y → y.length ≤ sizeLine) ∧ ∃ y : Str, v = .str y ∧ Q (.str y) H') = fun v H' => ∃ y : Str, v = .str y ∧ (y.length ≤ sizeLine ∧ Q (.str y) H') := by
      funext v H'
      refine propext ⟨fun ⟨hl, y, e, hq⟩ => ⟨y, e, hl y e, hq⟩, fun ⟨y, e, hl, hq⟩ => ⟨fun z hz => ?_, y, e, hq⟩⟩
      rw [e] at hz
      cases hz
      exact hl
    rw [e] at q2
    exact q2) (fun y t s' H' I' hq => ⟨y, t, rfl, hq.1, H', I', hq.2⟩)
  unfold pyReprObj
  refine wpAny_bind (m := cRoomFor _ _) (wpAny_cRoomFor sb0.room.units0 ?_)
  refine wpAny_bind (wpAny_bind (J.type.here ((PySem.W.looks_findIn I1.kIn M.1).here ?_)))
  show wpAny _ _ (if (some (Value.ref f)).isNone = true then _ else _) _ _ _
  rw [if_neg (by simp)]
  refine wpAny_bind (m := callSpecialIfBound? (.ref a) (Str.ofString "__repr__") _) (PySem.W.ifBound_K I1.kIn J M.1 M.2 (wpAny_mono go (fun r s' hr => ?_) fun _ _ y => y))
  cases r <;> first | exact hr.elim | skip
  obtain ⟨y, t, e1, hl, H', I', hq⟩ := hr
  cases e1
  refine wpAny_bind (wpAny_isInstance (T := "str") (b := true) (typeIs_str _ _ _) isSubtype_str_str (wpAny_pure ?_))
  exact wpAny_formatField_str ⟨.str _, H', I', ⟨_, rfl⟩, hq⟩ ⟨.str _, H', I'.tok _, ⟨_, rfl⟩, hq⟩ hl
end
end MM
namespace MM
open PySem PySem.Spec PySem.Calls PyProof.Rows L2
/-! ### texts that write numbers -/
/-- the place of a sign among the figures, or -1 -/
def fv (c : Nat) : Int := Txt.find FIG ⟨#[c]⟩
theorem fv_dg {d : Nat} (h : d < 16) : fv (dg d) = (d : Int) := fig_find h
theorem fv_cases (c : Nat) : (fv c = -1 ∧ ∀ d, d < 16 → c ≠ dg d) ∨ ∃ d, d < 16 ∧ c = dg d ∧ fv c = (d : Int) := by
  rcases find_spec FIG ⟨#[c]⟩ with h | ⟨i, h1, h2, h3⟩
  · refine .inl ⟨h, fun d hd e => ?_⟩
    have := fv_dg hd
    rw [← e] at this
    unfold fv at this
    omega
  · have hl : (⟨#[c]⟩ : Str).length = 1 := rfl
    rw [hl] at h2 h3
    rw [fig_len] at h2
    have e : c = dg i := by
      have e1 : (Builtin.Str.strSub FIG i (i + 1)).cps.toList = [dg i] := by
        have : ∀ d : Fin 16, (Builtin.Str.strSub FIG d.val (d.val + 1)).cps.toList = [dg d.val] := by decide +kernel
        exact this ⟨i, by omega⟩
      rw [h3] at e1
      have e2 : [c] = [dg i] := e1
      injection e2
    exact .inr ⟨i, by omega, e, h1⟩
def ninL (b : Int) (cs : List Nat) : Int := cs.foldl (fun a c => a * b + fv c) 0
theorem ninL_app (b : Int) (cs : List Nat) (c : Nat) : ninL b (cs ++ [c]) = ninL b cs * b + fv c := by
  unfold ninL
  rw [List.foldl_append]
  rfl
def hasD (cs : List Nat) : Bool := cs.head? == some 45
/-- what stands behind a - -/
def unm (cs : List Nat) : List Nat := if hasD cs then cs.tail else cs
def nin (b : Int) (t : Str) : Int := if hasD t.cps.toList then - ninL b (unm t.cps.toList) else ninL b (unm t.cps.toList)
theorem unm_len (cs : List Nat) : (unm cs).length ≤ cs.length := by
  unfold unm
  split
  · rw [List.length_tail]
    omega
  · exact Nat.le_refl _
theorem len_cps (t : Str) : t.length = t.cps.toList.length := by simp [Str.length]
theorem sub_d (t : Str) : Builtin.Str.subAt t ("-" : Str) 0 = hasD t.cps.toList := by
  have h := sub_iff t ("-" : Str)
  rw [dash_len, dash_cps] at h
  unfold hasD
  cases hc : t.cps.toList with
  | nil =>
    rw [hc] at h
    cases hb : Builtin.Str.subAt t ("-" : Str) 0 with
    | false => rfl
    | true => exact absurd (h.mp hb) (by simp)
  | cons c cs =>
    rw [hc] at h
    simp only [List.take_succ_cons, List.take_zero] at h
    by_cases e : c = 45
    · rw [e] at h ⊢
      rw [h.mpr rfl]
      rfl
    · have : Builtin.Str.subAt t ("-" : Str) 0 = false := by
        cases hb : Builtin.Str.subAt t ("-" : Str) 0 with
        | false => rfl
        | true => exact absurd (by have := h.mp hb; simpa using this) e
      rw [this]
      simp [e]
theorem rp_gen (t : Str) : (Txt.removeprefix t ("-" : Str)).cps.toList = unm t.cps.toList := by
  unfold Txt.removeprefix unm
  rw [sub_d]
  cases h : hasD t.cps.toList with
  | false => rfl
  | true =>
    have hne : t.cps.toList ≠ [] := by
      intro z
      rw [z] at h
      cases h
    have hl := len_cps t
    have hp := List.length_pos_iff.mpr hne
    rw [dash_len]
    show (if (t.length - 1 == t.length) = true then t else Builtin.Str.strSub t 1 t.length).cps.toList = _
    rw [if_neg (by simp; omega)]
    show (t.cps.extract 1 t.length).toList = t.cps.toList.tail
    rw [Array.toList_extract, hl]
    simp
    exact List.take_of_length_le (by simp)
theorem sw_gen (t : Str) : Txt.startswith t ("-" : Str) = hasD t.cps.toList := by
  unfold Txt.startswith
  rw [sub_d, dash_len]
  cases h : hasD t.cps.toList with
  | false => rw [Bool.and_false]
  | true =>
    have hne : t.cps.toList ≠ [] := by
      intro z
      rw [z] at h
      cases h
    have hp := List.length_pos_iff.mpr hne
    have hl := len_cps t
    rw [Bool.and_true]
    exact decide_eq_true (by omega)
def valN (b : Nat) (ds : List Nat) : Nat := ds.foldl (fun a d => a * b + d) 0
theorem valN_app (b : Nat) (ds : List Nat) (d : Nat) : valN b (ds ++ [d]) = valN b ds * b + d := by
  unfold valN
  rw [List.foldl_append]
  rfl
theorem valN_lsd {b : Nat} (hb : 2 ≤ b) (n : Nat) : valN b (lsd b n).reverse = n := by
  unfold valN
  rw [List.foldl_reverse]
  exact lsd_val hb n
/-- a list, from its end -/
theorem rev_ind {P : List Nat → Prop} (h0 : P []) (h1 : ∀ es d, P es → P (es ++ [d])) (ds : List Nat) : P ds := by
  rw [← List.reverse_reverse ds]
  generalize ds.reverse = rs
  induction rs with
  | nil => exact h0
  | cons d rs ih =>
    rw [List.reverse_cons]
    exact h1 _ d ih
theorem ninL_dg (b : Nat) (ds : List Nat) : (∀ d ∈ ds, d < 16) → ninL (b : Int) (ds.map dg) = ((valN b ds : Nat) : Int) := by
  refine rev_ind (P := fun ds => (∀ d ∈ ds, d < 16) → ninL (b : Int) (ds.map dg) = ((valN b ds : Nat) : Int)) (fun _ => rfl) (fun es d ih h => ?_) ds
  rw [List.map_append]
  show ninL (b : Int) (es.map dg ++ [dg d]) = _
  rw [ninL_app, valN_app, ih fun x hx => h x (List.mem_append_left _ hx), fv_dg (h d (by simp))]
  push_cast
  rfl
theorem valN_pos {b : Nat} (hb : 1 ≤ b) (ds : List Nat) : ds ≠ [] → ds.head? ≠ some 0 → 0 < valN b ds := by
  refine rev_ind (P := fun ds => ds ≠ [] → ds.head? ≠ some 0 → 0 < valN b ds) (fun h => absurd rfl h) (fun es d ih _ h => ?_) ds
  rw [valN_app]
  by_cases he : es = []
  · subst he
    have : d ≠ 0 := fun z => h (by rw [z]; rfl)
    omega
  · have h2 : es.head? ≠ some 0 := fun z => h (by
      cases es with
      | nil => exact absurd rfl he
      | cons e es => simpa using z)
    have := Nat.mul_pos (ih he h2) hb
    omega
theorem lsd_back {b : Nat} (hb : 2 ≤ b) (ds : List Nat) : ds ≠ [] → (∀ d ∈ ds, d < b) → (ds.head? = some 0 → ds = [0]) → lsd b (valN b ds) = ds.reverse := by
  refine rev_ind (P := fun ds => ds ≠ [] → (∀ d ∈ ds, d < b) → (ds.head? = some 0 → ds = [0]) → lsd b (valN b ds) = ds.reverse) (fun h => absurd rfl h) (fun es d ih _ hs h0 => ?_) ds
  have hd : d < b := hs d (by simp)
  rw [valN_app, List.reverse_append]
  by_cases he : es = []
  · subst he
    show lsd b (0 * b + d) = [d]
    rw [Nat.zero_mul, Nat.zero_add, lsd_lt hd]
  · have h2 : es.head? ≠ some 0 := fun z => by
      have h3 : (es ++ [d]).head? = some 0 := by
        cases es with
        | nil => exact absurd rfl he
        | cons e es => simpa using z
      have h4 := h0 h3
      have h5 : es.length + 1 = 1 := by
        have := congrArg List.length h4
        simpa using this
      exact he (List.length_eq_zero_iff.mp (by omega))
    have hp := valN_pos (b := b) (by omega) es he h2
    have hge : b ≤ valN b es * b + d := by
      have := Nat.le_mul_of_pos_left b hp
      omega
    rw [lsd_ge hb hge]
    have e1 : (valN b es * b + d) % b = d := by rw [Nat.mul_comm, Nat.mul_add_mod, Nat.mod_eq_of_lt hd]
    have e2 : (valN b es * b + d) / b = valN b es := by rw [Nat.mul_comm, Nat.mul_add_div (by omega), Nat.div_eq_of_lt hd, Nat.add_zero]
    rw [e1, e2, ih he (fun x hx => hs x (List.mem_append_left _ hx)) (fun z => absurd z h2)]
    rfl
theorem numT_cps (b : Nat) (i : Int) : (numT b i).cps.toList = (if i < 0 then [45] else []) ++ (lsd b i.natAbs).reverse.map dg := by
  unfold numT
  split
  · rw [app_cps, dash_cps]
    rfl
  · rfl
theorem num_ds {b : Nat} (hb : 2 ≤ b) (h16 : b ≤ 16) (i : Int) : unm (numT b i).cps.toList = (lsd b i.natAbs).reverse.map dg ∧ hasD (numT b i).cps.toList = decide (i < 0) := by
  have hne : (lsd b i.natAbs).reverse ≠ [] := fun z => lsd_ne b i.natAbs (List.reverse_eq_nil_iff.mp z)
  have sm : ∀ d ∈ (lsd b i.natAbs).reverse, d < 16 := fun d hd => Nat.lt_of_lt_of_le (lsd_small hb _ d (List.mem_reverse.mp hd)) h16
  rw [numT_cps]
  by_cases h : i < 0
  · rw [if_pos h, decide_eq_true h]
    exact ⟨rfl, rfl⟩
  · rw [if_neg h, decide_eq_false h]
    have hd : hasD ((lsd b i.natAbs).reverse.map dg) = false := by
      cases hc : (lsd b i.natAbs).reverse with
      | nil => exact absurd hc hne
      | cons d ds =>
        have := dg_ne (sm d (by rw [hc]; simp))
        show (some (dg d) == some 45) = false
        simp [this]
    refine ⟨?_, hd⟩
    show (if hasD ((lsd b i.natAbs).reverse.map dg) = true then _ else _) = _
    rw [hd]
    rfl
theorem nin_num {b : Nat} (hb : 2 ≤ b) (h16 : b ≤ 16) (i : Int) : nin (b : Int) (numT b i) = i := by
  obtain ⟨h1, h2⟩ := num_ds hb h16 i
  unfold nin
  rw [h1, h2, ninL_dg b _ fun d hd => Nat.lt_of_lt_of_le (lsd_small hb _ d (List.mem_reverse.mp hd)) h16, valN_lsd hb]
  by_cases h : i < 0
  · rw [decide_eq_true h, if_pos rfl]
    omega
  · rw [decide_eq_false h, if_neg Bool.false_ne_true]
    omega
/-- the law's look at the signs -/
structure Wr (b : Nat) (t : Str) : Prop where
  all : ∀ c ∈ unm t.cps.toList, 0 ≤ fv c ∧ fv c < (b : Int)
  ne : unm t.cps.toList ≠ []
  no : ¬ ((unm t.cps.toList).head? = some 48 ∧ unm t.cps.toList ≠ [48])
  nd : t.cps.toList ≠ [45, 48]
theorem wr_num {b : Nat} (hb : 2 ≤ b) (h16 : b ≤ 16) (i : Int) : Wr b (numT b i) := by
  obtain ⟨h1, h2⟩ := num_ds hb h16 i
  have sm : ∀ d ∈ (lsd b i.natAbs).reverse, d < b := fun d hd => lsd_small hb _ d (List.mem_reverse.mp hd)
  have hne : (lsd b i.natAbs).reverse ≠ [] := fun z => lsd_ne b i.natAbs (List.reverse_eq_nil_iff.mp z)
  -- a nought ahead stands alone
  have lead : (lsd b i.natAbs).reverse.head? = some 0 → (lsd b i.natAbs).reverse = [0] := by
    generalize i.natAbs = n
    intro h
    rw [List.head?_reverse] at h
    induction n using Nat.strongRecOn with
    | _ n ih =>
      by_cases hn : n < b
      · rw [lsd_lt hn] at h ⊢
        have : n = 0 := by simpa using h
        rw [this]
        rfl
      · exfalso
        rw [lsd_ge hb (by omega)] at h
        have hnn := lsd_ne b (n / b)
        have h3 : (lsd b (n / b)).getLast? = some 0 := by
          cases hl : lsd b (n / b) with
          | nil => exact absurd hl hnn
          | cons x xs =>
            rw [hl] at h
            simpa using h
        have h4 := ih (n / b) (Nat.div_lt_self (by omega) (by omega)) h3
        have h5 : lsd b (n / b) = [0] := by
          have := congrArg List.reverse h4
          simpa using this
        have h6 := lsd_val hb (n / b)
        rw [h5] at h6
        have h7 : n / b = 0 := by simpa using h6.symm
        have := (Nat.div_eq_zero_iff).mp h7
        omega
  have dz : ∀ d, d < 16 → dg d = 48 → d = 0 := by decide
  refine ⟨?_, ?_, ?_, ?_⟩
  · rw [h1]
    intro c hc
    obtain ⟨d, hd, rfl⟩ := List.mem_map.mp hc
    have := sm d hd
    rw [fv_dg (by omega)]
    omega
  · rw [h1]
    intro z
    exact hne (List.map_eq_nil_iff.mp z)
  · rw [h1]
    rintro ⟨h3, h4⟩
    apply h4
    have h5 : (lsd b i.natAbs).reverse.head? = some 0 := by
      cases hc : (lsd b i.natAbs).reverse with
      | nil => exact absurd hc hne
      | cons d ds =>
        rw [hc] at h3
        have e : dg d = 48 := by simpa using h3
        have := dz d (Nat.lt_of_lt_of_le (sm d (by rw [hc]; simp)) h16) e
        rw [this]
        rfl
    rw [lead h5]
    rfl
  · intro z
    have hD : hasD (numT b i).cps.toList = true := by rw [z]; rfl
    rw [h2] at hD
    have hi : i < 0 := of_decide_eq_true hD
    have h3 : unm (numT b i).cps.toList = [48] := by rw [z]; rfl
    rw [h1] at h3
    have h4 : (lsd b i.natAbs).reverse = [0] := by
      cases hc : (lsd b i.natAbs).reverse with
      | nil => exact absurd hc hne
      | cons d ds =>
        rw [hc] at h3
        have e : dg d = 48 ∧ ds = [] := by simpa using h3
        rw [e.2, dz d (Nat.lt_of_lt_of_le (sm d (by rw [hc]; simp)) h16) e.1]
    have h5 := valN_lsd hb i.natAbs
    rw [h4] at h5
    have : i.natAbs = 0 := by
      rw [← h5]
      show 0 * b + 0 = 0
      omega
    omega
theorem num_wr {b : Nat} (hb : 2 ≤ b) (h16 : b ≤ 16) {t : Str} (w : Wr b t) : t = numT b (nin (b : Int) t) := by
  -- the signs are figures
  obtain ⟨ds, hds, sm⟩ : ∃ ds : List Nat, unm t.cps.toList = ds.map dg ∧ ∀ d ∈ ds, d < b := by
    have all := w.all
    generalize unm t.cps.toList = cs at all
    induction cs with
    | nil => exact ⟨[], rfl, fun d h => by cases h⟩
    | cons c cs ih =>
      obtain ⟨ds, h1, h2⟩ := ih fun x hx => all x (List.mem_cons_of_mem _ hx)
      have hc := all c (by simp)
      rcases fv_cases c with ⟨h3, _⟩ | ⟨d, h3, h4, h5⟩
      · omega
      · refine ⟨d :: ds, by rw [List.map_cons, h1, h4], fun x hx => ?_⟩
        rcases List.mem_cons.mp hx with rfl | hx
        · omega
        · exact h2 x hx
  have ne : ds ≠ [] := fun z => w.ne (by rw [hds, z]; rfl)
  have dz : ∀ d, d < 16 → dg d = 48 → d = 0 := by decide
  have lead : ds.head? = some 0 → ds = [0] := fun h => by
    have h3 : (unm t.cps.toList).head? = some 48 := by
      rw [hds]
      cases ds with
      | nil => exact absurd rfl ne
      | cons d ds =>
        have : d = 0 := by simpa using h
        rw [this]
        rfl
    have h4 : unm t.cps.toList = [48] := Classical.byContradiction fun z => w.no ⟨h3, z⟩
    rw [hds] at h4
    cases ds with
    | nil => exact absurd rfl ne
    | cons d ds =>
      have e : dg d = 48 ∧ ds = [] := by simpa using h4
      rw [e.2, dz d (Nat.lt_of_lt_of_le (sm d (by simp)) h16) e.1]
  have hv : ninL (b : Int) (unm t.cps.toList) = ((valN b ds : Nat) : Int) := by rw [hds, ninL_dg b ds fun d hd => Nat.lt_of_lt_of_le (sm d hd) h16]
  have hl := lsd_back hb ds ne sm lead
  refine str_ext ?_
  rw [numT_cps]
  unfold nin
  rw [hv]
  cases hD : hasD t.cps.toList with
  | true =>
    rw [if_pos rfl]
    have ht : t.cps.toList = 45 :: ds.map dg := by
      have h5 : unm t.cps.toList = t.cps.toList.tail := by unfold unm; rw [hD]; rfl
      cases hc : t.cps.toList with
      | nil =>
        rw [hc] at hD
        cases hD
      | cons c cs =>
        rw [hc] at hD h5
        have : c = 45 := by
          unfold hasD at hD
          simpa using hD
        rw [this]
        congr 1
        rw [← hds, hc, h5]
        rfl
    have hp : 0 < valN b ds := by
      by_cases h0 : ds.head? = some 0
      · exfalso
        have := lead h0
        rw [this] at ht
        exact w.nd ht
      · exact valN_pos (by omega) ds ne h0
    rw [if_pos (by omega), ht]
    have e : (-((valN b ds : Nat) : Int)).natAbs = valN b ds := by omega
    rw [e, hl, List.reverse_reverse]
    rfl
  | false =>
    rw [if_neg Bool.false_ne_true, if_neg (by omega)]
    have ht : t.cps.toList = ds.map dg := by
      rw [← hds]
      unfold unm
      rw [hD]
      rfl
    rw [ht]
    have e : (((valN b ds : Nat) : Int)).natAbs = valN b ds := by omega
    rw [e, hl, List.reverse_reverse]
    rfl
theorem ninL_sz {b : Nat} (h16 : b ≤ 16) (cs : List Nat) : (ninL (b : Int) cs).natAbs < 16 ^ (cs.length + 1) := by
  refine rev_ind (P := fun cs => (ninL (b : Int) cs).natAbs < 16 ^ (cs.length + 1)) (by show 0 < 16; decide) (fun es c ih => ?_) cs
  rw [ninL_app, List.length_append]
  have h1 : (fv c).natAbs ≤ 15 := by
    rcases fv_cases c with ⟨h, _⟩ | ⟨d, h3, h4, h5⟩ <;> omega
  have h2 : (ninL (b : Int) es * (b : Int) + fv c).natAbs ≤ (ninL (b : Int) es).natAbs * b + 15 := by
    have h3 := Int.natAbs_add_le (ninL (b : Int) es * (b : Int)) (fv c)
    rw [Int.natAbs_mul, Int.natAbs_natCast] at h3
    omega
  have h4 : (ninL (b : Int) es).natAbs * b ≤ (ninL (b : Int) es).natAbs * 16 := Nat.mul_le_mul_left _ h16
  have h5 : 16 ^ (es.length + [c].length + 1) = 16 ^ (es.length + 1) * 16 := by
    rw [show es.length + [c].length + 1 = (es.length + 1) + 1 from rfl, Nat.pow_succ]
  rw [h5]
  omega
theorem nin_sz {b : Nat} (h16 : b ≤ 16) {t : Str} {n : Nat} (hl : t.length ≤ n) : (nin (b : Int) t).natAbs < 2 ^ (4 * (n + 1)) := by
  have h1 := ninL_sz h16 (unm t.cps.toList)
  have h2 := unm_len t.cps.toList
  have h3 : 16 ^ ((unm t.cps.toList).length + 1) ≤ 16 ^ (n + 1) := Nat.pow_le_pow_right (by decide) (by rw [len_cps] at hl; omega)
  have h4 : (16 : Nat) ^ (n + 1) = 2 ^ (4 * (n + 1)) := by rw [Nat.pow_mul]
  unfold nin
  split
  · rw [Int.natAbs_neg]
    omega
  · omega
/-! ### == of flat things inside a builtin -/
theorem eqB_flat {X : Cx} : EqB X 0 (fun x y _ b => flatV x = true ∧ flatV y = true ∧ eqV x y = b) := by
  intro A pins s σ H x y u v b sb I rx ry d
  obtain ⟨fx, fy, e⟩ := d
  have q := eqAt_V (A := A) (s := s) rx ry fx fy
  rw [e] at q
  exact q X.prog X.w X.xe _ ⟨rfl, H, I, Ext.rfl'⟩
end MM
namespace MM
open PySem PySem.Spec PyProof.Rows L2
section
variable {J : It} {n : Nat} {G : Hp → Prop} {Y : Nat → Hp → V → Hp → Prop}
/-- a comprehension with a test, whose i-th thing is f i, and there where B i -/
theorem lc_fltV (w : Walk J n G Y) (hY : ∀ i H x H', Y i H x H' → Same H H') {g : TG} {tt : TT} {te : TE} {vs : List Nat} {σ : L2.St} {H : Hp} {D : Addr} {Qd : Hp → Prop} (nD : H D = none) (hn : n < sizeLine) (f : Nat → V) (B : Nat → Bool) (hG : ∀ H', Same H H' → G H')
    (hs : ∀ i x H1 H2 (R : V → Hp → Prop) (N : Hp → Prop), i < n → Same H H1 → Y i H1 x H2 → (B i = true → ∀ H3, Same H2 H3 → R (f i) H3) → (B i = false → ∀ H3, Same H2 H3 → N H3) → g x (wipe σ vs) H2 fun σ2 H3 => wipe σ2 vs = wipe σ vs ∧ tt σ2 H3 fun b H4 => if b = true then te σ2 H4 R else N H4)
    (hd : ∀ H', H' D = some (.lst (((List.range n).filter B).map f)) → Same H H' → Qd H') :
    ∃ W : Nat → Nat → Hp → Prop, (∃ m, W 0 m (L2.upd H D (.lst []))) ∧ ∀ i m H, W i m H →
      (J.stop i H ∧ Qd H) ∨ (J.go i H ∧ ∃ Nx : Hp → Prop, (∀ H', Nx H' → ∃ m', m' < m ∧ W (i + 1) m' H') ∧ ∀ x H', J.yld i H x H' → g x (wipe σ vs) H' fun σ2 H2 => wipe σ2 vs = wipe σ vs ∧ tt σ2 H2 fun b H3 =>
        if b = true then te σ2 H3 fun y H4 => ∃ acc, H4 D = some (.lst acc) ∧ acc.length < sizeLine ∧ Nx (L2.upd H4 D (.lst (acc ++ [y]))) else Nx H3) := by
  refine lc_it w (fun i H' => H' D = some (.lst (((List.range i).filter B).map f)) ∧ Same H H') ⟨upd_same, upd_keep nD (Same.refl H)⟩ (fun i H' _ ⟨_, s⟩ => hG H' s) ?_ (fun H' ⟨e, s⟩ => hd H' e s)
  rintro i x H1 H2 hi ⟨e, s⟩ y
  have s2 := hY _ _ _ _ y
  have el : (((List.range i).filter B).map f).length < sizeLine := by
    rw [List.length_map]
    have := List.length_filter_le B (List.range i)
    rw [List.length_range] at this
    omega
  refine hs i x H1 H2 _ _ hi s y (fun hB H3 s3 => ?_) (fun hB H3 s3 => ?_)
  · refine ⟨_, s3 _ _ (s2 _ _ e), el, ?_, upd_keep nD (s.trans (s2.trans s3))⟩
    rw [upd_same, List.range_succ, List.filter_append, List.map_append]
    simp [hB]
  · refine ⟨?_, s.trans (s2.trans s3)⟩
    rw [s3 _ _ (s2 _ _ e), List.range_succ, List.filter_append]
    simp [hB]
end
/-! ### sorted of pairs of a whole number and a truth -/
section
open SrtO Srt
variable {prog : Program} {w : World} {A : Around} {E : Value → Shared → Prop} {s : Shared}
/-- at v a pair of a whole number and a truth -/
def PrB (h : Heap) (v : Value) (x : Int) (b : Bool) : Prop := ∃ a o t n, v = .ref a ∧ h.get? a = some o ∧ o.cls = .type "tuple" ∧ o.data = .seq #[.int x t, .bool b] n
theorem PrB.keeps {h h' : Heap} {v : Value} {x : Int} {b : Bool} (p : PrB h v x b) (k : ∀ c o, h.get? c = some o → o.cls = .type "tuple" → h'.get? c = some o) : PrB h' v x b := by
  obtain ⟨a, o, t, n, rfl, e, c, d⟩ := p
  exact ⟨a, o, t, n, rfl, k a o e c, c, d⟩
theorem prb_firsts {h : Heap} : ∀ {vs : List Value}, (∀ v ∈ vs, ∃ x b, PrB h v x b) → ∃ fs : List Value, PySem.W.KatTups h vs fs ∧ fs.length = vs.length ∧ ∀ f ∈ fs, ∃ x t, f = Value.int x t
  | [], _ => ⟨[], .nil, rfl, fun _ z => absurd z List.not_mem_nil⟩
  | v :: vs, hp => by
    obtain ⟨fs, k, l, i⟩ := prb_firsts (vs := vs) fun u hu => hp u (List.mem_cons_of_mem _ hu)
    obtain ⟨x, b, a, o, t, n, rfl, ho, hc, hd⟩ := hp v List.mem_cons_self
    refine ⟨.int x t :: fs, .cons ho hc hd rfl k, congrArg Nat.succ l, fun f hf => ?_⟩
    rcases List.mem_cons.mp hf with rfl | hf
    · exact ⟨x, t, rfl⟩
    · exact i f hf
/-- the pair's key -/
def kB (p : Int × Bool) : Int × Int := (p.1, b2i p.2)
theorem prb_cmp {vs : List Value} {k : Value → Int × Bool} (hp : ∀ v ∈ vs, PrB s.heap v (k v).1 (k v).2) : Cmp prog w A s (tuples' true) (fun p => p.1 ∈ vs) (lt2 fun v u => lexB (kB (k v)) (kB (k u))) := by
  intro p q m1 m2
  obtain ⟨a, o, t, n, e, ho, hc, hd⟩ := hp _ m1
  obtain ⟨a', o', t', n', e', ho', hc', hd'⟩ := hp _ m2
  show wpAny (model prog w) A (keyLt' (tuples' true) p.1 q.1) (fun r s' => s' = s ∧ r = lexB (kB (k p.1)) (kB (k q.1))) (fun _ _ => False) s
  generalize (k p.1) = z at *
  generalize (k q.1) = z' at *
  obtain ⟨x, b⟩ := z
  obtain ⟨x', b'⟩ := z'
  rw [e, e']
  refine PySem.W.kat_lt ho hd ho' hd' (PySem.W.kat_cons (SeqAt.EqAt.int_int x t x' t' prog w _ _ (PySem.W.kat_go (fun e1 => ?_) (fun e1 => ?_))))
  · have ex : x = x' := by simpa using e1
    refine PySem.W.kat_yes (PySem.W.kat_cons (SeqAt.EqAt.bool_bool b b' prog w _ _ (PySem.W.kat_go (fun e2 => ?_) (fun e2 => ?_))))
    · have ey : b = b' := by simpa using e2
      refine PySem.W.kat_yes (PySem.W.kat_nil ⟨rfl, ?_⟩)
      show decide (2 < 2) = lexB (x, b2i b) (x', b2i b')
      rw [ex, ey]
      unfold lexB
      rw [if_pos rfl, decide_eq_false (Int.lt_irrefl _)]
      rfl
    · refine PySem.W.kat_no (PySem.W.kat_one _ _ (PyProof.Rows.lt_bool ?_))
      refine (show s = s ∧ decide (b2i b < b2i b') = lexB (x, b2i b) (x', b2i b') from ⟨rfl, ?_⟩)
      unfold lexB
      rw [if_pos ex]
  · have ex : ¬ x = x' := by simpa using e1
    refine PySem.W.kat_no (oneLt_int ⟨rfl, ?_⟩)
    show _ = lexB (x, b2i b) (x', b2i b')
    unfold lexB
    rw [if_neg ex]
theorem prb_sorted {l : Addr} {vs : List Value} {k : Value → Int × Bool} {Q : Value → Shared → Prop} (hl : s.heap.IsList l vs.toArray) (hz : vs.length ≤ sizeLine) (hp : ∀ v ∈ vs, PrB s.heap v (k v).1 (k v).2)
    (hs : Srtd (fun v u => lexB (kB (k v)) (kB (k u))) vs)
    (h : ∀ (h' : Heap) (d : Addr), (∀ b o, s.heap.get? b = some o → h'.get? b = some o) → s.heap.objs.size ≤ d → (∃ n, h'.get? d = some (seqObj "list" vs.toArray n)) → Q (.ref d) { s with heap := h' }) :
    wpAny (model prog w) A (call (.builtin "sorted") [.ref l]) Q E s := by
  have O : Swo fun v u => lexB (kB (k v)) (kB (k u)) := swo_lex fun v => kB (k v)
  refine sorted_ord O hl hz (fun h2 h₁ a ha kk => ?_) fun out so sb => ?_
  · intro h' keep
    have nt : ∀ o, h₁.get? a = some o → o.cls ≠ .type "tuple" := fun o e c => by
      rw [ha] at e
      cases e
      exact absurd (Value.type.inj c) (by decide)
    have hp' : ∀ v ∈ vs, PrB h' v (k v).1 (k v).2 := fun v hm => (hp v hm).keeps fun b o e c => keep b o (fun z => nt o (by rw [← z]; exact (kk b o e).2) c) (kk b o e).2
    obtain ⟨fs, f1, f2, f3⟩ := prb_firsts fun v hm => ⟨_, _, hp' v hm⟩
    refine ⟨tuples' true, fun Q E hq => ?_, prb_cmp hp'⟩
    refine PySem.W.kat_kind (T := .type "int") f1 (by omega) (fun f hm => ?_) (by rfl) ?_
    · obtain ⟨x, t, rfl⟩ := f3 f hm
      exact PySem.W.Looks.now
    · have e : (Value.type "int" != Value.type "tuple") = true := by first | rfl | decide +kernel
      rw [e]
      exact hq
  · obtain rfl : out = vs := stb_uniq O so hs sb
    exact h _ _ (fun b o e => sortedAll_old e) (Nat.le_succ _) (sortedAll_at s.heap out out.toArray)
end
/-- sorted(xs) of pairs that stand sorted already -/
def rSortedIB (K : PySem.W.Frag) : List V → Hp → VK → Prop := fun vs H Q => ∃ (a : Addr) (xs : List V) (k : V → Int × Bool), vs = [V.ref a] ∧ SqL K H a xs ∧ (∀ x ∈ xs, ∃ t, x = V.ref t ∧ H t = some (.tup [.int (k x).1, .bl (k x).2])) ∧
  xs.Pairwise (fun x y => SrtO.lexB (kB (k y)) (kB (k x)) = false) ∧ ∀ p, H p = none → Q (.ref p) (upd H p (.lst xs))
theorem cr_sortedIB {X : Cx} : CallR X (.builtin "sorted") (rSortedIB X.K) := by
  intro pins s σ H vs us Q I r h
  obtain ⟨a, xs, k, rfl, hs, hx, hp, q⟩ := h
  obtain ⟨its, rv, hl, hz⟩ := I.list hs
  obtain ⟨u, rfl, ru⟩ := vals1 r
  obtain rfl : u = Value.ref a := ru
  obtain ⟨e1, e2⟩ := refs_back rv fun x m => by
    obtain ⟨t, e, _⟩ := hx x m
    exact ⟨t, e⟩
  refine prb_sorted (k := fun u => k (backV u)) hl.isList (by rw [← rv.length]; exact hz) (fun v hv => ?_) ?_ fun h' d kp hd hn => ?_
  · obtain ⟨t, rfl⟩ := e2 v hv
    have hm : V.ref t ∈ xs := by rw [e1]; exact List.mem_map.mpr ⟨_, hv, rfl⟩
    obtain ⟨t', e, ht⟩ := hx _ hm
    cases e
    obtain ⟨_, its2, r2, o, ho, hc, n, hd⟩ := I.hok _ _ ht
    obtain ⟨u1, u2, rfl, ri, rj⟩ := vals2 r2
    obtain ⟨t1, rfl⟩ := ri
    cases (show u2 = Value.bool _ from rj)
    exact ⟨t, o, t1, n, rfl, ho, hc, hd⟩
  · rw [e1, List.pairwise_map] at hp
    exact hp
  · obtain ⟨n, hn⟩ := hn
    exact ⟨.ref d, upd H d (.lst xs), I.laid (t' := s.toks) kp hd ⟨hz, its, n, rv, hn⟩, rfl, q d (I.hok.fresh hd)⟩
end MM
namespace MM
open PySem PySem.Spec PySem.Calls PyProof.Rows L2
open AutoSeq1 (wpAny_loadPart')
open GQ (FinOf call_here ListI)
/-! ### lists of instances, != -/
section
variable {prog : Program} {w : World} {A : Around} {R : Result → Shared → Prop}
theorem ne_loop (l b : Addr) (N : Nat) (Iv : Nat → Shared → Prop) (hl : ListI prog w A (fun e s' => R (.error e) s') l b N Iv) (fin : ∀ s, Iv N s → R (.ok (.ret (.bool false))) s) (d : Nat) :
    ∀ i : Nat, N - i = d → i ≤ N → ∀ s, Iv i s → wpAny (model prog w) A.in1 (Builtin.«list.__eq__.loop» ⟨[.ref l, .ref b, rawInt i, rawInt 3], []⟩) (FinOf prog w A R) (fun e s' => R (.error e) s') s := by
  induction d with
  | zero =>
    intro i hd hi s h
    obtain ⟨xs, ys, n, m, gx, gy, zx, zy, _⟩ := hl _ _ h
    have hR : R (.ok (.ret (.bool false))) s := fin s ((show i = N by omega) ▸ h)
    obtain ⟨hp, g, dd, tk, os⟩ := s
    wp_walk using wpAny_loadPart' gx, wpAny_loadPart' gy
    rw [show xs[((i : Nat) : Int).toNat]? = none by simp; omega, show ys[((i : Nat) : Int).toNat]? = none by simp; omega]
    wp_walk using wpAny_loadPart' gx, wpAny_loadPart' gy
    show R (.ok (.ret (.bool (xs.size != ys.size)))) _
    rw [zx, zy]
    simpa using hR
  | succ d ih =>
    intro i hd hi s h
    obtain ⟨xs, ys, n, m, gx, gy, zx, zy, turn⟩ := hl _ _ h
    have l1 : i < xs.size := by omega
    have l2 : i < ys.size := by omega
    have ht := turn l1 l2
    obtain ⟨hp, g, dd, tk, os⟩ := s
    wp_walk using wpAny_loadPart' gx, wpAny_loadPart' gy
    have ec : ((i : Int) + 1) = ((i + 1 : Nat) : Int) := by omega
    rw [show xs[((i : Nat) : Int).toNat]? = some xs[i] by simp [l1], show ys[((i : Nat) : Int).toNat]? = some ys[i] by simp [l2]]
    refine wpAny_bind (wpAny_mono ht (fun r s2 q2 => ?_) fun _ _ x => x)
    obtain ⟨hr, q2⟩ := q2
    subst hr
    have again := ih (i + 1) (by omega) (by omega) s2 q2
    obtain ⟨hp2, g2, d2, tk2, os2⟩ := s2
    wp_walk
    rw [ec]
    exact ⟨plainId_quiet MeetsSeq3.plain_eq_loop _, codeAny_builtin MeetsSeq3.entry_eq_loop (by
      rw [Around.under_plainId MeetsSeq3.plain_eq_loop _]
      exact again)⟩
theorem list_ne (l b : Addr) (N : Nat) (Iv : Nat → Shared → Prop) (hl : ListI prog w A (fun e s' => R (.error e) s') l b N Iv) (fin : ∀ s, Iv N s → R (.ok (.ret (.bool false))) s) {s : Shared} (h : Iv 0 s) :
    wpAny (model prog w) A.in1 (Builtin.«list.__ne__» ⟨[.ref l, .ref b], []⟩) (FinOf prog w A R) (fun e s' => R (.error e) s') s := by
  obtain ⟨xs, ys, n, m, gx, gy, zx, zy, _⟩ := hl _ _ h
  have first := ne_loop (A := A) (R := R) l b N Iv hl fin _ 0 rfl (Nat.zero_le _) s h
  obtain ⟨hp, g, d, tk, os⟩ := s
  have f3 := AutoSeq1.sub_list_list
  have nz : ¬ (xs.size != ys.size) = true := by simp [zx, zy]
  wp_walk using wpAny_loadPart' gx, wpAny_loadPart' gy
  exact ⟨plainId_quiet MeetsSeq3.plain_eq_loop _, codeAny_builtin MeetsSeq3.entry_eq_loop (by
    rw [Around.under_plainId MeetsSeq3.plain_eq_loop _]
    exact first)⟩
end
theorem op_neLG {X : Cx} {n : Nat} {D : Eqv} (hD : Mon D) (h : EqG X n D) (hr : Room (n + 1) X.A) : OpR X (compareOp .NotEq) (rNeG (DList D)) := by
  intro pins s σ H x y v u Q I rx ry hq
  obtain ⟨⟨a, b, xs, ys, rfl, rfl, ha, hb, p⟩, q⟩ := hq
  cases (show v = Value.ref a from rx)
  cases (show u = Value.ref b from ry)
  have sb : L2.Sub X (n + 1) X.A := ⟨hr, rfl⟩
  have hL : ListI X.prog X.w X.A X.xe a b xs.length (fun _ s' => LoopI X pins σ H s') := fun i s' z => by
    obtain ⟨H1, I1, e1⟩ := id z
    obtain ⟨_, its, k, r, e⟩ := I1.hok a _ (e1 _ _ ha)
    obtain ⟨_, its2, k2, r2, e2⟩ := I1.hok b _ (e1 _ _ hb)
    exact ⟨its.toArray, its2.toArray, k, k2, e, e2, by rw [List.size_toArray, ← r.length], by rw [List.size_toArray, ← r2.length, ← p.1], fun h1 h2 => turnG hD h sb p r r2 i h1 h2 s' z⟩
  obtain ⟨xa, ya, n1, n2, g1, g2, _⟩ := hL 0 s ⟨H, I, Ext.rfl'⟩
  show wpAny (model X.prog X.w) X.A (richCompare .NotEq (.ref a) (.ref b)) (EP X pins σ Q) X.xe s
  refine wpAny_richCompare_same_room (op := .NotEq) ⟨_, g1, rfl⟩ ⟨_, g2, rfl⟩ PySem.F.slot_list_ne (call_here PySem.F.slot_list_ne ⟨_, g1, rfl⟩ PySem.F.entry_list_ne (PySem.F.args_list_ne_2 _ _) ?_) sb.room.units0
  refine list_ne (R := wants (fun v s' => v ≠ .notImplemented ∧ EP X pins σ Q v s') X.xe) a b xs.length _ hL (fun s' z => ⟨(fun x => nomatch x), ?_⟩) ⟨H, I, Ext.rfl'⟩
  obtain ⟨H', I', e'⟩ := z
  exact ⟨.bl false, H', I', rfl, q H' e'⟩
end MM
namespace MM
open PySem PySem.Spec PySem.Calls PyProof.Rows L2
open AutoSeq1 (wpAny_loadPart')
open GQ (FinOf call_here)
/-! ### lists whose first things differ, == -/
section
variable {prog : Program} {w : World} {A : Around} {R : Result → Shared → Prop}
def ListF (prog : Program) (w : World) (A : Around) (E : Value → Shared → Prop) (l b : Addr) (N : Nat) (I : Shared → Prop) : Prop :=
  ∀ s, I s → ∃ (xs ys : Array Value) (n m : Nat), s.heap.get? l = some { cls := .type "list", data := .seq xs n } ∧ s.heap.get? b = some { cls := .type "list", data := .seq ys m } ∧ xs.size = N ∧ ys.size = N ∧
    ∀ (h1 : 0 < xs.size) (h2 : 0 < ys.size), wpAny (model prog w) A.in1 (eqBool xs[0] ys[0]) (fun r s' => r = false ∧ I s') E s
theorem eq_loopF (l b : Addr) (N : Nat) (hN : 0 < N) (Iv : Shared → Prop) (hl : ListF prog w A (fun e s' => R (.error e) s') l b N Iv) (fin : ∀ s, Iv s → R (.ok (.ret (.bool false))) s) {s : Shared} (h : Iv s) :
    wpAny (model prog w) A.in1 (Builtin.«list.__eq__.loop» ⟨[.ref l, .ref b, rawInt 0, rawInt 2], []⟩) (FinOf prog w A R) (fun e s' => R (.error e) s') s := by
  obtain ⟨xs, ys, n, m, gx, gy, zx, zy, turn⟩ := hl _ h
  have l1 : 0 < xs.size := by omega
  have l2 : 0 < ys.size := by omega
  have ht := turn l1 l2
  obtain ⟨hp, g, dd, tk, os⟩ := s
  wp_walk using wpAny_loadPart' gx, wpAny_loadPart' gy
  rw [show xs[(0 : Int).toNat]? = some xs[0] by simp [l1], show ys[(0 : Int).toNat]? = some ys[0] by simp [l2]]
  refine wpAny_bind (wpAny_mono ht (fun r s2 q2 => ?_) fun _ _ x => x)
  obtain ⟨hr, q2⟩ := q2
  subst hr
  obtain ⟨xs2, ys2, n2, m2, gx2, gy2, zx2, zy2, _⟩ := hl _ q2
  have hR := fin _ q2
  have k1 : 0 < xs2.size := by omega
  have k2 : 0 < ys2.size := by omega
  obtain ⟨hp2, g2, d2, tk2, os2⟩ := s2
  wp_walk using wpAny_loadPart' gx2, wpAny_loadPart' gy2
  rw [show xs2[(0 : Int).toNat]? = some xs2[0] by simp [k1], show ys2[(0 : Int).toNat]? = some ys2[0] by simp [k2]]
  wp_walk
  exact hR
theorem list_eqF (l b : Addr) (N : Nat) (hN : 0 < N) (Iv : Shared → Prop) (hl : ListF prog w A (fun e s' => R (.error e) s') l b N Iv) (fin : ∀ s, Iv s → R (.ok (.ret (.bool false))) s) {s : Shared} (h : Iv s) :
    wpAny (model prog w) A.in1 (Builtin.«list.__eq__» ⟨[.ref l, .ref b], []⟩) (FinOf prog w A R) (fun e s' => R (.error e) s') s := by
  obtain ⟨xs, ys, n, m, gx, gy, zx, zy, _⟩ := hl _ h
  have first := eq_loopF (A := A) (R := R) l b N hN Iv hl fin h
  obtain ⟨hp, g, d, tk, os⟩ := s
  have f3 := AutoSeq1.sub_list_list
  have nz : ¬ (xs.size != ys.size) = true := by simp [zx, zy]
  wp_walk using wpAny_loadPart' gx, wpAny_loadPart' gy
  exact ⟨plainId_quiet MeetsSeq3.plain_eq_loop _, codeAny_builtin MeetsSeq3.entry_eq_loop (by
    rw [Around.under_plainId MeetsSeq3.plain_eq_loop _]
    exact first)⟩
end
/-- x == y, lists of one length whose first things are not == -/
def rEqLF (D : V → V → Hp → Bool → Prop) : R2 := fun x y H Q => ∃ (a b : Addr) (p q : V) (xs ys : List V), x = .ref a ∧ y = .ref b ∧ H a = some (.lst (p :: xs)) ∧ H b = some (.lst (q :: ys)) ∧ xs.length = ys.length ∧ (∀ H', Ext H H' → D p q H' false) ∧ ∀ H', Ext H H' → Q (.bl false) H'
theorem op_eqLF {X : Cx} {n : Nat} {D : V → V → Hp → Bool → Prop} (h : EqB X n D) (hr : Room (n + 1) X.A) : OpR X (compareOp .Eq) (rEqLF D) := by
  intro pins s σ H x y v u Q I rx ry hq
  obtain ⟨a, b, p, q, xs, ys, rfl, rfl, ha, hb, hlen, hD, k⟩ := hq
  cases (show v = Value.ref a from rx)
  cases (show u = Value.ref b from ry)
  have sb : L2.Sub X (n + 1) X.A := ⟨hr, rfl⟩
  have hL : ListF X.prog X.w X.A X.xe a b (xs.length + 1) (fun s' => LoopI X pins σ H s') := fun s' z => by
    obtain ⟨H1, I1, e1⟩ := id z
    obtain ⟨_, its, k, r, e⟩ := I1.hok a _ (e1 _ _ ha)
    obtain ⟨_, its2, k2, r2, e2⟩ := I1.hok b _ (e1 _ _ hb)
    refine ⟨its.toArray, its2.toArray, k, k2, e, e2, by rw [List.size_toArray, ← r.length]; rfl, by rw [List.size_toArray, ← r2.length, List.length_cons, hlen], fun h1 h2 => ?_⟩
    obtain ⟨p', hp', rp⟩ := get_arr r h1
    obtain ⟨q', hq', rq⟩ := get_arr r2 h2
    cases hp'
    cases hq'
    refine wpAny_mono (h X.A.in1 pins s' σ H1 _ _ _ _ false sb.in1 I1 rp rq (hD H1 e1)) (fun c s2 z2 => ?_) fun _ _ y => y
    obtain ⟨hc, H2, I2, x2⟩ := z2
    exact ⟨hc, H2, I2, e1.trans x2⟩
  obtain ⟨xa, ya, n1, n2, g1, g2, _⟩ := hL s ⟨H, I, Ext.rfl'⟩
  show wpAny (model X.prog X.w) X.A (richCompare .Eq (.ref a) (.ref b)) (EP X pins σ Q) X.xe s
  refine wpAny_richCompare_same_room (op := .Eq) ⟨_, g1, rfl⟩ ⟨_, g2, rfl⟩ PySem.F.slot_list_eq (call_here PySem.F.slot_list_eq ⟨_, g1, rfl⟩ PySem.F.entry_list_eq (PySem.F.args_list_eq_2 _ _) ?_) sb.room.units0
  refine list_eqF (R := wants (fun v s' => v ≠ .notImplemented ∧ EP X pins σ Q v s') X.xe) a b (xs.length + 1) (Nat.succ_pos _) _ hL (fun s' z => ⟨(fun x => nomatch x), ?_⟩) ⟨H, I, Ext.rfl'⟩
  obtain ⟨H', I', e'⟩ := z
  exact ⟨.bl false, H', I', rfl, k H' e'⟩
end MM
namespace MM
open PySem PySem.Spec PySem.Calls PyProof.Rows L2
/-! ### len(x) of an instance with its own __len__ -/
section
variable {prog : Program} {w : World} {A : Around} {E : Value → Shared → Prop} {s : Shared} {K : PySem.W.Frag} {x C f : Addr} {ox : Obj} {od : Option Obj}
open PySem.Builtin in
theorem len_fn {Q : Value → Shared → Prop} (X : K.In s.heap) (I : PySem.W.InstAt s.heap x ox C od) (hs : PySem.W.findIn K (.ref C) "__len__" = some (some (.ref f))) (hf : PySem.W.isFn K (.ref f) = true)
    (hcall : wpAny (model prog w) A.in1 (call (.ref f) [.ref x]) (fun r s' => ∃ n u, r = .int n u ∧ 0 ≤ n ∧ n < 2 ^ 63 ∧ Q (.int n s'.toks) { s' with toks := s'.toks + 1 }) E s) :
    wpAny (model prog w) A (call (.builtin "len") [.ref x]) Q E s := by
  refine PySem.Calls.call_function_entry kind_len plain_len entry_len (args_len1 _) ?_
  unfold Builtin.«len»
  refine wpAny_bind (m := oneArg "len" _) (wpAny_pure ?_)
  refine wpAny_bind (m := callSpecial? (.ref x) (Str.ofString "__len__")) (PySem.W.special_fn X I hs (beq_iff_eq.mp hf) (wpAny_mono hcall (fun r s' hr => ?_) fun _ _ y => y))
  obtain ⟨n, u, rfl, h0, h1, hq⟩ := hr
  refine wpAny_bind (wpAny_holding (wpAny_pure ?_))
  refine wpAny_bind (wpAny_letGo ?_)
  show wpAny _ _ (if n < 0 then _ else _) _ _ _
  rw [if_neg (by omega)]
  show wpAny _ _ (if n ≥ 2 ^ 63 then _ else _) _ _ _
  rw [if_neg (by omega)]
  exact wpAny_bind (wpAny_mkInt (wpAny_pure ⟨_, rfl, hq⟩))
end
def rLenO (C : Addr) (sp : Sp) (E : XK) : List V → Hp → VK → Prop := fun xs H Q => ∃ (a dx : Addr) (fs : List (Str × V)), xs = [.ref a] ∧ H a = some (.ins C dx fs) ∧ sp [.ref a] H (fun v H' => ∃ n : Nat, v = .int n ∧ n < 2 ^ 60 ∧ Q (.int n) H') E
theorem call_lenO {X : Cx} {CX : CXT} {k : Nat} {C f : Addr} {fd : FuncData} {ps : List Str} {sp : Sp} {E : XK} (F : FnOk X.prog X.w X.K X.mg X.base CX k f fd ps sp) (hs : PySem.W.findIn X.K (.ref C) "__len__" = some (some (.ref f))) (hf : PySem.W.isFn X.K (.ref f) = true) (hb : Binds X.K fd ps []) (hx : Passes CX X E) (hr : Room (k + 1) X.A) : CallR X (.builtin "len") (rLenO C sp E) := by
  intro pins s σ H xs us Q I r h
  obtain ⟨a, dx, fs, rfl, ha, hq⟩ := h
  obtain ⟨u, rfl, r1⟩ := vals1 r
  cases (show u = Value.ref a from r1)
  obtain ⟨mA, J, _⟩ := ins_get I.hok ha
  obtain ⟨od, J, _⟩ := J.look
  have hr1 : Room k X.A.in1 := hr.in1
  have hl : ([Value.ref a] ++ []).length = ps.length := (show ([V.ref a] : List V).length = _ from F.len _ _ _ _ hq)
  refine len_fn I.kIn J hs hf (wpAny_call (codeAny_mono (F.run X.A.in1 X.stack s H ⟨[.ref a], []⟩ [.ref a] [.ref a] _ E hr1 I.env0.in1 (hb s [.ref a] I.kIn hl) (.cons rfl .nil) hq) fun res s' hres => ?_))
  match res, hres with
  | .error er, hres => exact hx pins σ H s er s' I hres
  | .ok .next, hres => exact hres.elim
  | .ok .brk, hres => exact hres.elim
  | .ok .cont, hres => exact hres.elim
  | .ok (.ret u), hres =>
    obtain ⟨z, H', I', rz, n, rfl, hn, q⟩ := I.after hres
    obtain ⟨t, rfl⟩ := rz
    refine ⟨(n : Int), t, rfl, by omega, by omega, .int n, H', I'.tok _, ⟨_, rfl⟩, q⟩
theorem call_lenC {X : Cx} {CX : CXT} {k : Nat} {C : Addr} {qual : Str} {st : Stmt} {ps : List Str} {sp : Sp} {E : XK} (c : Cm X.prog X.w X.K X.mg X.base CX k C "__len__" qual st ps sp) (b : Bd "__len__" qual st ps) (hr : Room (k + 1) X.A) (hx : Passes CX X E) :
    CallR X (.builtin "len") (rLenO C sp E) := by
  obtain ⟨f, fd, F, M, hc, G⟩ := c.ex
  exact call_lenO G M.1 M.2 (F.bindsN b) hx hr
/-! ### classes whose __init__ has no defaults -/
theorem di_mk0 {K : PySem.W.Frag} {mg : Str → Option Value} {x qual : Str} {st : Stmt} {f C : Addr} {oc kV doc pm cdv ct : Value} {od an : Option Addr} {osl : Array (Option Value)} (hC : mg x = some (.ref C)) (a : PySem.W.findIn K (.ref C) "__init__" = some (some (.ref f))) (i : PySem.W.isFn K (.ref f) = true)
    (l : K.lookup f = some ⟨oc, od, .func (PySem.W.fnOf "__init__" qual (defArgs st) (defBody st) (defScope st) .none kV doc pm an cdv ct), osl⟩) (c : PySem.W.codeIn K cdv qual = true) (k : PySem.W.keepIn K (.ref f) = true)
    (mk : PySem.W.makesIn K C = true) (kc : PySem.W.keepIn K (.ref C) = true) : Di K mg x C qual st [] :=
  ⟨f, _, ⟨⟨oc, od, .none, kV, doc, pm, an, cdv, ct, osl, rfl, l, c, .inl ⟨rfl, rfl⟩, .inl rfl⟩, k⟩, ⟨mk, a, i, kc⟩, hC⟩
section
variable {X : Cx} {CX : CXT} {k j n d : Nat} {C : Addr} {x m qual : Str} {st : Stmt} {sp : Sp} {ps ks : List Str} {E : XK} {p pos apos : Pos} {e o : Expr} {es : List Expr} {kws : List Keyword} {ta : TE} {t tk : TA}
/-- C(e, ..), all by place -/
theorem pe_ciN (c : Ci X.prog X.w X.K X.mg X.base CX k x C qual st [] ps sp) (b : Bd "__init__" qual st ps) (hr : Room j X.A) (hk : k + 1 ≤ j) (hx : Passes CX X E) (hg : Gl X x) (ha : PA X (e :: es) t)
    (hdb : (x == ("__debug__" : Str)) = false := by decide) (he : starEach (e :: es) X.env = (false, eval e X.env) :: starEach es X.env := by rfl) (hpl : (backTo pos (starEach es X.env)).any (·.1) = false := by rfl) :
    PE X (.Call (.Name x p) (e :: es) [] pos) (tMake C sp [] E t) := by
  obtain ⟨f, fd, F, M, hm, G⟩ := c.ex
  exact pe_make M G (hr.mono hk) hg hm (F.bindsN b) .nil hx ha hdb he hpl
/-- o.m() -/
theorem pe_cm0 {pl : Sem Bool} (c : Cm X.prog X.w X.K X.mg X.base CX k C m qual st ps sp) (b : Bd m qual st ps) (hr : Room j X.A) (hk : k ≤ j) (hx : Passes CX X E) (he : PE X o ta)
    (ht : eval (.Call (.Attribute o m apos) [] [] pos) X.env = (do
      let ov ← eval o X.env
      standAt apos.atName
      let (f, first) ← holding [ov] (getMethod ov m pl)
      callWith pos f first (backTo pos (starEach [] X.env)) (backToKw pos (keywordEach [] X.env))) := by rfl) :
    PE X (.Call (.Attribute o m apos) [] [] pos) (tMeth C m sp [] E ta tNil) := by
  obtain ⟨f, fd, F, M, hc, G⟩ := c.ex
  exact pe_meth0 (pl := pl) he hc M G (hr.mono hk) (F.bindsN b) .nil hx ht
/-- C(k = v, ..), all by keywords -/
theorem pe_ciNK {g : {α : Type} → List α → List α → List α} (c : Ci X.prog X.w X.K X.mg X.base CX k x C qual st [] ps sp) (b : Kbm "__init__" qual st 1 ks ps g) (hrel : ∀ {vs : List V} {us : List Value} {zs : List V} {ws : List Value}, Vals vs us → Vals zs ws → Vals (g vs zs) (g us ws)) (hr : Room j X.A) (hk : k + 1 ≤ j) (hx : Passes CX X E) (hg : Gl X x) (hkw : PK X kws tk)
    (hall : (backToKw pos (keywordEach kws X.env)).all (·.1.isSome) = true := by rfl) (hks : (backToKw pos (keywordEach kws X.env)).filterMap (·.1) = ks := by rfl) (hdb : (x == ("__debug__" : Str)) = false := by decide)
    (hpl : ((backTo pos (starEach [] X.env)).any (·.1) || (backToKw pos (keywordEach kws X.env)).any (·.1.isNone)) = false := by rfl) :
    PE X (.Call (.Name x p) [] kws pos) (tMakeK C 0 ks.length sp g E tNil tk) := by
  obtain ⟨f, fd, F, M, hm, G⟩ := c.ex
  obtain ⟨kV, doc, pm, an, cdv, ct, rfl⟩ := FunD.none F
  exact pe_makeK0 (g := g) (gV := g) M G (hr.mono hk) hg hm ⟨fun s us ws _ l1 l2 => .of_eq (b.bind kV doc pm an cdv ct us ws l1 l2), hrel⟩ hx hkw hall hks hdb hpl
end
end MM
/-! len(set(xs)) of a list of any texts: how many unlike ones there are -/
namespace MM
open PySem PySem.Spec PyProof.Rows L2
/-- the unlike texts among the first i -/
def nun (xs : List Str) : Nat → Nat
  | 0 => 0
  | i + 1 => if (xs.take i).any (· == xs.getD i Str.empty) then nun xs i else nun xs i + 1
theorem nun_le (xs : List Str) : ∀ i, nun xs i ≤ i
  | 0 => Nat.le_refl 0
  | i + 1 => by
    have := nun_le xs i
    unfold nun
    split <;> omega
theorem take_one {xs : List Str} {i : Nat} (h : i < xs.length) : xs.take (i + 1) = xs.take i ++ [xs.getD i Str.empty] := by
  rw [List.take_succ, List.getD_eq_getElem?_getD, List.getElem?_eq_getElem h] <;> rfl
section
variable {prog : Program} {w : World} {A : Around} {R : Result → Shared → Prop} {I S : Addr} {fp wr : List Addr} {G : Array GenState → Array GenState → Prop} {n : Nat} {P : Nat → Value → Prop} {St : Nat → Shared → Prop}
theorem set_keep {h h' : Heap} {T : Str → Bool} {m : Nat} (q : h.SetOf (PySem.strKind prog w) S T m) (k : ∀ o, h.get? S = some o → h'.get? S = some o) : h'.SetOf (PySem.strKind prog w) S T m :=
  let ⟨o, es, ep, t, ho, z⟩ := q
  ⟨o, es, ep, t, k o ho, z⟩
theorem set_texts (W : WalksS prog w A.in1 I fp wr G n P St) (hS : S ∉ fp) (xs : List Str) (hl : xs.length = n) (hb : n < scanBound)
    (hv : ∀ i v, P i v → ∃ t, v = .str (xs.getD i Str.empty) t) (d : Nat) : ∀ (i : Nat) (s : Shared), n - i = d → i ≤ n → St i s →
      s.heap.SetOf (PySem.strKind prog w) S (fun k => (xs.take i).any (· == k)) (nun xs i) →
      (∀ s', Moved (S :: wr) G s s' → s'.heap.SetOf (PySem.strKind prog w) S (fun k => (xs.take n).any (· == k)) (nun xs n) → R (.ok (.ret .none)) s') →
      codeAny (model prog w) A (.builtin "set.update.loop" ⟨[.ref S, .ref I], []⟩) R s := by
  have hw : S ∉ wr := fun h => hS (W.sub _ h)
  have up : ∀ b ∈ wr, b ∈ S :: wr := fun b hb => List.mem_cons_of_mem _ hb
  induction d with
  | zero =>
    intro i s hd hi hst hs hR
    obtain rfl : i = n := by omega
    refine codeAny_builtin PyProof.Rows.F.entry_set_update_loop ?_
    rw [Around.under_plainId PyProof.Rows.F.plain_set_update_loop _]
    show wpAny _ A.in1 (pyNext (.ref I) >>= _) _ _ s
    refine wpAny_bind (W.done s _ _ hst fun s' hm => ?_)
    show wpAny _ A.in1 (ret Value.none) _ _ s'
    exact wpAny_pure (hR s' (hm.mono up) (set_keep hs fun o ho => hm.heap S o hw ho))
  | succ d ih =>
    intro i s hd hi hst hs hR
    have lt : i < n := by omega
    refine codeAny_builtin PyProof.Rows.F.entry_set_update_loop ?_
    rw [Around.under_plainId PyProof.Rows.F.plain_set_update_loop _]
    show wpAny _ A.in1 (pyNext (.ref I) >>= _) _ _ s
    refine wpAny_bind (W.item i s _ _ lt hst fun v s' hP hst' hm => ?_)
    obtain ⟨t, rfl⟩ := hv i v hP
    have hs' := set_keep (h' := s'.heap) hs fun o ho => hm.heap S o hw ho
    show wpAny _ A.in1 (holding [Value.str (xs.getD i Str.empty) t] (setAdd S (.str (xs.getD i Str.empty) t)) >>= _) _ _ s'
    refine wpAny_bind (wpAny_holding ?_)
    unfold setAdd
    refine wpAny_holding (wpAny_bind ((PySem.strKind prog w).pyHash (k := xs.getD i Str.empty) (strKind_is _ _ _ _) ?_))
    have nl := nun_le xs i
    refine wpAny_setAddHashed_of (knd := PySem.strKind prog w) (s := { s' with toks := s'.toks + 1 }) (strKind_is _ _ _ _) rfl hs' (by omega) fun h' sb new => ?_
    have new' : h'.SetOf (PySem.strKind prog w) S (fun k => (xs.take (i + 1)).any (· == k)) (nun xs (i + 1)) :=
      SetOf_congr new (fun k => by
        rw [take_one (by omega), List.any_append]
        simp only [List.any_cons, List.any_nil, Bool.or_false]
        congr 1
        by_cases e : k = xs.getD i Str.empty
        · subst e; simp
        · rw [decide_eq_false e]
          exact (beq_eq_false_iff_ne.mpr fun h => e h.symm).symm) rfl
    refine wpAny_pure ⟨plainId_quiet PyProof.Rows.F.plain_set_update_loop _, ih (i + 1) _ (by omega) lt (W.frame _ s' _ _ hst' (Nat.le_succ _) fun b hb o e => ?_) new' fun s'' hm' hs'' => ?_⟩
    · rw [sb.2 b (fun h : b = S => hS (by rw [← h]; exact hb))]
      exact e
    · refine hR s'' (Moved.trans W.gtrans ((hm.mono up).then_heap (Nat.le_succ _) fun b o hb e => ?_) hm') hs''
      rw [sb.2 b (fun h : b = S => hb (by rw [h]; exact List.mem_cons_self))]
      exact e
end
end MM
namespace MM
open PySem PySem.Spec PyProof.Rows L2
section
variable {prog : Program} {w : World} {A : Around} {E : Value → Shared → Prop} {s : Shared}
/-- the new set that set(xs) lays -/
def bareSet (led : Bool) : Obj := { cls := .type "set", dict := none, data := .set #[] 0 (.fresh 0 0 led) }
/-- what set.__init__ leaves -/
def Filled (prog : Program) (w : World) (s s2 : Shared) (xs : List Str) : Prop := ∃ h' tk, s2 = { s with heap := h', toks := tk } ∧
  h'.SetOf (PySem.strKind prog w) s.heap.objs.size (fun k => xs.any (· == k)) (nun xs xs.length) ∧ ∀ b o, b < s.heap.objs.size → s.heap.get? b = some o → h'.get? b = some o
theorem init_texts {l : Addr} {items : Array Value} {xs : List Str} (led : Bool) (hh : A.handled = none) (hl : s.heap.IsList l items) (hi : StrsAre items.toList xs) (hb : xs.length < scanBound) {Q : Fin → Shared → Prop} (h : ∀ s2, Filled prog w s s2 xs → Q (.done (.ret .none)) s2) :
    wpAny (model prog w) A (Builtin.«set.__init__» ⟨[.ref s.heap.objs.size, .ref l], []⟩) Q E { s with heap := s.heap.push (bareSet led) } := by
  obtain ⟨⟨cls, od, dt, sl⟩, ho, hc, nl, hd⟩ := hl
  simp only at hc hd
  subst hc
  subst hd
  have lS : l < s.heap.objs.size := Heap.lt_size ho
  have hS : (s.heap.push (bareSet led)).get? s.heap.objs.size = some (bareSet led) := Heap.get?_push_size _ rfl
  have ho' : (s.heap.push (bareSet led)).get? l = some { cls := .type "list", dict := od, data := .seq items nl, slots := sl } := Heap.get?_push_of_some _ ho
  have il : (s.heap.push (bareSet led)).IsList l items := ⟨_, ho', rfl, nl, rfl⟩
  have h1 := PySem.F.sub_list_set
  have h2 := PySem.F.sub_list_frozenset
  have h3 : (Value.type "list" == Value.type "dict") = false := by decide
  unfold Builtin.«set.__init__» noKeywords Builtin.Frozenset.updateFrom
  generalize hPI : pyIter = PI
  wp_walk
  subst hPI
  refine wpAny_pyIter_list il ?_
  refine wpAny_bind (wpAny_runValue ?_)
  have sz : xs.length = items.size := by rw [← StrsAre.len_eq hi, Array.length_toList]
  have ne : l ≠ (s.heap.push (bareSet led)).objs.size := by
    rw [Heap.size_push]
    exact Nat.ne_of_lt (Nat.lt_succ_of_lt lS)
  have out : s.heap.objs.size ∉ [(s.heap.push (bareSet led)).objs.size, l] := by
    rw [Heap.size_push]
    simp only [List.mem_cons, List.not_mem_nil, or_false, not_or]
    exact ⟨Nat.ne_of_lt (Nat.lt_succ_self _), Nat.ne_of_gt lS⟩
  have hh3 : A.in1.handled = none := by simp [hh]
  refine set_texts ((Walks.list hh3 _ l ne items).toS) out xs sz (by omega) (fun i v hv => SS.strs_at hi i v (by rw [Array.getElem?_toList]; exact hv)) (items.size - 0) 0 _ (by omega) (Nat.zero_le _)
    (by exact ⟨⟨_, Heap.get?_push_size _ rfl, rfl, rfl⟩, il.push _⟩) ?_ ?_
  · exact SetOf_congr ((setObjOf_fresh (knd := PySem.strKind prog w) led).setOf (Heap.get?_push_of_some _ hS) (by unfold scanBound; omega)) (fun _ => rfl) rfl
  · intro s' hm hs'
    obtain ⟨h', g', d', tk', os'⟩ := s'
    have e1 : g' = s.gens := hm.gens
    have e2 : d' = s.drawn := hm.drawn
    have e3 : os' = s.os := hm.os
    subst e1; subst e2; subst e3
    show wpAny _ _ _ _ _ _
    refine wpAny_pure ?_
    show wpAny _ _ (ret Value.none) _ _ _
    rw [← sz] at hs'
    refine wpAny_pure (h _ ⟨h', tk', rfl, by simpa using hs', fun b o hb e => ?_⟩)
    refine hm.heap b o ?_ (Heap.get?_push_of_some _ (Heap.get?_push_of_some _ e))
    rw [Heap.size_push]
    simp only [List.mem_cons, List.not_mem_nil, or_false, not_or]
    exact ⟨Nat.ne_of_lt hb, Nat.ne_of_lt (Nat.lt_succ_of_lt hb)⟩
theorem set_of_texts {l : Addr} {items : Array Value} {xs : List Str} {Q : Value → Shared → Prop}
    (hh : A.handled = none) (hl : s.heap.IsList l items) (hi : StrsAre items.toList xs) (hb : xs.length < scanBound)
    (h : ∀ s2, Filled prog w s s2 xs → Q (.ref s.heap.objs.size) s2) : wpAny (model prog w) A (call (.type "set") [.ref l]) Q E s := by
  obtain ⟨c, tl, hmro⟩ := PySem.F.called_set.mro
  have hmade := PySem.F.called_set.made
  have hsub := PySem.F.called_set.sub
  refine wpAny_call (codeAny_of_tree ?_)
  show wpAny _ _ (callAny (.type "set") _) _ _ _
  refine wpAny_pure ⟨Code.quiet_builtin _ (by decide +kernel), codeAny_builtin PySem.F.entry_type_call ?_⟩
  rw [Around.under_plain (weight_type_call_type "set" [.ref l] []) rfl]
  have h1 := PySem.F.called_set.notType
  have h2 := PySem.F.called_set.canCreate
  have h3 := PySem.F.typeCall_set_1 (.ref l)
  repeat (any_goals (first | assumption | wp_step))
  refine codeAny_mono (code_set_new_1 (.ref l) (E := E) (Q₁ := fun obj s₁ => ∃ led : Bool, obj = .ref s.heap.objs.size ∧ s₁ = { s with heap := s.heap.push (bareSet led) }) fun led => ⟨led, rfl, rfl⟩) fun r s₁ hr => ?_
  rcases r with e | (obj | _ | _ | _) <;> first | exact hr | exact hr.elim | skip
  obtain ⟨led, rfl, rfl⟩ := hr
  have hT : Shared.TypeIs { s with heap := s.heap.push (bareSet led) } (.ref s.heap.objs.size) "set" := ⟨_, Heap.get?_push_size _ rfl, rfl⟩
  have h4 := PySem.F.called_set.init.lookup
  have h5 := PySem.F.called_set.init.bind (.ref s.heap.objs.size)
  repeat (any_goals (first | assumption | wp_step))
  refine codeAny_mono (codeAny_call_builtin (R := wants (fun r s2 => r = .none ∧ Filled prog w s s2 xs) E) PySem.F.called_set.init.plain PySem.F.entry_set_init (check_set_init_1 hT (init_texts led ?_ hl hi hb fun s2 q => ⟨rfl, q⟩))) fun r s2 z => ?_
  · simp [hh]
  · rcases r with e | (v | _ | _ | _) <;> first | exact z | exact z.elim | skip
    obtain ⟨rfl, z⟩ := z
    repeat (any_goals (first | assumption | wp_step))
    exact h _ z
end
end MM
namespace L2
open PySem PySem.Spec PyProof.Rows MM
/-- len(set(xs)), xs a list of texts -/
def tLenSetL (K : PySem.W.Frag) (ta : TE) : TE := fun σ H Q => ta σ H fun x H1 => ∃ l, ∃ xs : List Str, x = .ref l ∧ SqL K H1 l (xs.map V.str) ∧ xs.length < scanBound ∧ Q (.int (nun xs xs.length : Nat)) H1
section
variable {X : Cx}
theorem pe_lenSetL {a : Expr} {ta : TE} {p p2 q pos : Pos} (hc : X.calm = true) (hg : Gl X "len") (hm : X.mg "len" = none) (hg2 : Gl X "set") (hm2 : X.mg "set" = none) (ha : PE X a ta)
    (na : starEach [a] X.env = (false, eval a X.env) :: starEach [] X.env := by rfl) : PE X (.Call (.Name "len" p) [.Call (.Name "set" p2) [a] [] q] [] pos) (tLenSetL X.K ta) := by
  refine ⟨fun pins s σ H Q I h => ?_⟩
  refine Call_ (ld_blt I hg hm boot_len ?_)
  refine PyProof.Rows.callWith_builtin1 (PyProof.Rows.args_cons ?_ rfl) rfl rfl
  refine Call_ (ld_blt I hg2 hm2 boot_set ?_)
  refine PyProof.Rows.callWith_type1 (PyProof.Rows.args_cons (thn (ha.run pins s σ H _ I h) fun v s1 ⟨x, H1, I1, r1, q1⟩ => PyProof.Rows.args_nil ?_) na) na rfl
  obtain ⟨l, xs, rfl, hq, hb, q1⟩ := q1
  cases r1
  obtain ⟨its, r, pl, hz⟩ := I1.list hq
  refine set_of_texts (I1.ok.hd hc) pl.isList (by simpa using strsAre_of r) hb fun s2 ⟨h', tk, e2, hS, hk⟩ => PyProof.Rows.args_nil ?_
  subst e2
  obtain ⟨o, es, ep, t, ho, hex, hd, _, _, hs, hf, hn⟩ := hS
  have I2 : Inv X pins σ H1 { s1 with heap := h', toks := tk } := I1.kept fun b o e => hk b o (Heap.lt_size e) e
  have lt := nun_le xs xs.length
  refine call_len_set ho hex hd hf (by unfold scanBound at hb; omega) ⟨.int (nun xs xs.length : Nat), H1, I2.tok _, ⟨_, by rw [hn]⟩, q1⟩
end
end L2
/-! ### how many are unlike -/
namespace MM
open PySem
theorem nun_all {xs : List Str} (h : xs.Nodup) : ∀ i, i ≤ xs.length → nun xs i = i
  | 0, _ => rfl
  | i + 1, hi => by
    have e := nun_all h i (by omega)
    have lt : i < xs.length := by omega
    have no : (xs.take i).any (· == xs.getD i Str.empty) = false := by
      rw [List.any_eq_false]
      intro y hy
      rw [List.getD_eq_getElem?_getD, List.getElem?_eq_getElem lt]
      simp only [Option.getD_some, beq_iff_eq]
      intro e
      obtain ⟨j, hj, rfl⟩ := List.mem_iff_getElem.mp hy
      rw [List.getElem_take] at e
      rw [List.length_take] at hj
      have := (List.getElem_inj h).mp e
      omega
    unfold nun
    rw [no, e]
    simp
theorem nun_less {xs : List Str} (h : ¬ xs.Nodup) : nun xs xs.length < xs.length := by
  have key : ∀ i, i ≤ xs.length → nun xs i = i → (xs.take i).Nodup := by
    intro i
    induction i with
    | zero => intro _ _; simp
    | succ i ih =>
      intro hi e
      have l := nun_le xs i
      have lt : i < xs.length := by omega
      unfold nun at e
      split at e
      · omega
      · rename_i c
        rw [take_one lt, List.nodup_append]
        refine ⟨ih (by omega) (by omega), by simp, ?_⟩
        intro a ha b hb e
        rw [List.mem_singleton] at hb
        refine c (List.any_eq_true.mpr ⟨a, ha, ?_⟩)
        rw [e, hb]
        exact beq_self_eq_true _
  have l := nun_le xs xs.length
  by_cases e : nun xs xs.length = xs.length
  · have := key _ (Nat.le_refl _) e
    rw [List.take_length] at this
    exact absurd this h
  · omega
end MM
/-! own classes of errors over KeyError: it is made by LookupError's own maker -/
namespace MM
open PySem PySem.Spec PySem.Calls
open PyProof.Rows (ExcClass)
section
variable {M : Model} {prog : Program} {w : World} {A : Around} {E : Value → Shared → Prop} {R : Result → Shared → Prop} {h : Heap} {g : Array GenState} {d : Drawn} {t : Nat} {os : OsState}
variable {nm q : Str} {C N : Addr} {bs bm bN : List Value} {hdct : Bool} {sn : List Str} {sub : List Value} {ab : Bool} {col : Option Bool} {dd : Option Addr} {k0 k1 k2 k3 k5 : Option Value} {B Bn newId iN initId : String}
theorem over_own (C : Addr) {X : String} {b : Bool} (h : bm.contains (.type X) = b) : (Value.ref C :: bm).contains (.type X) = b := by
  rw [List.contains_cons, h]
  cases b <;> rfl
theorem check_new_y (F : ExcBaseFacts Bn newId iN bN) (hB : bm.contains (.type Bn) = true) {rest : List Value} {Q : Unit → Shared → Prop}
    (hC : h.get? C = some (excClassObj nm q C N bs bm hdct sn sub ab col dd k0 k1 k2 k3 k5 newId)) (hq : Q () ⟨h, g, d, t, os⟩) : wpAny M A (checkBuiltinCall newId ⟨.ref C :: rest, []⟩) Q E ⟨h, g, d, t, os⟩ := by
  have c1 := over_own C hB
  have c2 := F.noStar
  simp only [checkBuiltinCall, F.newKind, F.newSplit, F.newRow]
  repeat (first | refine wpAny_loadPart_at hC ?_ | (refine wpAny_isSubtype_exc hC ?_; rw [c1]) | refine wpAny_staticBase_exc hC ?_ | refine wpAny_madeBy_exc hC ?_ | simp only [bne_self_eq_false, Bool.false_eq_true, if_false] | wp_step)
  exact hq
theorem check_init_y (F : ExcClass B newId initId) (hB : bm.contains (.type B) = true) {e : Addr} {oe : Obj} {rest : List Value} {Q : Unit → Shared → Prop}
    (hC : h.get? C = some (excClassObj nm q C N bs bm hdct sn sub ab col dd k0 k1 k2 k3 k5 newId)) (he : h.get? e = some oe) (hcls : oe.cls = .ref C) (hq : Q () ⟨h, g, d, t, os⟩) :
    wpAny M A (checkBuiltinCall initId ⟨.ref e :: rest, []⟩) Q E ⟨h, g, d, t, os⟩ := by
  have c1 := over_own C hB
  have c2 := F.notStar
  simp only [checkBuiltinCall, F.initKind, F.initSplit, F.initSig]
  repeat (first | (with_reducible refine wpAny_loadPart_at he ?_; rw [hcls]) | with_reducible refine wpAny_loadPart_at hC ?_ | (with_reducible refine wpAny_isSubtype_exc hC ?_; rw [c1]) | wp_step)
  refine wpAny_onRaise ?_
  rw [show ∀ (a b : String) (n : Nat), Bind.check ⟨.positional, "*", B, .self, [⟨"args", .varPos, false⟩]⟩ a b n (List.map (fun x => x.fst) ({ pos := Value.ref e :: rest } : Args).kw) = pure () from fun a b n => check_star_args _ _ _ _ _ _]
  exact wpAny_pure hq
theorem new_y (F : ExcBaseFacts Bn newId iN bN) (hB : bm.contains (.type Bn) = true) (hA : bm.contains (.type "AttributeError") = false) (hN : bm.contains (.type "NameError") = false) {rest : List Value}
    (hC : h.get? C = some (excClassObj nm q C N bs bm hdct sn sub ab col dd k0 k1 k2 k3 k5 newId))
    (hq : R (.ok (.ret (.ref (h.objs.size + 1)))) ⟨(h.push (PySem.W.kdv_tup rest)).push (PySem.HandSPX.excO C h.objs.size), g, d, t, os⟩) (hl : rest.length ≤ sizeLine) :
    codeAny (model prog w) A (.builtin newId ⟨.ref C :: rest, []⟩) R ⟨h, g, d, t, os⟩ := by
  have c0 := F.ends
  have c1 := over_own C hB
  have c2 := over_own C hA
  have c3 := over_own C hN
  refine codeAny_builtinAt F.entry ?_
  unfold Builtin.«BaseException.__new__»
  refine wpAt_bind ?_
  show wpAt _ _ _ (stack >>= _) _ _ _
  refine wpAt_bind (wpAt_stack fun p below => wpAt_of_wpAny ?_)
  wp_walk
  refine wpAt_of_wpAny ?_
  rw [F.owner]
  repeat (first | with_reducible refine wpAny_madeHere_exc F.canon hC ?_ | with_reducible refine wpAny_loadPart_at hC ?_ | (with_reducible refine wpAny_isSubtype_exc hC ?_; first | rw [c1] | rw [c2] | rw [c3]) | wp_step)
  show R _ _
  rw [Heap.size_push]
  exact hq
theorem type_call_y (F : ExcBaseFacts Bn newId iN bN) (hA : bm.contains (.type "AttributeError") = false) (hN : bm.contains (.type "NameError") = false) (hB : bm.contains (.type Bn) = true) {rest : List Value} {fI : Addr} {Q : Fin → Shared → Prop}
    (hC : h.get? C = some (excClassObj nm q C N bs bm hdct sn sub ab col dd k0 k1 k2 k3 k5 newId))
    (hi : PySem.W.Looks (model prog w) h (typeLookup (.ref C) "__init__") (some (.ref fI))) (hb : ∀ self, PySem.W.Looks (model prog w) h (bindSpecial (.ref fI) self) (.ref fI, [self])) (hl : rest.length ≤ sizeLine)
    (hq : codeAny (model prog w) A (.call (.ref fI) ⟨.ref (h.objs.size + 1) :: rest, []⟩)
      (fun r s' => match r with | .ok (.ret v) => v = .none ∧ Q (.done (.ret (.ref (h.objs.size + 1)))) s' | .ok _ => False | .error e => E e s')
      ⟨(h.push (PySem.W.kdv_tup rest)).push (PySem.HandSPX.excO C h.objs.size), g, d, t, os⟩) :
    wpAny (model prog w) A (Builtin.«type.__call__» ⟨.ref C :: rest, []⟩) Q E ⟨h, g, d, t, os⟩ := by
  repeat (first | with_reducible refine wpAny_loadPart_at hC ?_ | with_reducible refine wpAny_madeBy_exc hC ?_ | wp_step)
  refine codeAny_call_builtin_code (Code.quiet_builtin _ F.quiet) (check_new_y F hB hC ?_)
  refine new_y F hB hA hN hC ?_ hl
  show wpAny _ _ _ _ _ _
  have k : ∀ b o, h.get? b = some o → ((h.push (PySem.W.kdv_tup rest)).push (PySem.HandSPX.excO C h.objs.size)).get? b = some o := fun b o e => Heap.get?_push_of_some _ (Heap.get?_push_of_some _ e)
  have hC1 := k _ _ hC
  have he : ((h.push (PySem.W.kdv_tup rest)).push (PySem.HandSPX.excO C h.objs.size)).get? (h.objs.size + 1) = some (PySem.HandSPX.excO C h.objs.size) := by heap_get
  have cC : (Value.ref C :: bm).contains (.ref C) = true := by simp
  have i1 := hi.keeps k
  have b1 := (hb (.ref (h.objs.size + 1))).keeps k
  unfold isInstance
  repeat (first | with_reducible refine wpAny_loadPart_at he ?_ | (with_reducible refine wpAny_isSubtype_exc hC1 ?_; rw [cC]) | wp_step)
  show wpAny _ _ (typeLookup (.ref C) _) _ _ _
  refine i1.at (wpAny_holding (wpAny_bind (b1.at ?_)))
  refine wpAny_bind (wpAny_call (codeAny_mono hq fun r s' z => ?_))
  rcases r with e | (v | _ | _ | _) <;> first | exact z | exact z.elim | skip
  obtain ⟨rfl, z⟩ := z
  first
    | exact wpAny_pure (wpAny_pure z)
    | (wp_walk; exact z)
theorem call_y (F : ExcBaseFacts Bn newId iN bN) (hA : bm.contains (.type "AttributeError") = false) (hN : bm.contains (.type "NameError") = false) (hB : bm.contains (.type Bn) = true) {rest : List Value} {fI : Addr}
    (hC : h.get? C = some (excClassObj nm q C N bs bm hdct sn sub ab col dd k0 k1 k2 k3 k5 newId))
    (hi : PySem.W.Looks (model prog w) h (typeLookup (.ref C) "__init__") (some (.ref fI))) (hb : ∀ self, PySem.W.Looks (model prog w) h (bindSpecial (.ref fI) self) (.ref fI, [self])) (hl : rest.length ≤ sizeLine)
    (hq : codeAny (model prog w) (A.under (.builtin "type.__call__" ⟨.ref C :: rest, []⟩)) (.call (.ref fI) ⟨.ref (h.objs.size + 1) :: rest, []⟩) (PySem.W.InitBack (h.objs.size + 1) R)
      ⟨(h.push (PySem.W.kdv_tup rest)).push (PySem.HandSPX.excO C h.objs.size), g, d, t, os⟩) :
    codeAny (model prog w) A (.call (.ref C) ⟨rest, []⟩) R ⟨h, g, d, t, os⟩ := by
  have f1 := tc_lookup
  have f2 := tc_bind (.ref C)
  have hTy : (⟨h, g, d, t, os⟩ : Shared).TypeIs (.ref C) "type" := ⟨_, hC, rfl⟩
  refine codeAny_of_tree ?_
  show wpAny _ _ (callAny (.ref C) _) _ _ _
  repeat (any_goals (first | assumption | with_reducible refine wpAny_loadPart_at hC ?_ | wp_step))
  refine ⟨rfl, ?_⟩
  refine codeAny_call_builtin_at (Code.quiet_builtin _ (by decide +kernel)) PySem.entry_typeCall (wpAny_check_type_call_sub hC (type_call_y F hA hN hB hC hi hb hl (codeAny_mono hq fun r s' z => ?_)))
  rcases r with e | (v | _ | _ | _) <;> exact z
theorem init_y (F : ExcClass B newId initId) (hB : bm.contains (.type B) = true) {e t0 : Addr} {rest : List Value}
    (hC : h.get? C = some (excClassObj nm q C N bs bm hdct sn sub ab col dd k0 k1 k2 k3 k5 newId)) (he : h.get? e = some (PySem.HandSPX.excO C t0)) (hl : rest.length ≤ sizeLine)
    (hq : ∀ h' t1, (∀ b o, b ≠ e → h.get? b = some o → h'.get? b = some o) → h'.get? e = some (PySem.HandSPX.excO C t1) → R (.ok (.ret .none)) ⟨h', g, d, t, os⟩) :
    codeAny (model prog w) A (.call (.builtin initId) ⟨.ref e :: rest, []⟩) R ⟨h, g, d, t, os⟩ := by
  refine codeAny_call_builtin F.init.plain F.initEntry (check_init_y F hB hC he rfl ?_)
  wp_walk
  refine hq _ h.objs.size (fun b o hb ho => ?_) ?_
  · rw [Heap.get?_update_other _ _ (Ne.symm hb)]
    exact Heap.get?_push_of_some _ ho
  · rw [Heap.get?_update_self _ (Heap.get?_push_of_some _ he) rfl]
    rfl
end
end MM
namespace MM
open PySem PySem.Spec PySem.Calls PyProof.Rows L2
/-- what the written part says of the class at C, which stands right over the built-in B -/
structure OxY (K : PySem.W.Frag) (C : Addr) (B newId initId : String) (bm : List Value) : Prop where
  nf : ∃ Bn iN bN, ExcBaseFacts Bn newId iN bN ∧ bm.contains (.type Bn) = true
  nA : bm.contains (.type "AttributeError") = false
  nN : bm.contains (.type "NameError") = false
  cf : PyProof.Rows.ExcClass B newId initId
  cB : bm.contains (.type B) = true
  sf : StoreFacts B bm "object.__setattr__" "object"
  tl : PySem.W.excTail bm bm = true
  cls : ∃ nm q N bs sn sub ab col dd k0 k1 k2 k3 k5, K.lookup C = some (excClassObj nm q C N bs bm true sn sub ab col dd k0 k1 k2 k3 k5 newId)
  sa : PySem.W.findIn K (.ref C) "__setattr__" = some (some (.builtin "object.__setattr__"))
  exC : PySem.W.subIn K (.ref C) (.type "BaseException") = some true
  tyC : PySem.W.typeIn K (.ref C) = some (.type "type")
  kC : PySem.W.keepIn K (.ref C) = true
section
variable {K : PySem.W.Frag} {C : Addr} {B newId initId : String} {bm : List Value}
theorem OxY.dat (T : OxY K C B newId initId bm) : ∃ cd, PySem.W.clsIn K C = some cd ∧ cd.mro = .ref C :: bm ∧ cd.hasDict = true := by
  obtain ⟨nm, q, N, bs, sn, sub, ab, col, dd, k0, k1, k2, k3, k5, hC⟩ := T.cls
  exact ⟨_, (by unfold PySem.W.clsIn; rw [hC] <;> rfl), rfl, rfl⟩
theorem OxY.over (T : OxY K C B newId initId bm) : PySem.W.excOver K C bm = true := by
  obtain ⟨cd, hc, hm, _⟩ := T.dat
  unfold PySem.W.excOver
  rw [hc]
  show (match cd.mro with | .ref C' :: b => C' == C && PySem.W.excTail bm b | _ => false) = true
  rw [hm]
  show (C == C && PySem.W.excTail bm bm) = true
  rw [T.tl]
  simp
theorem OxY.taker (T : OxY K C B newId initId bm) {f : Str} (hno : PySem.W.findIn K (.ref C) f = some none) : PySem.W.takerIn K C f = some none := by
  unfold PySem.W.takerIn
  rw [hno]
  rfl
end
section
variable {X : Cx} {pins : List (Addr × Obj)} {σ : L2.St} {H : Hp} {s : Shared} {a C dx : Addr} {f : Str} {y : V} {u : Value} {fs : List (Str × V)} {Q : Unit → Shared → Prop} {E : Value → Shared → Prop} {A : Around} {B newId initId : String} {bm : List Value}
/-- the first field -/
theorem gy_new (T : OxY X.K C B newId initId bm) (I : Inv X pins σ H s) (e : H a = some (exo a C none)) (hno : PySem.W.findIn X.K (.ref C) f = some none) (ry : RelV y u)
    (h : ∀ dx s', H dx = none → dx ≠ a → Inv X pins σ (L2.upd (L2.upd H dx (exd dx [(f, y)])) a (exo a C (some dx))) s' → Q () s') : wpAny (model X.prog X.w) A (setAttr (.ref a) f u) Q E s := by
  obtain ⟨cd, hcd, hmr, hhd⟩ := T.dat
  obtain ⟨t1, ho⟩ := exo_at I.hok e
  obtain ⟨hp, g, dn, t, os⟩ := s
  have key : ∀ (h' : Heap) (tk' : Nat), (∀ b o, b ≠ a → hp.get? b = some o → h'.get? b = some o) → h'.get? a = some ({ cls := .ref C, dict := some hp.objs.size, data := .fields #[.ref t1, .none, .none, .none, .bool false, .none] } : Obj) →
      h'.Ns1 hp.objs.size (fun z => if z = f then some u else none) → Q () ⟨h', g, dn, tk', os⟩ := by
    intro h' tk' k hx hn
    have nlt : ∀ {b : Addr} {o : Obj}, hp.get? b = some o → b ≠ hp.objs.size := fun q => Nat.ne_of_lt (Heap.lt_size q)
    have hnd : H hp.objs.size = none := I.hok.fresh (Nat.le_refl _)
    have dne : hp.objs.size ≠ a := (nlt ho).symm
    have na : ∀ {b : Addr}, H b = none → b ≠ a := fun n z => by
      subst z
      cases e.symm.trans n
    refine h hp.objs.size _ hnd dne (I.un (t' := tk') ⟨fun b o q n _ _ => k b o (na n) q, fun b o q n _ _ => ⟨o.slots, k b o (na n) q⟩, fun b o q n _ => ?_, fun b o q _ => ?_, fun b xs q => ?_, fun b o v q => ?_, fun b ps q => ⟨#[], ?_⟩⟩ fun b o q => ?_)
    · rw [upd_ne (na n), upd_ne (nlt q)]
      exact n
    · by_cases hb : b = a
      · exact ⟨_, by rw [hb]; exact hx⟩
      · exact ⟨o, k b o hb q⟩
    · rw [upd_ne (at_ne e q exo_tup), upd_ne (ne_of_none q hnd)]
      exact q
    · rw [upd_ne (at_ne e q exo_frz), upd_ne (ne_of_none q hnd)]
      exact q
    · rw [upd_ne (at_ne e q exo_tbl), upd_ne (ne_of_none q hnd), q]
      simp
    · by_cases hb : b = a
      · subst hb
        cases upd_same.symm.trans q
        exact exo_ok hx
      rw [upd_ne hb] at q
      by_cases hd : b = hp.objs.size
      · subst hd
        cases upd_same.symm.trans q
        exact exd_ok hn (relO_put (fs := []) ry fun g => True.intro)
      rw [upd_ne hd] at q
      refine (I.hok b o q).stay (fun c v hc z => k c v ?_ z) (fun c hc => ?_) (fun c xs hc => ?_)
      · rcases hc with hc | hc
        · exact fun z => hb (hc ▸ z)
        · exact at_ne e hc exo_own
      · rw [upd_ne (at_ne e hc exo_own), upd_ne (ne_of_none hc hnd)]
        exact hc
      · rw [upd_ne (at_ne e hc exo_tup), upd_ne (ne_of_none hc hnd)]
        exact hc
  have J : PySem.W.InstAt hp a ({ cls := .ref C, dict := none, data := .fields #[.ref t1, .none, .none, .none, .bool false, .none] } : Obj) C none := ⟨ho, rfl, rfl, trivial⟩
  refine PySem.W.set_plain I.kIn J T.sa (PySem.W.osa_openX T.sf I.kIn J T.over (T.taker hno) fun b => ?_)
  have hs : a ≠ hp.objs.size := Nat.ne_of_lt (Heap.lt_size ho)
  refine wpAny_bind (wpAny_pure (wpAny_bind (PySem.W.instanceDict_exc (t := t1) (c2 := .none) ho (PySem.W.looks_clsIn I.kIn hcd) hhd ?_)))
  refine PySem.HandSPX.store_in_new ?_ fun h' tk' hn' hsb => ?_
  · exact ⟨_, #[], _, (Heap.get?_update_ne _ _ _ _ hs.symm).trans (Heap.get?_push_at rfl rfl), rfl, fun e he => absurd he (by simp), fun _ => rfl⟩
  · refine key h' _ (fun b o hb hq => ?_) ?_ hn'
    · exact (hsb.2 b (Nat.ne_of_lt (Heap.lt_size hq))).trans ((Heap.get?_update_ne _ _ _ _ hb).trans (Heap.get?_push_of_some _ hq))
    · exact (hsb.2 a hs).trans (Heap.get?_update_self _ (Heap.get?_push_of_some _ ho) rfl)
/-- a further field -/
theorem gy_old (T : OxY X.K C B newId initId bm) (I : Inv X pins σ H s) (e : H a = some (exo a C (some dx))) (ed : H dx = some (exd dx fs)) (hl : fs.length ≤ 900) (hno : PySem.W.findIn X.K (.ref C) f = some none) (ry : RelV y u)
    (h : ∀ s', Inv X pins σ (L2.upd H dx (exd dx ((f, y) :: fs))) s' → Q () s') : wpAny (model X.prog X.w) A (setAttr (.ref a) f u) Q E s := by
  obtain ⟨t1, ho⟩ := exo_at I.hok e
  obtain ⟨mA, hns, rel⟩ := exd_at I.hok ed
  obtain ⟨hp, g, dn, t, os⟩ := s
  obtain ⟨oD, _, _, hoD, _, _⟩ := hns.count (within_of rel)
  have J : PySem.W.InstAt hp a ({ cls := .ref C, dict := some dx, data := .fields #[.ref t1, .none, .none, .none, .bool false, .none] } : Obj) C (some oD) := ⟨ho, rfl, rfl, hoD⟩
  refine PySem.W.set_plain I.kIn J T.sa (PySem.W.osa_openX T.sf I.kIn J T.over (T.taker hno) fun b => ?_)
  refine wpAny_bind (wpAny_pure (wpAny_bind ?_))
  show wpAny _ _ (instanceDict a true) _ _ _
  unfold instanceDict
  refine wpAny_bind (wpAny_loadPart ho ?_)
  obtain ⟨cd, hcd, hmr, hhd⟩ := T.dat
  dsimp only
  refine wpAny_bind ((PySem.W.looks_clsIn I.kIn hcd).at ?_)
  rw [hhd]
  refine wpAny_pure ?_
  refine PySem.OEX.store_in_old hns (within_of rel) (by rw [List.length_map]; omega) fun h' tk' hn hsb => ?_
  have hd : ∃ o, h'.get? dx = some o := by
    obtain ⟨o, _, _, e', _⟩ := hn
    exact ⟨o, e'⟩
  exact h _ (I.write (t' := tk') (x := dx) (e := dx) (o := exd dx ((f, y) :: fs)) (by rw [ed]; exact True.intro) (.inl rfl) (fun b o hb q => (hsb.2 b hb).trans q) hd (exd_ok hn (relO_put ry rel)))
/-- B.__init__(self, ..) -/
theorem gy_init {us : List Value} {Q : Value → Shared → Prop} (T : OxY X.K C B newId initId bm) (I : Inv X pins σ H s) (e : H a = some (exo a C none)) (hl : us.length ≤ sizeLine) (h : ∀ s', Inv X pins σ H s' → Q .none s') : wpAny (model X.prog X.w) A (call (.builtin initId) (.ref a :: us)) Q E s := by
  obtain ⟨nm, q, N, bs, sn, sub, ab, col, dd, k0, k1, k2, k3, k5, hC⟩ := T.cls
  obtain ⟨t1, ho⟩ := exo_at I.hok e
  obtain ⟨hp, g, dn, t, os⟩ := s
  refine wpAny_call (init_y T.cf T.cB (I.kIn _ _ hC) ho hl fun h' t2 k hx => h _ ?_)
  have J := I.write (t' := t) (x := a) (e := a) (o := exo a C none) (by rw [e]; exact True.intro) (.inl rfl) k ⟨_, hx⟩ (exo_ok hx)
  rwa [show L2.upd H a (exo a C none) = H from funext fun b => by
    by_cases hb : b = a
    · rw [hb, upd_same, e]
    · rw [upd_ne hb]] at J
end
/-! ### the rules -/
/-- B.__init__(self, ..) -/
def tBy (K : PySem.W.Frag) (B newId initId : String) (bm : List Value) (ta : TA) : TE := fun σ H Q => ta σ H fun vs H1 => ∃ (a C : Addr) (ws : List V), vs = .ref a :: ws ∧ ws.length ≤ 1000 ∧ OxY K C B newId initId bm ∧ H1 a = some (exo a C none) ∧ Q .non H1
/-- self.f = e -/
def tGy (K : PySem.W.Frag) (B newId initId : String) (bm : List Value) (f : Str) (to te : TE) : TS := fun D σ H => te σ H fun y H1 => to σ H1 fun x H2 => ∃ a C : Addr, x = .ref a ∧ OxY K C B newId initId bm ∧ PySem.W.findIn K (.ref C) f = some none ∧
  ((H2 a = some (exo a C none) ∧ ∀ dx, H2 dx = none → dx ≠ a → D.nx σ (L2.upd (L2.upd H2 dx (exd dx [(f, y)])) a (exo a C (some dx)))) ∨
    ∃ (dx : Addr) (fs : List (Str × V)), H2 a = some (exo a C (some dx)) ∧ H2 dx = some (exd dx fs) ∧ fs.length ≤ 900 ∧ D.nx σ (L2.upd H2 dx (exd dx ((f, y) :: fs))))
section
variable {X : Cx} {o e : Expr} {es : List Expr} {to te : TE} {ta : TA} {f : Str} {p p' p1 p2 pos : Pos} {B newId initId : String} {bm : List Value} {bn : Str}
theorem pe_biny {pl : Sem Bool} (hg : Gl X bn) (hm : X.mg bn = none) (hbt : bootBuiltins bn = some (.type B)) (hty : typeOf (.type B) = pure (.type "type")) (vV : PySem.W.findCls X.K (.type B) (.type "type") "__init__" = some (.val (.builtin initId))) (ha : PA X (e :: es) ta)
    (hn : bn ≠ "__name__" := by decide) (hdb : (bn == ("__debug__" : Str)) = false := by decide) (hst : Manifest.isStub B = false := by decide +kernel) (hha : PySem.W.handedIn (.builtin initId) = true := by decide +kernel)
    (hc : eval (.Call (.Attribute (.Name bn p1) "__init__" p2) (e :: es) [] pos) X.env = (do
      let v0 ← eval (.Name bn p1) X.env
      standAt p2.atName
      let (f, first) ← holding [v0] (getMethod v0 "__init__" pl)
      callWith pos f first (backTo pos (starEach (e :: es) X.env)) (backToKw pos (keywordEach [] X.env))) := by rfl)
    (he : starEach (e :: es) X.env = (false, eval e X.env) :: starEach es X.env := by rfl) (hpl : (backTo pos (starEach es X.env)).any (·.1) = false := by rfl) :
    PE X (.Call (.Attribute (.Name bn p1) "__init__" p2) (e :: es) [] pos) (tBy X.K B newId initId bm ta) := by
  refine ⟨fun pins s σ H Q I h => ?_⟩
  refine PySem.W.methodCall_KW (ld_blt I hg hm hbt ?_ hn hdb) hc
  obtain ⟨m, fr⟩ := I.fr
  refine PySem.W.method_type fr I.ok.mod.kin hty hst vV hha ?_
  show wpAny _ _ (callWith pos (Value.builtin initId) [] (backTo pos (starEach (e :: es) X.env)) []) _ _ _
  refine PyProof.Rows.callWith_method1 (thn (ha.run pos pins _ σ H _ (I.tok _) h) fun us s1 hh => ?_) he hpl
  obtain ⟨vs, H1, I1, r1, a, C, ws, rfl, hl, T, ea, q⟩ := hh
  cases r1 with
  | @cons _ u0 _ ur ra rr =>
    cases (show u0 = Value.ref a from ra)
    exact gy_init T I1 ea (by rw [← Paired.length rr, sizeLine_eq]; omega) fun s' J => ⟨.non, H1, J, rfl, q⟩
theorem ps_gsy (ho : PE X o to) (he : PE X e te) (hs : swapsWith e (some (.Attribute o f p')) pos.line X.env = pure false := by rfl) : PS X (.Assign [.Attribute o f p'] e pos) (tGy X.K B newId initId bm f to te) := by
  refine ⟨fun pins s σ H D I h => ?_⟩
  refine plainObj_wpAny_Assign_Attribute (thn (he.run pins s σ H _ I h) fun v s1 ⟨y, H1, I1, r1, q1⟩ => thn (ho.run pins s1 σ H1 _ I1 q1) fun u s2 hh => ?_) hs
  obtain ⟨x, H2, I2, r2, a, C, rfl, T, hno, q⟩ := hh
  cases (show u = Value.ref a from r2)
  rcases q with ⟨ea, q⟩ | ⟨dx, fs, ea, ed, hl, q⟩
  · exact gy_new T I2 ea hno r1 fun dx s' n ne J => ⟨σ, _, J, q dx n ne⟩
  · exact gy_old T I2 ea ed hl hno r1 fun s' J => ⟨σ, _, J, q⟩
/-- C(e, ..), C's own __init__ keeping sp -/
theorem pmk_y {CX : CXT} {x : Str} {C fI : Addr} {k : Nat} {fd : FuncData} {ps : List Str} {sp : Sp} {ds : List Value} {dvs : List V} (T : OxY X.K C B newId initId bm) (iC : PySem.W.findIn X.K (.ref C) "__init__" = some (some (.ref fI))) (tI : PySem.W.typeIn X.K (.ref fI) = some (.type "function"))
    (F1 : FnOk X.prog X.w X.K X.mg X.base CX k fI fd ps sp) (hr : Room (k + 1) X.A) (hb : Binds X.K fd ps ds) (hd : Vals dvs ds) (hx : Passes CX X (fun _ _ _ => False)) (hg : Gl X x) (hm : X.mg x = some (.ref C)) (ha : PA X (e :: es) ta)
    (hdb : (x == ("__debug__" : Str)) = false := by decide) (he : starEach (e :: es) X.env = (false, eval e X.env) :: starEach es X.env := by rfl) (hpl : (backTo pos (starEach es X.env)).any (·.1) = false := by rfl) : PMk X (.Call (.Name x p) (e :: es) [] pos) (tMkO C sp dvs ta) := by
  intro pins s σ H Q I h
  obtain ⟨nm, q, N, bs, sn, sub, ab, col, dd, k0, k1, k2, k3, k5, hC⟩ := T.cls
  obtain ⟨Bn, iN, bN, nf, hnB⟩ := T.nf
  refine wpAny_Call_Name_kw (ld_glob I hg hm ?_ hdb)
  refine PySem.W.callWith_K (h₀ := X.base) I.ok.mod.kin T.kC (thn (ha.run pos pins s σ H _ I h) fun us s1 hh => ?_) he hpl
  obtain ⟨vs, H1, I1, r1, hz, q1⟩ := hh
  refine ⟨I1.kIn, ?_⟩
  show wpAny _ _ (call (.ref C) us) _ _ _
  obtain ⟨hp, g, dr, tk, os⟩ := s1
  have le1 : hp.objs.size ≤ hp.objs.size + 1 := Nat.le_succ _
  have hq := q1 (hp.objs.size + 1) (I1.hok.fresh le1)
  have grow : ∀ b o', hp.get? b = some o' → ((hp.push (PySem.W.kdv_tup us)).push (PySem.HandSPX.excO C hp.objs.size)).get? b = some o' := fun b o' z => Heap.get?_push_of_some _ (Heap.get?_push_of_some _ z)
  have got : ((hp.push (PySem.W.kdv_tup us)).push (PySem.HandSPX.excO C hp.objs.size)).get? (hp.objs.size + 1) = some (PySem.HandSPX.excO C hp.objs.size) := by heap_get
  have I2 := I1.laid (t' := tk) (a := hp.objs.size + 1) (o := exo (hp.objs.size + 1) C none) (h' := (hp.push (PySem.W.kdv_tup us)).push (PySem.HandSPX.excO C hp.objs.size)) grow le1 (exo_ok got)
  have r2 : Vals (V.ref (hp.objs.size + 1) :: (vs ++ dvs)) (Value.ref (hp.objs.size + 1) :: (us ++ ds)) := .cons rfl (r1.append hd)
  have hl : (Value.ref (hp.objs.size + 1) :: us ++ ds).length = ps.length := r2.length.symm.trans (F1.len _ _ _ _ hq)
  have hus : us.length ≤ sizeLine := by rw [← Paired.length r1, sizeLine_eq]; omega
  refine wpAny_call (call_y nf T.nA T.nN hnB (I1.kIn _ _ hC) (PySem.W.looks_findIn I1.kIn iC) (fun self => PySem.W.bind_fn I1.kIn self tI) hus (codeAny_mono (F1.run _ X.stack _ _ ⟨Value.ref (hp.objs.size + 1) :: us, []⟩ (Value.ref (hp.objs.size + 1) :: (us ++ ds)) _ _ (fun _ _ _ => False)
    (hr.make C us []) (I2.env0.make C us []) (hb _ (Value.ref (hp.objs.size + 1) :: us) I2.kIn hl) r2 hq) fun r s' hq' => ?_))
  match r, hq' with
  | .error er, hq' => exact hx pins σ _ _ er s' I2 hq'
  | .ok .next, hq' => exact hq'.elim
  | .ok .brk, hq' => exact hq'.elim
  | .ok .cont, hq' => exact hq'.elim
  | .ok (.ret u), hq' =>
    obtain ⟨v, H2, os2, bare2, un2, hok2, rv, rfl, d, fs, ea, ed, hd1, q2⟩ := hq'
    obtain ⟨h2, g2, d2, t2, os'⟩ := s'
    exact ⟨rv, mk_end (raises_own T.exC T.tyC) I1 le1 grow un2 hok2 os2 bare2 ea ed hd1 q2⟩
end
end MM
namespace MM
open PySem PySem.Spec PySem.Calls PyProof.Rows L2
abbrev bmK : List Value := [.type "KeyError", .type "LookupError", .type "Exception", .type "BaseException", .type "object"]
theorem store_K : StoreFacts "KeyError" bmK "object.__setattr__" "object" where
  mro := by kernel_rfl
  slot := .of (owner := "object") (n := "__setattr__") (by rw [typeLookup_type, builtinLookup_eq_fast]; kernel_rfl) (by decide +kernel) (by decide +kernel) (by decide +kernel)
    (by first | exact .inl (by decide +kernel) | exact .inr (by decide +kernel)) (by rw [isSubtype_type]; kernel_rfl)
  entry := PySem.F.entry_object_sa
  kind := by decide +kernel
  split := by decide +kernel
  hasOwner := by decide +kernel
  args := fun a b c => by unfold argsOk; kernel_rfl
  passes := fun self => by kernel_rfl
abbrev OxK (K : PySem.W.Frag) (C : Addr) : Prop := OxY K C "KeyError" "LookupError.__new__" "KeyError.__init__" bmK
theorem oxk_mk {K : PySem.W.Frag} {C : Addr} {nm q N bs sn sub ab col dd k0 k1 k2 k3 k5} (l : K.lookup C = some (excClassObj nm q C N bs bmK true sn sub ab col dd k0 k1 k2 k3 k5 "LookupError.__new__")) (sa : PySem.W.findIn K (.ref C) "__setattr__" = some (some (.builtin "object.__setattr__")))
    (exC : PySem.W.subIn K (.ref C) (.type "BaseException") = some true) (tyC : PySem.W.typeIn K (.ref C) = some (.type "type")) (kC : PySem.W.keepIn K (.ref C) = true) : OxK K C :=
  ⟨⟨_, _, _, PySem.F.excBase_LookupError, by decide +kernel⟩, by decide +kernel, by decide +kernel, PyProof.Rows.excClass_KeyError, by decide +kernel, store_K, by decide +kernel, ⟨_, _, _, _, _, _, _, _, _, _, _, _, _, _, l⟩, sa, exC, tyC, kC⟩
theorem typ_K : typeOf (.type "KeyError") = pure (.type "type") := by kernel_rfl
end MM
/-! a text times a small number -/
namespace MM
open PySem PySem.Spec PyProof.Rows L2
def rpS (z : Str) (n : Nat) : Str := ⟨(List.replicate n z.cps).foldl (· ++ ·) #[]⟩
theorem rp_zero (z : Str) : rpS z 0 = Str.empty := rfl
theorem rp_one (z : Str) : rpS z 1 = z := by
  show (⟨#[] ++ z.cps⟩ : Str) = z
  rw [Array.empty_append]
theorem rp_nil {z : Str} (h : z.length = 0) (n : Nat) : rpS z n = z := by
  have e : z.cps = #[] := Array.size_eq_zero_iff.mp h
  have key : ∀ n : Nat, (List.replicate n (#[] : Array Nat)).foldl (· ++ ·) #[] = #[] := fun n => by
    induction n with
    | zero => rfl
    | succ n ih => rw [List.replicate_succ, List.foldl_cons, Array.append_empty, ih]
  unfold rpS
  cases z with
  | mk c =>
    cases (show c = #[] from e)
    rw [key]
theorem rp_len (z : Str) (n : Nat) : (rpS z n).length = n * z.length := by
  have key : ∀ (n : Nat) (a : Array Nat), ((List.replicate n z.cps).foldl (· ++ ·) a).size = a.size + n * z.cps.size := fun n => by
    induction n with
    | zero => intro a; simp
    | succ n ih =>
      intro a
      rw [List.replicate_succ, List.foldl_cons, ih, Array.size_append, Nat.succ_mul]
      omega
  show ((List.replicate n z.cps).foldl (· ++ ·) #[]).size = n * z.cps.size
  rw [key]
  simp
theorem op_mulR {X : Cx} : OpR X (binaryOp .Mult) (fun x y H Q => ∃ (z : Str) (n : Nat), x = .str z ∧ y = .int (n : Int) ∧ n ≤ 1000 ∧ z.length ≤ 1000 ∧ Q (.str (rpS z n)) H) := by
  intro pins s σ H x y v u Q I rx ry h
  obtain ⟨z, n, rfl, rfl, hn, hz, q⟩ := h
  obtain ⟨t, rfl⟩ := rx
  obtain ⟨t', rfl⟩ := ry
  have p1 : z.length * n ≤ 1000 * 1000 := Nat.mul_le_mul hz hn
  refine P.mul_str (by rw [decide_eq_false (by omega), decide_eq_false (by omega)]; rfl) (fun h1 _ => ?_) (fun _ _ => ?_) ?_
  · have h2 : (z.length : Int) ≤ (2 ^ 63 - 1) / (n : Int) := Int.le_ediv_of_mul_le (by omega) (by
      have : ((z.length * n : Nat) : Int) ≤ ((1000 * 1000 : Nat) : Int) := by exact_mod_cast p1
      rw [Int.natCast_mul] at this
      omega)
    omega
  · rw [Int.toNat_natCast]
    show decide (z.length * n > sizeLine) = false
    exact decide_eq_false (by rw [sizeLine_eq]; omega)
  · by_cases h0 : (n : Int) < 1
    · rw [if_pos h0]
      have e : n = 0 := by omega
      subst e
      exact ⟨by decide, ⟨.str Str.empty, H, I.tok _, ⟨_, rfl⟩, q⟩⟩
    · rw [if_neg h0]
      by_cases h1 : ((n : Int) == 1 || z.length == 0) = true
      · rw [if_pos h1]
        have e : rpS z n = z := by
          rcases Bool.or_eq_true _ _ ▸ h1 with h2 | h2
          · have e1 : n = 1 := by have := beq_iff_eq.mp h2; omega
            rw [e1, rp_one]
          · exact rp_nil (beq_iff_eq.mp h2) n
        rw [e] at q
        exact ⟨.str z, H, I, ⟨_, rfl⟩, q⟩
      · rw [if_neg h1]
        rw [Int.toNat_natCast]
        refine ⟨?_, ⟨.str (rpS z n), H, I.tok _, ⟨_, rfl⟩, q⟩⟩
        show (rpS z n).length ≤ sizeLine
        rw [rp_len, sizeLine_eq]
        rw [Nat.mul_comm] at p1
        omega
end MM
namespace MM
open PySem PySem.Spec PyProof.Rows L2
/-! ### a tuple that the run made, known to the object: tuple(xs), t.index(x) -/
/-- at t a tuple of these, known to the object -/
def Tf (H : Hp) (t : Addr) (xs : List V) : Prop := ∃ o : Obj, H t = some (.frz o (.tup xs)) ∧ o.cls = .type "tuple" ∧ o.dict = none
theorem Tf.same {H H1 : Hp} {t : Addr} {xs : List V} (h : Tf H t xs) (s : Same H H1) : Tf H1 t xs := let ⟨o, e, r⟩ := h; ⟨o, s _ _ e, r⟩
theorem Tf.sq {K : PySem.W.Frag} {H : Hp} {t : Addr} {xs : List V} (h : Tf H t xs) : SqT K H t xs := let ⟨o, e, _⟩ := h; .inl (.inr ⟨o, e⟩)
def rTupF (K : PySem.W.Frag) : List V → Hp → VK → Prop := fun xs H Q => ∃ p ys, xs = [.ref p] ∧ SqL K H p ys ∧ ∀ l o, o.cls = .type "tuple" → o.dict = none → H l = none → Q (.ref l) (L2.upd H l (.frz o (.tup ys)))
theorem call_tupF {X : Cx} : CallR X (.type "tuple") (rTupF X.K) := by
  intro pins s σ H xs us Q I r h
  obtain ⟨p, ys, rfl, hq, q⟩ := h
  obtain ⟨u, rfl, rx⟩ := vals1 r
  cases rx
  obtain ⟨its, rv, pl, hz⟩ := I.list hq
  have ln := rv.length
  refine call_tuple_list pl.isList (fun h2 kp => ?_) (by simp only [List.size_toArray] <;> omega)
  have J : Inv X pins σ H { s with heap := h2 } := Inv.kept (t' := s.toks) I kp
  have nw : ObjOk X.prog X.w (L2.upd H h2.objs.size (.frz { cls := .type "tuple", data := .seq its.toArray } (.tup ys))) (h2.push { cls := .type "tuple", data := .seq its.toArray }) h2.objs.size (.frz { cls := .type "tuple", data := .seq its.toArray } (.tup ys)) :=
    ⟨Heap.get?_push_size _ rfl, hz, its, rv, IsTup.new _ _⟩
  have J2 := J.laid (t' := s.toks) (fun c w e => Heap.get?_push_of_some _ e) (Nat.le_refl _) nw
  exact ⟨.ref h2.objs.size, _, J2, rfl, q _ _ rfl rfl (J.hok.fresh (Nat.le_refl _))⟩
def tTix (K : PySem.W.Frag) (to : TE) (t : TA) : TE := fun σ H Q => to σ H fun x H1 => ∃ (p : Addr) (zs : List V), x = .ref p ∧ Tf H1 p zs ∧ t σ H1 fun xs H2 => ∃ (ys : List Str) (z : Str) (j : Nat), xs = [.str z] ∧ SqT K H2 p (ys.map V.str) ∧ ys[j]? = some z ∧ (∀ m, m < j → ys[m]? ≠ some z) ∧ Q (.int (j : Nat)) H2
/-- t.index(x) -/
theorem pe_tix {X : Cx} {o e : Expr} {es : List Expr} {to : TE} {t : TA} {apos cpos : Pos} (ho : PE X o to) (ha : PA X (e :: es) t)
    (hb : attributeBase o "index" X.env (eval o X.env) = eval o X.env := by rfl)
    (hfew : ((backTo cpos (starEach (e :: es) X.env)).all (fun x => !x.1) && (backToKw cpos (keywordEach [] X.env)).all (fun x => x.1.isSome) && decide ((e :: es).length + ([] : List Keyword).length + (if ([] : List Keyword).isEmpty then 0 else 1) < 30)) = true := by rfl)
    (hln : (apos.endLine == cpos.line) = true := by rfl) (hs : starEach (e :: es) X.env = (false, eval e X.env) :: starEach es X.env := by rfl) (hpl : (backTo cpos (starEach es X.env)).any (·.1) = false := by rfl) :
    PE X (.Call (.Attribute o "index" apos) (e :: es) [] cpos) (tTix X.K to t) := by
  refine ⟨fun pins s σ H Q I h => ?_⟩
  refine wpAny_Call_method_late hb hfew hln rfl (thn (ho.run pins s σ H _ I h) fun v s1 ⟨x, H1, J, r1, p, zs, ex, ⟨ob, ep, ec, ed⟩, q1⟩ => ?_)
  subst ex
  cases r1
  obtain ⟨g, _⟩ := J.hok p _ ep
  refine ⟨"tuple", "tuple.index", PySem.F.plainAttrs_tuple, PySem.F.slot_tuple_index, PySem.F.type_tuple_index, ⟨ob, g, ec⟩, fun a e2 => ?_, ?_⟩
  · cases e2
    exact ⟨ob, g, ed⟩
  have hA := ha.run cpos pins s1 σ H1 _ J q1
  rw [hs] at hA ⊢
  refine Calls.callWith_builtin (by show (false || (backTo cpos (starEach es X.env)).any (·.1)) = false; rw [hpl] <;> rfl) (Calls.evalArgs_plain ?_)
  refine thn hA fun us s2 ⟨vs, H2, I2, r2, ys, z, j, ev, k1, k2, k3, q2⟩ => ?_
  exact mt_tup_index pins s2 σ H2 (.ref p) vs (.ref p) us Q I2 rfl r2 ⟨p, ys, z, j, rfl, ev, k1, k2, k3, q2⟩
end MM
namespace MM
open PySem PySem.Spec PySem.Calls PyProof.Rows L2
open GQ (FinOf call_here)
section
open PySem.AutoSeq1 (wpAny_loadPart')
open PySem.MeetsSeq PySem.MeetsSeq2 PySem.MeetsSeq3 PySem.SeqRoads2
variable {prog : Program} {w : World} {A : Around} {R : Result → Shared → Prop}
/-- lists of unlike lengths -/
theorem list_eqN (l b : Addr) {xs ys : Array Value} {n m : Nat} {s : Shared} (gx : s.heap.get? l = some { cls := .type "list", dict := none, data := .seq xs n, slots := #[] }) (gy : s.heap.get? b = some { cls := .type "list", dict := none, data := .seq ys m, slots := #[] })
    (hz : xs.size ≠ ys.size) (h : R (.ok (.ret (.bool false))) s) : wpAny (model prog w) A.in1 (Builtin.«list.__eq__» ⟨[.ref l, .ref b], []⟩) (FinOf prog w A R) (fun e s' => R (.error e) s') s := by
  obtain ⟨hp, g, d, tk, os⟩ := s
  have f3 := AutoSeq1.sub_list_list
  have nz : (xs.size != ys.size) = true := by simp [hz]
  wp_walk using wpAny_loadPart' gx, wpAny_loadPart' gy
  exact h
end
/-- x == y, lists of unlike lengths -/
def rEqLN : R2 := fun x y H Q => ∃ (a b : Addr) (xs ys : List V), x = .ref a ∧ y = .ref b ∧ H a = some (.lst xs) ∧ H b = some (.lst ys) ∧ xs.length ≠ ys.length ∧ Q (.bl false) H
theorem op_eqLN {X : Cx} {n : Nat} (hr : Room (n + 1) X.A) : OpR X (compareOp .Eq) rEqLN := by
  intro pins s σ H x y v u Q I rx ry hq
  obtain ⟨a, b, xs, ys, rfl, rfl, ha, hb, hlen, k⟩ := hq
  cases (show v = Value.ref a from rx)
  cases (show u = Value.ref b from ry)
  obtain ⟨_, its, k1, r, g1⟩ := I.hok a _ ha
  obtain ⟨_, its2, k2, r2, g2⟩ := I.hok b _ hb
  show wpAny (model X.prog X.w) X.A (richCompare .Eq (.ref a) (.ref b)) (EP X pins σ Q) X.xe s
  refine wpAny_richCompare_same_room (op := .Eq) ⟨_, g1, rfl⟩ ⟨_, g2, rfl⟩ PySem.F.slot_list_eq (call_here PySem.F.slot_list_eq ⟨_, g1, rfl⟩ PySem.F.entry_list_eq (PySem.F.args_list_eq_2 _ _) ?_) hr.units0
  refine list_eqN (R := wants (fun v s' => v ≠ .notImplemented ∧ EP X pins σ Q v s') X.xe) a b g1 g2 (by rw [List.size_toArray, List.size_toArray, ← r.length, ← r2.length]; exact hlen) ⟨(fun x => nomatch x), ?_⟩
  exact ⟨.bl false, H, I, rfl, k⟩
/-- list == list: of unlike lengths, or both empty -/
def rEqLE (K : PySem.W.Frag) : R2 := fun x y H Q => ∃ (a b : Addr) (xs ys : List V), x = .ref a ∧ y = .ref b ∧ H a = some (.lst xs) ∧ H b = some (.lst ys) ∧ ys = [] ∧ Q (.bl (decide (xs = []))) H
theorem op_eqLE {X : Cx} {n : Nat} (hr : Room (n + 1) X.A) : OpR X (compareOp .Eq) (rEqLE X.K) := by
  intro pins s σ H x y v u Q I rx ry hq
  obtain ⟨a, b, xs, ys, rfl, rfl, ha, hb, rfl, k⟩ := hq
  by_cases h : xs = []
  · subst h
    rw [decide_eq_true rfl] at k
    refine op_eqD hr.units pins s σ H _ _ v u Q I rx ry ?_
    exact ⟨.list [], .list [], .lst (SqL.of ha) .nil, .lst (SqL.of hb) .nil, by decide +kernel, by decide +kernel, by simpa [PyData.eqv, PyData.eqvAll] using k⟩
  · rw [decide_eq_false h] at k
    exact op_eqLN hr pins s σ H _ _ v u Q I rx ry ⟨a, b, xs, [], rfl, rfl, ha, hb, fun z => h (List.length_eq_zero_iff.mp z), k⟩
/-- // by a number above nought -/
def CDivP (_ j : Int) : Prop := 0 < j ∧ Sz 8900 j
theorem op_fdivP {X : Cx} : OpR X (binaryOp .FloorDiv) (rI CDivP fun i j => .int (i / j)) := opI fun i j _ _ _ _ _ hc q =>
  PyProof.Rows.floordiv_int (show j ≠ 0 from fun z => by have := hc.1; omega) (by rw [Int.fdiv_eq_ediv_of_nonneg i (Int.le_of_lt hc.1)]; exact q) (.inl (PyProof.noPylong_of_log2 (Nat.lt_of_lt_of_le (PySem.Flt.log2_lt_of (by decide) hc.2) (by decide))))
end MM
namespace MM
/-! ### days on which wheels meet: the maths -/
theorem lcm_meet {d a b x : Nat} (h : d ∣ Nat.lcm a b) (ha : Nat.gcd d a ∣ x) (hb : Nat.gcd d b ∣ x) : d ∣ x := by
  have hl : Nat.lcm (Nat.gcd d a) (Nat.gcd d b) ∣ x := Nat.lcm_dvd ha hb
  refine Nat.dvd_trans ?_ hl
  by_cases d0 : d = 0
  · subst d0
    rw [Nat.gcd_zero_left, Nat.gcd_zero_left]
    exact h
  have e1 : Nat.gcd (Nat.gcd d a) (Nat.gcd d b) ∣ Nat.gcd a b := Nat.dvd_gcd (Nat.dvd_trans (Nat.gcd_dvd_left _ _) (Nat.gcd_dvd_right _ _)) (Nat.dvd_trans (Nat.gcd_dvd_right _ _) (Nat.gcd_dvd_right _ _))
  have e2 : Nat.gcd (Nat.gcd d a) (Nat.gcd d b) ∣ a := Nat.dvd_trans e1 (Nat.gcd_dvd_left _ _)
  have e3 : Nat.gcd (Nat.gcd d a) (Nat.gcd d b) ∣ Nat.gcd d b := Nat.gcd_dvd_right _ _
  have e4 := Nat.gcd_mul_lcm (Nat.gcd d a) (Nat.gcd d b)
  have e0 : 0 < Nat.gcd (Nat.gcd d a) (Nat.gcd d b) := Nat.gcd_pos_of_pos_left _ (Nat.gcd_pos_of_pos_left _ (by omega))
  generalize Nat.gcd (Nat.gcd d a) (Nat.gcd d b) = g at *
  have k : d * g ∣ Nat.gcd d a * Nat.gcd d b := by
    rw [← Nat.gcd_mul_right]
    refine Nat.dvd_gcd (Nat.mul_dvd_mul_left d e3) ?_
    rw [← Nat.gcd_mul_left]
    refine Nat.dvd_gcd ?_ ?_
    · rw [Nat.mul_comm a d]
      exact Nat.mul_dvd_mul_left d e2
    · rw [← Nat.gcd_mul_lcm a b, Nat.mul_comm d g]
      exact Nat.mul_dvd_mul e1 h
  rw [← e4, Nat.mul_comm d g] at k
  exact Nat.dvd_of_mul_dvd_mul_left e0 k
theorem ncast_dvd {n : Nat} {x : Int} : (n : Int) ∣ x ↔ n ∣ x.natAbs := Int.ofNat_dvd_left
/-- the least common multiple of the first k sizes -/
def lcN (z : Nat → Nat) : Nat → Nat
  | 0 => 1
  | k + 1 => Nat.lcm (lcN z k) (z k)
theorem lcN_pos {z : Nat → Nat} : ∀ {k : Nat}, (∀ j, j < k → 0 < z j) → 0 < lcN z k
  | 0, _ => Nat.one_pos
  | k + 1, h => Nat.lcm_pos (lcN_pos fun j hj => h j (by omega)) (h k (by omega))
theorem lcN_dvd {z : Nat → Nat} : ∀ {k j : Nat}, j < k → z j ∣ lcN z k
  | 0, j, h => absurd h (by omega)
  | k + 1, j, h => by
    by_cases e : j = k
    · subst e
      exact Nat.dvd_lcm_right _ _
    · exact Nat.dvd_trans (lcN_dvd (show j < k by omega)) (Nat.dvd_lcm_left _ _)
theorem lcN_least {z : Nat → Nat} {m : Nat} : ∀ {k : Nat}, (∀ j, j < k → z j ∣ m) → lcN z k ∣ m
  | 0, _ => Nat.one_dvd _
  | k + 1, h => Nat.lcm_dvd (lcN_least fun j hj => h j (by omega)) (h k (by omega))
theorem lcN_le {z : Nat → Nat} : ∀ {k : Nat}, (∀ j, j < k → 0 < z j ∧ z j ≤ 2 ^ 6) → lcN z k ≤ 2 ^ (6 * k)
  | 0, _ => Nat.le_refl _
  | k + 1, h => by
    have h1 := lcN_le (z := z) (k := k) fun j hj => h j (by omega)
    have h0 := lcN_pos (z := z) (k := k) fun j hj => (h j (by omega)).1
    obtain ⟨h2, h3⟩ := h k (by omega)
    have h4 : Nat.lcm (lcN z k) (z k) ≤ lcN z k * z k := Nat.lcm_le_mul h0 h2
    have h5 := Nat.mul_le_mul h1 h3
    rw [show 6 * (k + 1) = 6 * k + 6 by omega, Nat.pow_add]
    exact Nat.le_trans h4 h5
/-- what each size's common divisor with n divides, that of the common multiple with n divides -/
theorem gcd_lcN {z : Nat → Nat} {n x : Nat} : ∀ {k : Nat}, (∀ j, j < k → Nat.gcd (z j) n ∣ x) → Nat.gcd (lcN z k) n ∣ x
  | 0, _ => by
    show Nat.gcd 1 n ∣ x
    rw [Nat.gcd_one_left]
    exact Nat.one_dvd _
  | k + 1, h => by
    have h1 := gcd_lcN (z := z) (n := n) (x := x) (k := k) fun j hj => h j (by omega)
    have h2 := h k (by omega)
    refine lcm_meet (a := lcN z k) (b := z k) (Nat.gcd_dvd_left _ _) (Nat.dvd_trans ?_ h1) (Nat.dvd_trans ?_ h2)
    · exact Nat.dvd_gcd (Nat.gcd_dvd_right _ _) (Nat.dvd_trans (Nat.gcd_dvd_left _ _) (Nat.gcd_dvd_right _ _))
    · exact Nat.dvd_gcd (Nat.gcd_dvd_right _ _) (Nat.dvd_trans (Nat.gcd_dvd_left _ _) (Nat.gcd_dvd_right _ _))
theorem lcI_nat {a b : Nat} (ha : 0 < a) : lcI (a : Int) (b : Int) = (Nat.lcm a b : Nat) := by
  unfold lcI Nat.lcm
  rw [show Int.gcd (a : Int) (b : Int) = Nat.gcd a b from rfl]
  obtain ⟨c, hc⟩ := Nat.gcd_dvd_left a b
  have g0 : 0 < Nat.gcd a b := Nat.gcd_pos_of_pos_left _ ha
  generalize Nat.gcd a b = g at *
  subst hc
  rw [show g * c * b / g = c * b by rw [Nat.mul_assoc, Nat.mul_div_cancel_left _ g0]]
  have : ((g * c : Nat) : Int) / (g : Int) = (c : Int) := by
    rw [Int.natCast_mul, Int.mul_ediv_cancel_left _ (by omega)]
  rw [this, Int.natCast_mul]
/-! ### a factor that leaves 1 over -/
/-- what the loop keeps: one and two are number times their factors, but for whole moduli -/
structure IvI (n m one two ot tt : Int) : Prop where
  o : m ∣ n * ot - one
  t : m ∣ n * tt - two
  g : Int.gcd one two = 1
  p1 : 0 < one
  p2 : 0 ≤ two
  lt : two < one
  sz : (ot.natAbs : Int) * two + (tt.natAbs : Int) * one ≤ m
theorem IvI.start {n m : Int} (h : 0 < m) (hg : Int.gcd n m = 1) : IvI n m m (n % m) 0 1 := by
  have h0 := Int.emod_nonneg n (show m ≠ 0 by omega)
  have h1 := Int.emod_lt_of_pos n h
  refine ⟨⟨-1, by omega⟩, ?_, ?_, h, h0, h1, by simp⟩
  · rw [Int.mul_one]
    exact Int.dvd_self_sub_emod
  · rw [gcd_emod' n m]
    exact hg
theorem IvI.turn {n m one two ot tt : Int} (h : IvI n m one two ot tt) (h2 : 0 < two) : IvI n m two (one - one / two * two) tt (ot - one / two * tt) := by
  have e : one - one / two * two = one % two := by
    have := Int.emod_def one two
    rw [Int.mul_comm] at this
    omega
  have r0 := Int.emod_nonneg one (show two ≠ 0 by omega)
  have r1 := Int.emod_lt_of_pos one h2
  have q0 : 0 ≤ one / two := Int.ediv_nonneg (by have := h.p1; omega) (by omega)
  refine ⟨h.t, ?_, ?_, h2, by rw [e]; exact r0, by rw [e]; exact r1, ?_⟩
  · have : n * (ot - one / two * tt) - (one - one / two * two) = (n * ot - one) - one / two * (n * tt - two) := by grind
    rw [this]
    exact Int.dvd_sub h.o (Int.dvd_mul_of_dvd_right h.t)
  · rw [e, gcd_emod']
    exact h.g
  · have tri : ((ot - one / two * tt).natAbs : Int) ≤ (ot.natAbs : Int) + one / two * (tt.natAbs : Int) := by
      have a1 := Int.natAbs_sub_le ot (one / two * tt)
      rw [Int.natAbs_mul] at a1
      have a2 : (((one / two).natAbs * tt.natAbs : Nat) : Int) = one / two * (tt.natAbs : Int) := by
        rw [Int.natCast_mul, Int.natAbs_of_nonneg q0]
      omega
    have m1 := Int.mul_le_mul_of_nonneg_right tri (Int.le_of_lt h2)
    have s := h.sz
    have ed := Int.mul_ediv_add_emod one two
    rw [e]
    generalize one % two = r at *
    generalize ((ot - one / two * tt).natAbs : Int) = u at *
    generalize (ot.natAbs : Int) = v at *
    generalize (tt.natAbs : Int) = x at *
    generalize one / two = q at *
    have : x * one = x * r + q * x * two := by rw [← ed]; grind
    have e3 : (v + q * x) * two = v * two + q * x * two := Int.add_mul _ _ _
    omega
theorem IvI.fin {n m one ot tt : Int} (h : IvI n m one 0 ot tt) : m ∣ n * ot - 1 := by
  have e := h.g
  rw [Int.gcd_zero_right] at e
  have := h.p1
  have e1 : one = 1 := by omega
  have o := h.o
  rw [e1] at o
  exact o
theorem IvI.szt {n m one two ot tt : Int} (h : IvI n m one two ot tt) : (tt.natAbs : Int) ≤ m := by
  have s := h.sz
  have p1 := h.p1
  have p2 := h.p2
  have a1 : 0 ≤ (ot.natAbs : Int) * two := Int.mul_nonneg (Int.natCast_nonneg _) p2
  have a2 : (tt.natAbs : Int) * 1 ≤ (tt.natAbs : Int) * one := Int.mul_le_mul_of_nonneg_left (by omega) (Int.natCast_nonneg _)
  omega
/-! ### a day that lies whole steps from both days -/
theorem met_day {one s1 two s2 r g : Int} (h1 : 0 < s1) (h2 : 0 < s2) (hg : g = (Int.gcd s1 s2 : Int)) (hd : g ∣ two - one) (hr : s2 / g ∣ s1 / g * r - 1) :
    s1 ∣ (one + (two - one) / g * r % (s2 / g) * s1) - one ∧ s2 ∣ (one + (two - one) / g * r % (s2 / g) * s1) - two ∧ one ≤ one + (two - one) / g * r % (s2 / g) * s1 ∧ one + (two - one) / g * r % (s2 / g) * s1 < one + s2 * s1 := by
  have gp : 0 < g := by
    have := Int.gcd_pos_of_ne_zero_left s2 (show s1 ≠ 0 by omega)
    omega
  obtain ⟨a, ea⟩ : g ∣ s1 := by rw [hg]; exact Int.gcd_dvd_left s1 s2
  obtain ⟨b, eb⟩ : g ∣ s2 := by rw [hg]; exact Int.gcd_dvd_right s1 s2
  obtain ⟨e, ee⟩ := hd
  have e1 : s1 / g = a := by rw [ea, Int.mul_ediv_cancel_left _ (by omega)]
  have e2 : s2 / g = b := by rw [eb, Int.mul_ediv_cancel_left _ (by omega)]
  have e3 : (two - one) / g = e := by rw [ee, Int.mul_ediv_cancel_left _ (by omega)]
  have b0 : 0 < b := by
    apply Int.not_le.mp
    intro h
    have := Int.mul_le_mul_of_nonneg_left h (Int.le_of_lt gp)
    omega
  have bs : b ≤ s2 := by
    have := Int.mul_le_mul_of_nonneg_right (show (1 : Int) ≤ g by omega) (Int.le_of_lt b0)
    omega
  rw [e1, e2] at hr
  rw [e2, e3]
  have t0 := Int.emod_nonneg (e * r) (show b ≠ 0 by omega)
  have t1 := Int.emod_lt_of_pos (e * r) b0
  have te : b ∣ e * r - e * r % b := Int.dvd_self_sub_emod
  generalize e * r % b = t at *
  refine ⟨⟨t, by grind⟩, ?_, ?_, ?_⟩
  · have k : b ∣ t * a - e := by
      have : t * a - e = e * (a * r - 1) - (e * r - t) * a := by grind
      rw [this]
      exact Int.dvd_sub (Int.dvd_mul_of_dvd_right hr) (Int.dvd_mul_of_dvd_left te)
    obtain ⟨c, ec⟩ := k
    refine ⟨c, ?_⟩
    have : one + t * s1 - two = g * (t * a - e) := by grind
    rw [this, ec, eb]
    grind
  · have := Int.mul_nonneg t0 (Int.le_of_lt h1)
    omega
  · have := Int.mul_lt_mul_of_pos_right (show t < s2 by omega) h1
    omega
/-! ### the first pair -/
/-- the first pair of places below n, in their order, of which B holds -/
structure Fp (n : Nat) (B : Nat → Nat → Prop) (i j : Nat) : Prop where
  ij : i < j
  jn : j < n
  b : B i j
  r : ∀ a c, a < i → a < c → c < n → ¬ B a c
  c : ∀ c, i < c → c < j → ¬ B i c
theorem Fp.one {n : Nat} {B : Nat → Nat → Prop} {i j a c : Nat} (h : Fp n B i j) (k : Fp n B a c) : i = a ∧ j = c := by
  have e : i = a := by
    rcases Nat.lt_trichotomy i a with z | z | z
    · exact absurd h.b (k.r i j z h.ij h.jn)
    · exact z
    · exact absurd k.b (h.r a c z k.ij k.jn)
  subst e
  refine ⟨rfl, ?_⟩
  rcases Nat.lt_trichotomy j c with z | z | z
  · exact absurd h.b (k.c j h.ij z)
  · exact z
  · exact absurd k.b (h.c c k.ij z)
theorem Fp.iff {n : Nat} {B B' : Nat → Nat → Prop} {i j : Nat} (h : Fp n B i j) (e : ∀ a c, a < c → c < n → (B a c ↔ B' a c)) : Fp n B' i j :=
  ⟨h.ij, h.jn, (e _ _ h.ij h.jn).mp h.b, fun a c h1 h2 h3 z => h.r a c h1 h2 h3 ((e _ _ h2 h3).mpr z), fun c h1 h2 z => h.c c h1 h2 ((e _ _ h1 (by have := h.jn; omega)).mpr z)⟩
end MM
namespace MM
open PySem PySem.Spec PyProof.Rows L2
section
variable {J : It} {n : Nat} {G : Hp → Prop} {Y : Nat → Hp → V → Hp → Prop}
/-- a comprehension whose i-th thing is f i -/
theorem lc_fn (w : Walk J n G Y) (hY : ∀ i H x H', Y i H x H' → Same H H') {g : TG} {te : TE} {vs : List Nat} {σ : L2.St} {H : Hp} {D : Addr} {Qd : Hp → Prop} (nD : H D = none) (hn : n < sizeLine) (f : Nat → V) (hG : ∀ H', Same H H' → G H')
    (hs : ∀ i x H1 H2 (R : V → Hp → Prop), i < n → Same H H1 → Y i H1 x H2 → (∀ H3, Same H2 H3 → R (f i) H3) → g x (wipe σ vs) H2 fun σ2 H3 => wipe σ2 vs = wipe σ vs ∧ te σ2 H3 R)
    (hd : ∀ H', H' D = some (.lst ((List.range n).map f)) → Same H H' → Qd H') :
    ∃ W : Nat → Nat → Hp → Prop, (∃ m, W 0 m (L2.upd H D (.lst []))) ∧ ∀ i m H, W i m H →
      (J.stop i H ∧ Qd H) ∨ (J.go i H ∧ ∃ Nx : Hp → Prop, (∀ H', Nx H' → ∃ m', m' < m ∧ W (i + 1) m' H') ∧ ∀ x H', J.yld i H x H' → g x (wipe σ vs) H' fun σ2 H2 => wipe σ2 vs = wipe σ vs ∧ tYes σ2 H2 fun b H3 =>
        if b = true then te σ2 H3 fun y H4 => ∃ acc, H4 D = some (.lst acc) ∧ acc.length < sizeLine ∧ Nx (L2.upd H4 D (.lst (acc ++ [y]))) else Nx H3) := by
  refine lc_all w hY nD hn (fun i v _ => v = f i) (fun _ _ _ _ _ h => h) (fun _ _ _ _ _ _ h => h) hG (fun i x H1 H2 R hi s y k => hs i x H1 H2 R hi s y fun H3 s3 => k _ H3 s3 rfl) fun us H' l e s p => ?_
  have eu : us = (List.range n).map f := by
    refine List.ext_getElem? fun j => ?_
    by_cases hj : j < us.length
    · have h1 := List.getElem?_eq_getElem hj
      rw [h1, p j _ h1, List.getElem?_map, List.getElem?_range (by omega)]
      rfl
    · rw [List.getElem?_eq_none_iff.mpr (by omega), List.getElem?_eq_none_iff.mpr (by simp; omega)]
  subst eu
  exact hd H' e s
end
/-! ### lists of texts beside each other -/
def dlS (ns : List Str) : PyData := .list (ns.map PyData.str)
theorem dlS_ok {ns : List Str} (h : ∀ x ∈ ns, PyData.strOk x = true) : SeqAt.shaped (dlS ns) = true := by
  have k1 : ∀ ns : List Str, (∀ x ∈ ns, PyData.strOk x = true) → PyData.canLayAll0 (ns.map PyData.str) = true := fun ns => by
    induction ns with
    | nil => intro _; rfl
    | cons x r ih =>
      intro h
      simp only [List.map_cons, PyData.canLayAll0, PyData.canLay0, Bool.and_eq_true]
      exact ⟨h x List.mem_cons_self, ih fun y hy => h y (List.mem_cons_of_mem _ hy)⟩
  have k2 : ∀ ns : List Str, PyData.depthAll (ns.map PyData.str) ≤ 1 := fun ns => by
    induction ns with
    | nil => simp [PyData.depthAll]
    | cons x r ih => simp only [List.map_cons, PyData.depthAll, PyData.depth]; omega
  have k3 := k2 ns
  show (PyData.canLay0 (.list (ns.map PyData.str)) && decide (PyData.depth (.list (ns.map PyData.str)) ≤ 64)) = true
  rw [Bool.and_eq_true]
  refine ⟨?_, decide_eq_true ?_⟩
  · simp only [PyData.canLay0]
    exact k1 ns h
  · simp only [PyData.depth]
    omega
theorem dlS_eq (ns : List Str) : PyData.eqv (dlS ns) (dlS ns) = true := by
  have k : ∀ ns : List Str, PyData.eqvAll (ns.map PyData.str) (ns.map PyData.str) = true := fun ns => by
    induction ns with
    | nil => simp [PyData.eqvAll]
    | cons x r ih => simp [PyData.eqvAll, PyData.eqv, ih]
  unfold dlS
  simp only [PyData.eqv, k]
theorem dlS_iff (ns ms : List Str) : PyData.eqv (dlS ns) (dlS ms) = decide (ns = ms) := by
  have k : ∀ ns ms : List Str, PyData.eqvAll (ns.map PyData.str) (ms.map PyData.str) = decide (ns = ms) := fun ns => by
    induction ns with
    | nil => intro ms; cases ms <;> simp [PyData.eqvAll]
    | cons x r ih =>
      intro ms
      cases ms with
      | nil => simp [PyData.eqvAll]
      | cons y t =>
        simp only [List.map_cons, PyData.eqvAll, PyData.eqv, ih]
        by_cases h : x = y
        · subst h
          simp
        · simp [h]
  unfold dlS
  simp only [PyData.eqv, k]
theorem dlS_all (K : PySem.W.Frag) (H : Hp) : ∀ ns : List Str, DpAll K H (ns.map V.str) (ns.map PyData.str)
  | [] => .nil
  | x :: r => .cons (.str x) (dlS_all K H r)
theorem dlS_dp {K : PySem.W.Frag} {H : Hp} {p : Addr} {ns : List Str} (e : H p = some (.lst (ns.map V.str))) : Dp K H (.ref p) (dlS ns) := .lst (SqL.of e) (dlS_all K H ns)
end MM
namespace MM
open PySem PySem.Spec PyProof.Rows L2
/-! ### a comprehension whose element may raise -/
theorem noteFrame_frame {x : Value} {e1 e2 : Env} (h : e1.frame = e2.frame) : noteFrame x e1 = noteFrame x e2 := by
  unfold noteFrame PySem.frameOf
  rw [h]
section
open HandSPX
variable {M : Model} {A : Around} {E : Value → Shared → Prop} {s : Shared} {Z : Obj → Prop} {base : Heap} {env : Env} {outer : List Env} {L e : Addr}
/-- a frame notes what no frame of ours has in hand -/
theorem looks_anyZ {fl : Value} {Q : Unit → Shared → Prop} (hZ : Steady Z) (hfr : A.frames = some (env :: outer)) (hf : env.frame = some L) (hkb : base.StaysIn s.heap) (hen : base.get? e = none) (hl : s.heap.FunFrames base (env :: outer))
    (ht : TracedZ s.heap base e Z fl) (hne : (fl == rawInt L) = false)
    (hQ : ∀ h', HeldZ base (env :: outer) e Z L h' → s.heap.UpToSlots h' → Q () { s with heap := h' }) : wpAny M A (noteFrame (.ref e) env) Q E s := by
  obtain ⟨oe, vs, T, oT, ts, he, hz, hd, h1, hnT, hTe, hT, hdT, h3⟩ := ht
  unfold noteFrame
  simp only [hf]
  refine wpAny_bind (wpAny_field he hd h1 ?_)
  rw [if_pos (show (Value.ref T != Value.none) = true from by simp)]
  refine wpAny_bind (wpAny_field hT hdT h3 ?_)
  rw [if_neg (by rw [hne]; decide)]
  refine wpAny_bind (wpAny_setField hT hdT (Array.getElem?_eq_some_iff.mp h3).1 ?_)
  have other : ∀ b, b ≠ T → (s.heap.update T (Obj.mapFields (·.setIfInBounds 3 Value.none))).get? b = s.heap.get? b := fun b hb => Heap.get?_update_other _ _ (Ne.symm hb)
  have noRecord : ∀ b o, s.heap.get? b = some o → (∀ vs, o.data ≠ .fields vs) → b ≠ T := fun b o hb hnf q => by
    rw [q, hT] at hb; injection hb with hb; subst hb; exact hnf ts hdT
  refine wpAny_entryZ hZ hfr (hl.of_keeps fun b o hb hnf => ⟨o, (other b (noRecord b o hb hnf)).trans hb, rfl⟩) hf ((other e (Ne.symm hTe)).trans he)
    (fun b o hbo => (other b fun q => by rw [q, hnT] at hbo; cases hbo).trans (hkb b o hbo)) hen hd (Array.getElem?_eq_some_iff.mp h1).1 hz fun h' hN => ?_
  obtain ⟨x1, x2, x3, x4⟩ := hN
  exact hQ h' ⟨x1, hen, x2, x3⟩ fun b o hb hnf => x4 b o ((other b (noRecord b o hb hnf)).trans hb) hnf
end
theorem funFrames_but {h h' B B' : Heap} {C : Addr} (k : ∀ b, b ≠ C → h'.get? b = h.get? b) (n : ∀ b, B.get? b = none → B'.get? b = none) : ∀ {l : List Env}, h.FunFrames B l → C ∉ frs l → h'.FunFrames B' l
  | [], _, _ => trivial
  | env :: l, hl, hC => by
    obtain ⟨hk, ⟨L, o, hf, hb, ho, hd⟩, hr⟩ := hl
    have hne : L ≠ C := fun z => hC (List.mem_filterMap.mpr ⟨env, List.mem_cons_self, by rw [hf, z]⟩)
    exact ⟨hk, ⟨L, o, hf, n L hb, (k L hne).trans ho, hd⟩, funFrames_but k n hr fun hm => hC (by
      obtain ⟨e, he, q⟩ := List.mem_filterMap.mp hm
      exact List.mem_filterMap.mpr ⟨e, List.mem_cons_of_mem _ he, q⟩)⟩
abbrev XW (E : XK) : WX := fun c d _ H => E c d H
/-- a block's context whose errors go somewhere -/
abbrev blkX (X : Cx) (s : Shared) (H : Hp) (scope : Scope) (cenv : Env) (fp : List Addr) (xe : Value → Shared → Prop) : Cx := { X.blk s H scope cenv fp with xe := xe }
theorem blkX_inv {X : Cx} {s0 : Shared} {H0 : Hp} {scope : Scope} {cenv : Env} {fp : List Addr} {xe : Value → Shared → Prop} {pins : List (Addr × Obj)} {σ : L2.St} {H : Hp} {s : Shared} (I : Inv (X.blk s0 H0 scope cenv fp) pins σ H s) : Inv (blkX X s0 H0 scope cenv fp xe) pins σ H s :=
  ⟨⟨I.ok.mod, I.ok.kind, I.ok.glob, I.ok.blt, I.ok.above, I.ok.inj, I.ok.has, I.ok.cab, I.ok.hd, I.ok.frames, I.ok.stk, I.ok.exf, I.ok.bs, I.ok.bsz, I.ok.noex, I.ok.exfs, I.ok.funs, I.ok.frf⟩,
    I.os, I.bare, I.base, I.loc, I.cell, I.free, I.freeC, I.pin, I.hok, I.len⟩
def PostOut (X : Cx) (C : Addr) (u : Value) (s'' : Shared) : Prop :=
  ∃ m, s''.heap.Ns C m ∧ ∀ h', Heap.SameBut C s''.heap h' → ∀ cenv : Env, cenv.locals = C → cenv.frame = X.env.frame → wpAny (model X.prog X.w) X.A (PySem.passOn "comprehension.variables-let-go" u cenv : Sem Value) (fun _ _ => False) X.xe { s'' with heap := h' }
theorem comp_out {X : Cx} {pins : List (Addr × Obj)} {σ : L2.St} {H3 : Hp} {s3 s' : Shared} {E : XK} {E₁ : Value → Shared → Prop} {scope : Scope} {ce : Env} {fp : List Addr} {xe : Value → Shared → Prop} {u : Value}
    (hs : X.stack = X.env :: X.outer) (hf : X.env.frame = some X.env.locals) (tk : Takes X (XW E)) (I3 : Inv X pins σ H3 s3) (cL : ce.locals = s3.heap.objs.size) (cF : ce.frame = X.env.frame)
    (f3 : ∀ b ∈ fp, FpOk X pins H3 b ∧ b < s3.heap.objs.size) (x : XE (blkX X s3 H3 scope ce fp xe) (XW E) u s') :
    wpAny (model X.prog X.w) X.A (noteFrame u ce) (fun _ s'' => PostOut X s3.heap.objs.size u s'') E₁ s' := by
  obtain ⟨a, B, sI, pn, σ', H', cls, d, rfl, I, nb, up, sky, na, os, ag, w⟩ := x
  rw [noteFrame_frame (e2 := X.env) cF]
  have hfr : X.A.frames = some (X.env :: X.outer) := by rw [I3.ok.frames, hs]
  have nC : H' s3.heap.objs.size = none := by
    have z : H' ce.locals = none := I.free
    rw [cL] at z
    exact z
  have I7 : Inv X pins σ H' sI := I3.call' (ch := fp) I.os I.base I.hok I.bare fun b hb => ⟨(f3 b hb).1.2.2.2.1, (f3 b hb).1.2.1, (f3 b hb).1.2.2.2.2.1, (f3 b hb).1.2.2.2.2.2⟩
  have fC : FpOk X pins H' s3.heap.objs.size := I3.fpOk (Nat.le_refl _) nC
  obtain ⟨m, hn, _⟩ := I.loc
  have hn : sI.heap.Ns ce.locals m := hn
  rw [cL] at hn
  have nb : ∀ b o, sI.heap.get? b = some o → b ∉ frs X.stack → B.get? b = some o := nb
  have sky : Sky B X.stack a (Zc cls d) ce.locals s'.heap := sky
  have os : s'.os = sI.os := os
  generalize hCe : s3.heap.objs.size = C at nC fC hn cL ⊢
  have nCL : C ≠ X.env.locals := fC.2.1
  have nCf : C ∉ frs X.stack := fun hm => by
    rcases List.mem_cons.mp (I7.stkSub C hm) with z | z
    · exact nCL z
    · exact fC.2.2.1 z
  have fin : ∀ h1, HandSPX.HeldZ B (X.env :: X.outer) a (Zc cls d) X.env.locals h1 → s'.heap.UpToSlots h1 → PostOut X C (.ref a) { s' with heap := h1 } := fun h1 hh up1 => by
    obtain ⟨oC, es, ep, hoC, hdC, rC⟩ := hn
    have nfC : ∀ vs, oC.data ≠ .fields vs := fun vs z => by rw [hdC] at z; cases z
    obtain ⟨sl, eC⟩ := (up.trans up1) C oC hoC nfC
    refine ⟨m, ⟨_, es, ep, eC, hdC, rC⟩, fun h2 sb cenv _ hcf => ?_⟩
    obtain ⟨st, hen, ff, oe, vs, T, oT, ts, he, hz, hd, h1', hnT, hTe, hT, hdT, h3⟩ := hh
    have ne : ∀ {b : Addr} {o : Obj} {ws : Array Value}, h1.get? b = some o → o.data = .fields ws → b ≠ C := fun {b o ws} e1 e2 z => by
      rw [z] at e1
      have eC' : h1.get? C = some { oC with slots := sl } := eC
      rw [eC'] at e1
      cases e1
      exact nfC _ e2
    have k2 : ∀ b, b ≠ C → h2.get? b = h1.get? b := fun b hb => sb.2 b hb
    have hB : ∀ b, B.get? b = none → (PySem.W.hideAll B [C]).get? b = none := fun b e => by
      cases q : (PySem.W.hideAll B [C]).get? b with
      | none => rfl
      | some o =>
        have z := PySem.W.of_hideAll _ q
        rw [e] at z
        cases z
    have out : ∀ {g : Heap} {b : Addr} {o : Obj}, (PySem.W.hideAll g [C]).get? b = some o → b ≠ C ∧ g.get? b = some o := fun {g b o} e => ⟨fun z => (by
      rw [z, PySem.W.hideAll_none [C] (List.mem_singleton.mpr rfl)] at e
      cases e), PySem.W.of_hideAll _ e⟩
    have hh2 : HandSPX.HeldZ (PySem.W.hideAll B [C]) (X.env :: X.outer) a (Zc cls d) X.env.locals h2 := by
      refine ⟨fun b o e => (k2 b (out e).1).trans (st b o (out e).2), hB a hen, funFrames_but k2 hB ff (by rw [← hs]; exact nCf), oe, vs, T, oT, ts, (k2 a (ne he hd)).trans he, hz, hd, h1', hB T hnT, hTe, (k2 T (ne hT hdT)).trans hT, hdT, h3⟩
    unfold PySem.passOn
    have he2 : h2.get? a = some oe := (k2 a (ne he hd)).trans he
    refine wpAny_bind (wpAny_field he2 hd h1' ?_)
    rw [if_neg (show ¬ ((Value.ref T == Value.none) = true) from by simp)]
    have last : wpAny (model X.prog X.w) X.A (setFlight (.ref a) cenv.frame) (fun _ s₂ => wpAny (model X.prog X.w) X.A (throw (.ref a) : Sem Value) (fun _ _ => False) X.xe s₂) X.xe { s' with heap := h2 } := by
      rw [hcf, hf]
      refine HandSPX.setFlight_onZ hh2 fun h3' hh3 up3 => wpAny_throw (tk _ _ ?_)
      refine ⟨a, PySem.W.hideAll B [C], { sI with heap := PySem.W.hideAll sI.heap [C] }, pins, σ, H', cls, d, rfl, ?_, fun b o e hb => ?_, fun b o e hnf => ?_, .inr (.inr (by rw [hs]; exact hh3)), na, os, ag, w⟩
      · exact I7.turned (t' := sI.toks) (it := C) (fun b o hb e => PySem.W.hideAll_get _ e (fun z => hb (List.mem_singleton.mp z))) nC nCL fC.2.2.2.1 fC.2.2.2.2.1 fC.2.2.2.2.2
      · obtain ⟨h1, h2⟩ := out e
        exact PySem.W.hideAll_get _ (nb b o h2 hb) (fun z => h1 (List.mem_singleton.mp z))
      · obtain ⟨q1, q2⟩ := out e
        obtain ⟨sl1, e1⟩ := (up.trans up1) b o q2 hnf
        obtain ⟨sl2, e2⟩ := up3 b _ ((k2 b q1).trans e1) hnf
        exact ⟨sl2, e2⟩
    first
      | exact wpAny_bind (wpAny_pure (wpAny_bind last))
      | exact wpAny_bind last
  rw [hs] at sky
  rcases sky with ⟨hB, hn', hl, oe, vs, he, hz, hd, h1⟩ | fl | hh
  · exact HandSPX.look_newZ Zc.steady hfr hl hf he hB hn' hd h1 hz fin
  · exact HandSPX.looks_onZ Zc.steady hfr hf fl fin
  · obtain ⟨f1, f2, f4, f5⟩ := hh
    refine looks_anyZ Zc.steady hfr hf f1 f2 f4 f5 ?_ fin
    rw [cL]
    have : C ≠ X.env.locals := nCL
    simp [rawInt]
    exact fun z => this (by exact_mod_cast z)
section
variable {M : Model} {A : Around} {E : Value → Shared → Prop} {s : Shared} {env : Env}
def postE (M : Model) (A : Around) (E : Value → Shared → Prop) (use : Option (Value → Sem Unit)) (Q : Value → Shared → Prop) (acc : Value) (C : Addr) (fr : Option Addr) (r : Result) (s' : Shared) : Prop :=
  match r, use with
  | .ok _, none => ∃ m, s'.heap.Ns C m ∧ ∀ h', Heap.SameBut C s'.heap h' → Q acc { s' with heap := h' }
  | .ok _, some u => wpAny M A (u acc) (fun _ s'' => ∃ m, s''.heap.Ns C m ∧ ∀ h', Heap.SameBut C s''.heap h' → Q .none { s'' with heap := h' }) E s'
  | .error x, _ => ∃ m, s'.heap.Ns C m ∧ ∀ h', Heap.SameBut C s'.heap h' → ∀ cenv : Env, cenv.locals = C → cenv.frame = fr → wpAny M A (PySem.passOn "comprehension.variables-let-go" x cenv : Sem Value) (fun _ _ => False) E { s' with heap := h' }
theorem compE {e : Expr} {scope : Scope} {pos : Pos} {newAcc first : Sem Value} {g : Comprehension} {gs : List Comprehension} {cl : List (Str × Addr)} {use : Option (Value → Sem Unit)}
    {Q : Value → Shared → Prop}
    (hcl : clausesOf e = g :: gs) (hs : ∀ x, foldedSetIterable g.iter env x = pure x) (hclos : closureFor scope env = pure cl)
    (hkind : scope.kind = .function) (hnames : ∀ x ∈ scope.names, x.2 = .local → scope.names.lookup x.1 = some .local)
    (h : wpAny M A first (fun x s₁ => wpAny M A (pyIter x) (fun it s₂ => wpAny M A newAcc (fun acc s₃ =>
      wpAny M A (newFunctionEnv scope env.globals cl [] env.qual none .none (some env)) (fun cenv s₄ => cenv.frame = env.frame ∧
        codeAny M A (.compStart e 0 it acc { cenv with scope := relabel scope env }) (postE M A E use Q acc cenv.locals env.frame) s₄) E s₃) E s₂) E s₁) E s) :
    wpAny M A (comprehension e scope env pos newAcc false first use) Q E s := by
  unfold comprehension
  rw [hclos, hcl]
  refine wpAny_bind (wpAny_mono h (fun x s₁ h₁ => wpAny_bind (wpAny_standAt (wpAny_bind (wpAny_of_eq (hs x) (wpAny_bind (wpAny_holding (wpAny_mono h₁ (fun it s₂ h₂ =>
    wpAny_standIf (wpAny_bind (wpAny_mono h₂ (fun acc s₃ h₃ => wpAny_bind (wpAny_pure (wpAny_bind (wpAny_mono h₃ (fun cenv s₄ h₄ => ?_) fun _ _ h' => h')))) fun _ _ h' => h')))
      fun _ _ h' => h'))))))) fun _ _ h' => h')
  dsimp only
  obtain ⟨hfr, h₄⟩ := h₄
  have hv : ∀ x ∈ (scope.names.filter fun x => (x.2 == .local || x.2 == .cell) && x.1 != (".0" : Str)).reverse, x.2 = .local →
      Env.kindOf { cenv with scope := relabel scope env } x.1 = some .local := fun x hx hl => lookup_relabel_local (hnames x (List.mem_filter.mp (List.mem_reverse.mp hx)).1 hl)
  have hv' : ∀ x ∈ (scope.names.filter fun x => (x.2 == .local || x.2 == .cell) && x.1 != (".0" : Str)).reverse.drop 1 ++ (scope.names.filter fun x => (x.2 == .local || x.2 == .cell) && x.1 != (".0" : Str)).reverse.take 1,
      x.2 = .local → Env.kindOf { cenv with scope := relabel scope env } x.1 = some .local := fun x hx hl => by
    rcases List.mem_append.mp hx with h1 | h1
    · exact hv x (List.mem_of_mem_drop h1) hl
    · exact hv x (List.mem_of_mem_take h1) hl
  refine wpAny_holding (wpAny_bind (wpAny_attempt (wpAny_holding (wpAny_run (codeAny_mono h₄ fun r s' hr => ?_)))))
  cases r with
  | ok f =>
    cases use with
    | none =>
      obtain ⟨m, hn, hr⟩ := hr
      exact wpAny_bind (wpAny_holding (wpAny_comp_letGo (cenv := { cenv with scope := relabel scope env }) hkind _ s' m hv hn fun h' m' _ hs' => wpAny_pure (hr h' hs')))
    | some u =>
      refine wpAny_bind (wpAny_rule (wpAny_bind (wpAny_holding (wpAny_mono hr (fun _ s'' hr' => ?_) fun _ _ h' => h'))))
      obtain ⟨m, hn, hr'⟩ := hr'
      exact wpAny_bind (wpAny_comp_letGo (cenv := { cenv with scope := relabel scope env }) hkind _ s'' m hv' hn fun h' m' _ hs' => wpAny_pure (hr' h' hs'))
  | error x =>
    have hr' : ∃ m, s'.heap.Ns cenv.locals m ∧ ∀ h', Heap.SameBut cenv.locals s'.heap h' → ∀ cenv' : Env, cenv'.locals = cenv.locals → cenv'.frame = env.frame → wpAny M A (PySem.passOn "comprehension.variables-let-go" x cenv' : Sem Value) (fun _ _ => False) E { s' with heap := h' } := by cases use <;> exact hr
    obtain ⟨m, hn, hr⟩ := hr'
    exact wpAny_bind (wpAny_holding (wpAny_comp_letGo (cenv := { cenv with scope := relabel scope env }) hkind _ s' m hv hn fun h' m' _ hs' => wpAny_mono (hr h' hs' _ rfl hfr) (fun _ _ f => f.elim) fun _ _ y => y))
end
section
variable {X : Cx}
theorem lc_coreE {pins : List (Addr × Obj)} {s : Shared} {σ : L2.St} {H : Hp} {Q : VK} {E : XK} {elt tg iter : Expr} {ifs : List Expr} {scope : Scope} {own : List (Str × Nat)} {pos pos' : Pos} {wi : TI} {g : TG} {tt : TT} {te : TE} {use : Option (Value → Sem Unit)} {Qf : Value → Shared → Prop}
    (hst : X.stack = X.env :: X.outer) (hfr : X.env.frame = some X.env.locals) (tk : Takes X (XW E))
    (hc : X.calm = true) (hN : X.N.Nodup) (I : Inv X pins σ H s) (hi : PI X tg iter wi) (ok : BlkOk X.N X.env.scope scope own)
    (hg : ∀ (s : Shared) (H : Hp) (C : Addr) (cl : List (Str × Addr)) (fp : List Addr) xe, PG (blkX X s H scope (compEnvC scope cl C X.env) fp xe) tg g) (ht : ∀ (s : Shared) (H : Hp) (C : Addr) (cl : List (Str × Addr)) (fp : List Addr) xe, PTs (blkX X s H scope (compEnvC scope cl C X.env) fp xe) ifs tt)
    (he : ∀ (s : Shared) (H : Hp) (C : Addr) (cl : List (Str × Addr)) (fp : List Addr) xe, Takes (blkX X s H scope (compEnvC scope cl C X.env) fp xe) (XW E) → PE (blkX X s H scope (compEnvC scope cl C X.env) fp xe) elt te) (hs : ∀ x, foldedSetIterable iter X.env x = pure x)
    (h : tLc wi g tt te (own.map (·.2)) σ H Q)
    (hRR : ∀ D C s' m H', Inv X pins σ H' s' → Q (.ref D) H' → s'.heap.Ns C m → FpOk X pins H' C → postE (model X.prog X.w) X.A X.xe use Qf (.ref D) C X.env.frame (.ok .next) s') :
    wpAny (model X.prog X.w) X.A (comprehension (.ListComp elt [⟨tg, iter, ifs, 0⟩] scope pos) scope X.env pos' (newList []) false (eval iter X.env) use) Qf X.xe s := by
  have hfree : ∀ y ∈ scope.names, y.2 = .free → ∃ c, X.env.cells.lookup y.1 = some c := fun y hy e => by
    rcases ok.free y hy e with k | k
    · exact I.ok.has _ (.inl k)
    · exact I.ok.has _ (.inr k)
  refine compE (use := use) rfl hs (closure_ok hfree) ok.kind (fun y hy e => by rw [ok.uniq y hy, e])
    (thn (hi.run pins s σ H _ I h) fun xv s1 hx => thn hx fun itv s2 h2 => ?_)
  obtain ⟨it, fp, tn, J, H2, e, I2, T, st2, f2, q⟩ := h2
  subst e
  refine wpAny_newObj_type (newEnv_comp ⟨rfl, ?_⟩) (by show 0 ≤ sizeLine; decide)
  generalize hD : s2.heap.objs.size = D
  have hDn : H2 D = none := I2.hok.fresh (Nat.le_of_eq hD)
  obtain ⟨W, ⟨m0, w0⟩, turn⟩ := q D hDn
  -- the new list
  generalize hs3 : ({ s2 with heap := s2.heap.push { cls := .type "list", data := .seq ([] : List Value).toArray } } : Shared) = s3
  have I3 : Inv X pins σ (L2.upd H2 D (.lst [])) s3 := by
    rw [← hs3]
    refine I2.laid (t' := s2.toks) (fun b o e => Heap.get?_push_of_some _ e) (Nat.le_of_eq hD) ⟨Nat.zero_le _, [], 0, .nil, ?_⟩
    rw [← hD]
    exact Heap.get?_push_size _ rfl
  have h3 : s3.heap = s2.heap.push { cls := .type "list", data := .seq ([] : List Value).toArray } := by rw [← hs3]
  have sz : ∀ b ∈ fp, b < s2.heap.objs.size := fun b hb => by
    obtain ⟨o, e, _⟩ := T.obj _ _ st2 b hb
    exact Heap.lt_size e
  have f3 : ∀ b ∈ fp, FpOk X pins (L2.upd H2 D (.lst [])) b ∧ b < s3.heap.objs.size := fun b hb => by
    have hlt := sz b hb
    refine ⟨⟨?_, (f2 b hb).2⟩, by rw [h3, Heap.size_push]; exact Nat.lt_succ_of_lt hlt⟩
    rw [upd_ne (by rw [← hD]; exact Nat.ne_of_lt hlt)]
    exact (f2 b hb).1
  have st3 : tn 0 s3.heap := T.keep _ _ _ st2 fun b _ o e => by rw [h3]; exact Heap.get?_push_of_some _ e
  have I4 := block_start I3 ok hN f3
  have pg := hg s3 (L2.upd H2 D (.lst [])) s3.heap.objs.size (cellsFrom (s3.heap.objs.size + 1) scope.names (cloFrom X.env.cells scope.names [])) fp
  have pt := ht s3 (L2.upd H2 D (.lst [])) s3.heap.objs.size (cellsFrom (s3.heap.objs.size + 1) scope.names (cloFrom X.env.cells scope.names [])) fp
  have pe := he s3 (L2.upd H2 D (.lst [])) s3.heap.objs.size (cellsFrom (s3.heap.objs.size + 1) scope.names (cloFrom X.env.cells scope.names [])) fp
  show codeAny _ _ (.compStart (.ListComp elt [⟨tg, iter, ifs, 0⟩] scope pos) 0 (.ref it) (.ref D) (compEnvC scope (cellsFrom (s3.heap.objs.size + 1) scope.names (cloFrom X.env.cells scope.names [])) s3.heap.objs.size X.env)) (postE (model X.prog X.w) X.A X.xe use Qf (.ref D) s3.heap.objs.size X.env.frame) { s3 with heap := pushCells (s3.heap.push { cls := .type "dict", data := .dict #[] }) scope.names }
  have nfp : ∀ b ∈ fp, (L2.upd H2 D (.lst [])) b = none := fun b hb => (f3 b hb).1.1
  generalize hce : compEnvC scope (cellsFrom (s3.heap.objs.size + 1) scope.names (cloFrom X.env.cells scope.names [])) s3.heap.objs.size X.env = ce at I4 pg pt pe ⊢
  have cL : ce.locals = s3.heap.objs.size := by subst hce; rfl
  have cF : ce.frame = X.env.frame := by subst hce; rfl
  generalize hH3 : L2.upd H2 D (.lst []) = H3 at I3 I4 pg pt pe w0 nfp f3
  generalize hs4 : ({ s3 with heap := pushCells (s3.heap.push { cls := .type "dict", data := .dict #[] }) scope.names } : Shared) = s4 at I4 ⊢
  have st4 : tn 0 s4.heap := T.keep _ _ _ st3 fun b _ o e => by rw [← hs4]; exact pushCells_keeps _ _ _ _ (Heap.get?_push_of_some _ e)
  have hR : ∀ u s', postE (model X.prog X.w) X.A X.xe use Qf (.ref D) s3.heap.objs.size X.env.frame (.error u) s' = PostOut X s3.heap.objs.size u s' := fun u s' => by cases use <;> rfl
  obtain ⟨xe, hxe⟩ : ∃ xe : Value → Shared → Prop, xe = notedBy (model X.prog X.w) X.A ce fun e s' => postE (model X.prog X.w) X.A X.xe use Qf (.ref D) s3.heap.objs.size X.env.frame (.error e) s' := ⟨_, rfl⟩
  have tkB : Takes (blkX X s3 H3 scope ce fp xe) (XW E) := fun u s' x => by
    show xe u s'
    rw [hxe]
    show wpAny _ _ (noteFrame u ce) _ _ s'
    exact wpAny_mono (comp_out (E₁ := fun e s' => postE (model X.prog X.w) X.A X.xe use Qf (.ref D) s3.heap.objs.size X.env.frame (.error e) s') hst hfr tk I3 cL cF f3 x) (fun _ s'' z => (Eq.mpr (hR u s'') z)) fun _ _ z => z
  have pg := pg xe
  have pt := pt xe
  have pe := pe xe tkB
  have I4 : Inv (blkX X s3 H3 scope ce fp xe) [] (wipe σ (own.map (·.2))) H3 s4 := blkX_inv I4
  have stat : ∀ {σ' : L2.St} {H' : Hp} {s' : Shared}, Inv (blkX X s3 H3 scope ce fp xe) [] σ' H' s' → (∀ b ∈ fp, H' b = none) → ∀ b ∈ fp, FpOk (blkX X s3 H3 scope ce fp xe) [] H' b := fun {σ' H' s'} I' hn b hb =>
    ⟨hn b hb, (I'.ok.exf b hb).1, I'.ok.exfs b hb, .inl hb, fun x c e => (I'.ok.exf b hb).2 x c e, fun p hp => absurd (show p ∈ ([] : List (Addr × Obj)) ++ [] from hp) (by simp)⟩
  have loop : codeAny (model X.prog X.w) X.A (.compLoop (.ListComp elt [⟨tg, iter, ifs, 0⟩] scope pos) 0 (.ref it) (.ref D) ce) (postE (model X.prog X.w) X.A X.xe use Qf (.ref D) s3.heap.objs.size X.env.frame) s4 := by
    refine compLoop_any (fun n s' => ∃ i H', Inv (blkX X s3 H3 scope ce fp xe) [] (wipe σ (own.map (·.2))) H' s' ∧ tn i s'.heap ∧ (∀ b ∈ fp, H' b = none) ∧ W i n H') ?_ m0 ⟨0, H3, I4, st4, nfp, w0⟩
    rintro n s5 ⟨i, H5, I5, st5, n5, w5⟩
    rw [← hxe]
    rcases turn i n H5 w5 with ⟨stop, qq⟩ | ⟨go, Nx, hNx, step⟩
    · have td := T.done (blkX X s3 H3 scope ce fp xe) rfl rfl rfl hc i [] s5 _ H5 (fun _ _ => False) I5 (stat I5 n5) st5 stop
      refine thnF td fun r s6 ⟨hr, I6⟩ => ?_
      subst hr
      -- back in the def's context
      have I7 : Inv X pins σ H5 s6 := I3.call' (ch := fp) I6.os I6.base I6.hok I6.bare fun b hb => ⟨(f3 b hb).1.2.2.2.1, (f3 b hb).1.2.1, (f3 b hb).1.2.2.2.2.1, (f3 b hb).1.2.2.2.2.2⟩
      have nC : H5 s3.heap.objs.size = none := by
        have z : H5 ce.locals = none := I6.free
        rw [cL] at z
        exact z
      obtain ⟨m, hn, _⟩ := I6.loc
      have hn : s6.heap.Ns ce.locals m := hn
      rw [cL] at hn
      exact hRR D s3.heap.objs.size s6 m H5 I7 qq hn (I3.fpOk (Nat.le_refl _) nC)
    · have ti := T.item (blkX X s3 H3 scope ce fp xe) rfl rfl rfl hc i [] s5 _ H5 (fun _ _ => False) I5 (stat I5 n5) st5 go
      refine thnF ti fun r s6 ⟨u, hr, h6⟩ => ?_
      subst hr
      refine thnF h6 fun _ s7 ⟨x, H7, I7, r7, y7, st7, n7⟩ => ?_
      have I7' := I7.pinned (stat I7 n7) (T.obj _ _ st7)
      refine thn (pg.run _ s7 _ H7 x u _ I7' r7 (step x H7 y7)) fun _ s8 ⟨σ8, H8, I8, hw8, q8⟩ => ?_
      refine thn (pt.run _ s8 σ8 H8 _ I8 q8) fun b s9 ⟨H9, I9, q9⟩ => ?_
      -- the turn's end
      have fin : ∀ {s' : Shared} {H' : Hp}, Inv (blkX X s3 H3 scope ce fp xe) ([] ++ pinsAt fp s7.heap) σ8 H' s' → Nx H' → ∃ m, m < n ∧ ∃ i H', Inv (blkX X s3 H3 scope ce fp xe) [] (wipe σ (own.map (·.2))) H' s' ∧ tn i s'.heap ∧ (∀ b ∈ fp, H' b = none) ∧ W i m H' := fun {s' H'} I' nx => by
        obtain ⟨m', hm, w'⟩ := hNx H' nx
        have pin' : ∀ b ∈ fp, ∀ o, s7.heap.get? b = some o → s'.heap.get? b = some o ∧ H' b = none := fun b hb o e =>
          let z := I'.pin (b, o) (List.mem_append_right _ (List.mem_append_right _ (mem_pinsAt hb e)))
          ⟨z.1, z.2.1⟩
        have hl : (wipe σ (own.map (·.2))).length = σ8.length := by rw [← hw8, wipe_length]
        refine ⟨m', hm, i + 1, H', (I'.unpinned (pins := [])).weak hl (fun j v e => ?_), T.keep _ _ _ st7 fun b hb o e => (pin' b hb o e).1, fun b hb => ?_, w'⟩
        · rw [← hw8] at e
          exact (wipe_some e).1
        · obtain ⟨o, e, _⟩ := T.obj _ _ st7 b hb
          exact (pin' b hb o e).2
      cases b with
      | false =>
        simp only [Bool.false_eq_true, if_false] at q9 ⊢
        exact fin I9 q9
      | true =>
        simp only [if_true] at q9 ⊢
        refine thn (pe.run _ s9 σ8 H9 _ I9 q9) fun z s10 ⟨yv, H10, I10, r10, acc, hD10, hz10, nx⟩ => ?_
        exact app_ok (X := blkX X s3 H3 scope ce fp xe) I10 hD10 hz10 r10 fun s11 I11 => fin I11 nx
  exact codeAny_compStart_list loop (T.self X.A 0 _ _ _ st4 loop)
/-- as a value -/
theorem pe_lcE {E : XK} {elt tg iter : Expr} {ifs : List Expr} {scope : Scope} {own : List (Str × Nat)} {pos : Pos} {wi : TI} {g : TG} {tt : TT} {te : TE} (hst : X.stack = X.env :: X.outer) (hfr : X.env.frame = some X.env.locals) (tk : Takes X (XW E)) (hc : X.calm = true) (hN : X.N.Nodup) (hi : PI X tg iter wi) (ok : BlkOk X.N X.env.scope scope own)
    (hg : ∀ (s : Shared) (H : Hp) (C : Addr) (cl : List (Str × Addr)) (fp : List Addr) xe, PG (blkX X s H scope (compEnvC scope cl C X.env) fp xe) tg g) (ht : ∀ (s : Shared) (H : Hp) (C : Addr) (cl : List (Str × Addr)) (fp : List Addr) xe, PTs (blkX X s H scope (compEnvC scope cl C X.env) fp xe) ifs tt)
    (he : ∀ (s : Shared) (H : Hp) (C : Addr) (cl : List (Str × Addr)) (fp : List Addr) xe, Takes (blkX X s H scope (compEnvC scope cl C X.env) fp xe) (XW E) → PE (blkX X s H scope (compEnvC scope cl C X.env) fp xe) elt te) (hs : ∀ x, foldedSetIterable iter X.env x = pure x := by intro _; rfl) :
    PE X (.ListComp elt [⟨tg, iter, ifs, 0⟩] scope pos) (tLc wi g tt te (own.map (·.2))) := by
  refine ⟨fun pins s σ H Q I h => ?_⟩
  rw [eval_ListComp]
  refine lc_coreE hst hfr tk hc hN I hi ok hg ht he hs h fun D C s' m H' I' q hn f => ⟨m, hn, fun h'' sb => ?_⟩
  obtain ⟨f0, f1, f2, f3, f4, f5⟩ := f
  exact ⟨.ref D, H', I'.turned (t' := s'.toks) (fun b o hb e => (sb.2 b hb).trans e) f0 f1 f3 f4 f5, rfl, q⟩
/-- name = [..] on one line, the name a local -/
theorem ps_setLcE {E : XK} {i : Nat} {y : Str} {py : Pos} {elt tg iter : Expr} {ifs : List Expr} {scope : Scope} {own : List (Str × Nat)} {pos spos : Pos} {wi : TI} {g : TG} {tt : TT} {te : TE} (hst : X.stack = X.env :: X.outer) (hfr : X.env.frame = some X.env.locals) (tk : Takes X (XW E)) (hc : X.calm = true) (hN : X.N.Nodup) (hy : X.N[i]? = some y) (hyl : X.env.scope.names.lookup y = some .local)
    (hsw : swapsWith (.ListComp elt [⟨tg, iter, ifs, 0⟩] scope pos) (some (.Name y py)) spos.line X.env = pure true) (hi : PI X tg iter wi) (ok : BlkOk X.N X.env.scope scope own)
    (hg : ∀ (s : Shared) (H : Hp) (C : Addr) (cl : List (Str × Addr)) (fp : List Addr) xe, PG (blkX X s H scope (compEnvC scope cl C X.env) fp xe) tg g) (ht : ∀ (s : Shared) (H : Hp) (C : Addr) (cl : List (Str × Addr)) (fp : List Addr) xe, PTs (blkX X s H scope (compEnvC scope cl C X.env) fp xe) ifs tt)
    (he : ∀ (s : Shared) (H : Hp) (C : Addr) (cl : List (Str × Addr)) (fp : List Addr) xe, Takes (blkX X s H scope (compEnvC scope cl C X.env) fp xe) (XW E) → PE (blkX X s H scope (compEnvC scope cl C X.env) fp xe) elt te) (hs : ∀ x, foldedSetIterable iter X.env x = pure x := by intro _; rfl) :
    PS X (.Assign [.Name y py] (.ListComp elt [⟨tg, iter, ifs, 0⟩] scope pos) spos) (tAsg (tLc wi g tt te (own.map (·.2))) (gName i)) := by
  refine ⟨fun pins s σ H D I h => ?_⟩
  rw [exec_Assign_Name_used _ _ _ _ hsw]
  refine wpAny_bind (wpAny_standAt (wpAny_bind ?_))
  show wpAny _ X.A (do let _ ← comprehension (.ListComp elt [⟨tg, iter, ifs, 0⟩] scope pos) scope X.env (firstIterPos [⟨tg, iter, ifs, 0⟩] pos) (newList []) false (eval iter X.env) (some (assign (.Name y py) X.env))) _ _ s
  have h : tLc wi g tt te (own.map (·.2)) σ H (fun x H1 => gName i x σ H1 D.nx) := h
  refine wpAny_bind (thn (lc_coreE (Qf := fun _ s' => SP X pins D .next s') hst hfr tk hc hN I hi ok hg ht he hs h fun L C s' m H' I' q hn f => ?_) fun _ s' hq => wpAny_pure (wpAny_pure hq))
  show wpAny _ _ (assign (.Name y py) X.env (.ref L)) _ _ _
  refine wpAny_assign_Name (store_ok2 (v := V.ref L) I' hN hy (.inl hyl) rfl (fun s2 I2 ⟨a, sb, ha⟩ => ?_) (.inr hyl))
  obtain ⟨f0, f1, f2, f3, f4, f5⟩ := f
  have haC : C ≠ a := by
    rcases ha with z | z
    · rw [z]; exact f1
    · exact fun e => f4 y a z e.symm
  refine ⟨m, hn.sameBut sb haC, fun h3 sb3 => ?_⟩
  exact ⟨_, H', I2.turned (t' := s2.toks) (fun b o hb e => (sb3.2 b hb).trans e) f0 f1 f3 f4 f5, q⟩
end
section
variable {J : It} {n : Nat} {G : Hp → Prop} {Y : Nat → Hp → V → Hp → Prop}
/-- a comprehension without a test whose i-th thing is the whole number f i, where B i; what came ahead is known -/
theorem lc_intsP (w : Walk J n G Y) (hY : ∀ i H x H', Y i H x H' → Same H H') {g : TG} {te : TE} {vs : List Nat} {σ : L2.St} {H : Hp} {D : Addr} {Qd : Hp → Prop} (nD : H D = none) (hn : n < sizeLine) (f : Nat → Int) (B : Nat → Prop) (hG : ∀ H', Same H H' → G H')
    (hs : ∀ i x H1 H2 (R : V → Hp → Prop), i < n → (∀ j, j < i → B j) → Same H H1 → Y i H1 x H2 → (B i → ∀ H3, Same H2 H3 → R (.int (f i)) H3) → g x (wipe σ vs) H2 fun σ2 H3 => wipe σ2 vs = wipe σ vs ∧ te σ2 H3 R)
    (hd : ∀ H', (∀ j, j < n → B j) → H' D = some (.lst (((List.range n).map f).map V.int)) → Same H H' → Qd H') :
    ∃ W : Nat → Nat → Hp → Prop, (∃ m, W 0 m (L2.upd H D (.lst []))) ∧ ∀ i m H, W i m H →
      (J.stop i H ∧ Qd H) ∨ (J.go i H ∧ ∃ Nx : Hp → Prop, (∀ H', Nx H' → ∃ m', m' < m ∧ W (i + 1) m' H') ∧ ∀ x H', J.yld i H x H' → g x (wipe σ vs) H' fun σ2 H2 => wipe σ2 vs = wipe σ vs ∧ tYes σ2 H2 fun b H3 =>
        if b = true then te σ2 H3 fun y H4 => ∃ acc, H4 D = some (.lst acc) ∧ acc.length < sizeLine ∧ Nx (L2.upd H4 D (.lst (acc ++ [y]))) else Nx H3) := by
  refine lc_it w (fun i H' => H' D = some (.lst (((List.range i).map f).map V.int)) ∧ Same H H' ∧ ∀ j, j < i → B j) ⟨upd_same, upd_keep nD (Same.refl H), fun j h => absurd h (Nat.not_lt_zero _)⟩ (fun i H' _ ⟨_, s, _⟩ => hG H' s) ?_ (fun H' ⟨e, s, p⟩ => hd H' p e s)
  rintro i x H1 H2 hi ⟨e, s, p⟩ y
  refine hs i x H1 H2 _ hi p s y fun bi H3 s3 => ?_
  have s2 := hY _ _ _ _ y
  have e3 := s3 _ _ (s2 _ _ e)
  refine ⟨_, e3, by rw [List.length_map, List.length_map, List.length_range]; omega, ?_, upd_keep nD (s.trans (s2.trans s3)), fun j hj => ?_⟩
  · rw [upd_same, List.range_succ, List.map_append, List.map_append]
    rfl
  · by_cases z : j = i
    · rw [z]; exact bi
    · exact p j (by omega)
end
end MM
namespace MM
open PySem PySem.Spec PyProof.Rows L2
/-- the text by places -/
def top (i : Nat) : Stmt := PySem.Challenge.pw_meanmoon_k63_days_on_which_wheels_meet.main.body.getD i (.Pass ⟨0, 0, 0, 0⟩)
abbrev s__wall : Stmt := top 0
theorem c__wall : FnScope ["k"] ["k"] (defScope s__wall) := ⟨rfl, rfl, rfl, by decide +kernel, rfl, by decide +kernel, by decide +kernel⟩
theorem b__wall : Bd "_wall" "_wall" s__wall ["k"] := fun _ _ _ _ _ _ us hl => match us, hl with | [_], _ => rfl
abbrev s_NoShare_init : Stmt := inClass (top 2) 0
theorem c_NoShare_init : FnScope ["self", "top"] ["self", "top"] (defScope s_NoShare_init) := ⟨rfl, rfl, rfl, by decide +kernel, rfl, by decide +kernel, by decide +kernel⟩
theorem b_NoShare_init : Bd "__init__" "NoShare.__init__" s_NoShare_init ["self", "top"] := fun _ _ _ _ _ _ us hl => match us, hl with | [_, _], _ => rfl
abbrev s_NoCalendar_init : Stmt := inClass (top 3) 0
theorem c_NoCalendar_init : FnScope ["self", "why"] ["self", "why"] (defScope s_NoCalendar_init) := ⟨rfl, rfl, rfl, by decide +kernel, rfl, by decide +kernel, by decide +kernel⟩
theorem b_NoCalendar_init : Bd "__init__" "NoCalendar.__init__" s_NoCalendar_init ["self", "why"] := fun _ _ _ _ _ _ us hl => match us, hl with | [_, _], _ => rfl
abbrev s_NoDate_init : Stmt := inClass (top 4) 0
theorem c_NoDate_init : FnScope ["self", "date", "why"] ["self", "date", "why"] (defScope s_NoDate_init) := ⟨rfl, rfl, rfl, by decide +kernel, rfl, by decide +kernel, by decide +kernel⟩
theorem b_NoDate_init : Bd "__init__" "NoDate.__init__" s_NoDate_init ["self", "date", "why"] := fun _ _ _ _ _ _ us hl => match us, hl with | [_, _, _], _ => rfl
abbrev s_NoWheel_init : Stmt := inClass (top 5) 0
theorem c_NoWheel_init : FnScope ["self", "names"] ["self", "names"] (defScope s_NoWheel_init) := ⟨rfl, rfl, rfl, by decide +kernel, rfl, by decide +kernel, by decide +kernel⟩
theorem b_NoWheel_init : Bd "__init__" "NoWheel.__init__" s_NoWheel_init ["self", "names"] := fun _ _ _ _ _ _ us hl => match us, hl with | [_, _], _ => rfl
abbrev s_NoName_init : Stmt := inClass (top 6) 0
theorem c_NoName_init : FnScope ["self", "name"] ["self", "name"] (defScope s_NoName_init) := ⟨rfl, rfl, rfl, by decide +kernel, rfl, by decide +kernel, by decide +kernel⟩
theorem b_NoName_init : Bd "__init__" "NoName.__init__" s_NoName_init ["self", "name"] := fun _ _ _ _ _ _ us hl => match us, hl with | [_, _], _ => rfl
abbrev s_NoDay_init : Stmt := inClass (top 7) 0
theorem c_NoDay_init : FnScope ["self", "one", "two"] ["self", "one", "two"] (defScope s_NoDay_init) := ⟨rfl, rfl, rfl, by decide +kernel, rfl, by decide +kernel, by decide +kernel⟩
theorem b_NoDay_init : Bd "__init__" "NoDay.__init__" s_NoDay_init ["self", "one", "two"] := fun _ _ _ _ _ _ us hl => match us, hl with | [_, _, _], _ => rfl
abbrev s_Taken_init : Stmt := inClass (top 8) 0
theorem c_Taken_init : FnScope ["self", "name"] ["self", "name"] (defScope s_Taken_init) := ⟨rfl, rfl, rfl, by decide +kernel, rfl, by decide +kernel, by decide +kernel⟩
theorem b_Taken_init : Bd "__init__" "Taken.__init__" s_Taken_init ["self", "name"] := fun _ _ _ _ _ _ us hl => match us, hl with | [_, _], _ => rfl
abbrev s_NoText_init : Stmt := inClass (top 9) 0
theorem c_NoText_init : FnScope ["self", "at"] ["self", "at"] (defScope s_NoText_init) := ⟨rfl, rfl, rfl, by decide +kernel, rfl, by decide +kernel, by decide +kernel⟩
theorem b_NoText_init : Bd "__init__" "NoText.__init__" s_NoText_init ["self", "at"] := fun _ _ _ _ _ _ us hl => match us, hl with | [_, _], _ => rfl
abbrev s_NoNote_init : Stmt := inClass (top 10) 0
theorem c_NoNote_init : FnScope ["self", "at"] ["self", "at"] (defScope s_NoNote_init) := ⟨rfl, rfl, rfl, by decide +kernel, rfl, by decide +kernel, by decide +kernel⟩
theorem b_NoNote_init : Bd "__init__" "NoNote.__init__" s_NoNote_init ["self", "at"] := fun _ _ _ _ _ _ us hl => match us, hl with | [_, _], _ => rfl
abbrev s_NoDeed_init : Stmt := inClass (top 11) 0
theorem c_NoDeed_init : FnScope ["self"] ["self"] (defScope s_NoDeed_init) := ⟨rfl, rfl, rfl, by decide +kernel, rfl, by decide +kernel, by decide +kernel⟩
theorem b_NoDeed_init : Bd "__init__" "NoDeed.__init__" s_NoDeed_init ["self"] := fun _ _ _ _ _ _ us hl => match us, hl with | [_], _ => rfl
abbrev s_numeral : Stmt := top 14
theorem c_numeral : FnScope ["number", "base", "rest", "signs"] ["number", "base"] (defScope s_numeral) := ⟨rfl, rfl, rfl, by decide +kernel, rfl, by decide +kernel, by decide +kernel⟩
abbrev s_common_divisor : Stmt := top 16
theorem c_common_divisor : FnScope ["one", "two"] ["one", "two"] (defScope s_common_divisor) := ⟨rfl, rfl, rfl, by decide +kernel, rfl, by decide +kernel, by decide +kernel⟩
theorem b_common_divisor : Bd "common_divisor" "common_divisor" s_common_divisor ["one", "two"] := fun _ _ _ _ _ _ us hl => match us, hl with | [_, _], _ => rfl
abbrev s_common_multiple : Stmt := top 17
theorem c_common_multiple : FnScope ["one", "two"] ["one", "two"] (defScope s_common_multiple) := ⟨rfl, rfl, rfl, by decide +kernel, rfl, by decide +kernel, by decide +kernel⟩
theorem b_common_multiple : Bd "common_multiple" "common_multiple" s_common_multiple ["one", "two"] := fun _ _ _ _ _ _ us hl => match us, hl with | [_, _], _ => rfl
abbrev s_Wheel_init : Stmt := inClass (top 19) 0
theorem c_Wheel_init : FnScope ["self", "names", "first"] ["self", "names", "first"] (defScope s_Wheel_init) := ⟨rfl, rfl, rfl, by decide +kernel, rfl, by decide +kernel, by decide +kernel⟩
abbrev s_Wheel_name_on : Stmt := inClass (top 19) 1
theorem c_Wheel_name_on : FnScope ["self", "day"] ["self", "day"] (defScope s_Wheel_name_on) := ⟨rfl, rfl, rfl, by decide +kernel, rfl, by decide +kernel, by decide +kernel⟩
theorem b_Wheel_name_on : Bd "name_on" "Wheel.name_on" s_Wheel_name_on ["self", "day"] := fun _ _ _ _ _ _ us hl => match us, hl with | [_, _], _ => rfl
abbrev s_Wheel_next_named : Stmt := inClass (top 19) 2
theorem c_Wheel_next_named : FnScope ["self", "day", "name"] ["self", "day", "name"] (defScope s_Wheel_next_named) := ⟨rfl, rfl, rfl, by decide +kernel, rfl, by decide +kernel, by decide +kernel⟩
theorem b_Wheel_next_named : Bd "next_named" "Wheel.next_named" s_Wheel_next_named ["self", "day", "name"] := fun _ _ _ _ _ _ us hl => match us, hl with | [_, _, _], _ => rfl
abbrev s_Wheel_len : Stmt := inClass (top 19) 3
theorem c_Wheel_len : FnScope ["self"] ["self"] (defScope s_Wheel_len) := ⟨rfl, rfl, rfl, by decide +kernel, rfl, by decide +kernel, by decide +kernel⟩
theorem b_Wheel_len : Bd "__len__" "Wheel.__len__" s_Wheel_len ["self"] := fun _ _ _ _ _ _ us hl => match us, hl with | [_], _ => rfl
abbrev s_Wheel_eq : Stmt := inClass (top 19) 4
theorem c_Wheel_eq : FnScope ["self", "other"] ["self", "other"] (defScope s_Wheel_eq) := ⟨rfl, rfl, rfl, by decide +kernel, rfl, by decide +kernel, by decide +kernel⟩
theorem b_Wheel_eq : Bd "__eq__" "Wheel.__eq__" s_Wheel_eq ["self", "other"] := fun _ _ _ _ _ _ us hl => match us, hl with | [_, _], _ => rfl
abbrev s_Wheel_str : Stmt := inClass (top 19) 5
theorem c_Wheel_str : FnScope ["self"] ["self"] (defScope s_Wheel_str) := ⟨rfl, rfl, rfl, by decide +kernel, rfl, by decide +kernel, by decide +kernel⟩
theorem b_Wheel_str : Bd "__str__" "Wheel.__str__" s_Wheel_str ["self"] := fun _ _ _ _ _ _ us hl => match us, hl with | [_], _ => rfl
abbrev s_Wheel_repr : Stmt := inClass (top 19) 6
theorem c_Wheel_repr : FnScope ["self"] ["self"] (defScope s_Wheel_repr) := ⟨rfl, rfl, rfl, by decide +kernel, rfl, by decide +kernel, by decide +kernel⟩
theorem b_Wheel_repr : Bd "__repr__" "Wheel.__repr__" s_Wheel_repr ["self"] := fun _ _ _ _ _ _ us hl => match us, hl with | [_], _ => rfl
abbrev s_names_from_nought : Stmt := top 20
theorem c_names_from_nought : FnScope ["wheel", "at"] ["wheel"] (defScope s_names_from_nought) := ⟨rfl, rfl, rfl, by decide +kernel, rfl, by decide +kernel, by decide +kernel⟩
theorem b_names_from_nought : Bd "names_from_nought" "names_from_nought" s_names_from_nought ["wheel"] := fun _ _ _ _ _ _ us hl => match us, hl with | [_], _ => rfl
abbrev s_named_day : Stmt := top 21
theorem c_named_day : FnScope ["wheel", "name"] ["wheel", "name"] (defScope s_named_day) := ⟨rfl, rfl, rfl, by decide +kernel, rfl, by decide +kernel, by decide +kernel⟩
theorem b_named_day : Bd "named_day" "named_day" s_named_day ["wheel", "name"] := fun _ _ _ _ _ _ us hl => match us, hl with | [_, _], _ => rfl
abbrev s_first_alike : Stmt := top 22
theorem c_first_alike : FnScope ["day", "step", "after"] ["day", "step", "after"] (defScope s_first_alike) := ⟨rfl, rfl, rfl, by decide +kernel, rfl, by decide +kernel, by decide +kernel⟩
theorem b_first_alike : Bd "first_alike" "first_alike" s_first_alike ["day", "step", "after"] := fun _ _ _ _ _ _ us hl => match us, hl with | [_, _, _], _ => rfl
abbrev s_meet : Stmt := top 23
theorem c_meet : FnScope ["wheels", "wants", "after", "days", "day", "step", "wheel", "wished", "name"] ["wheels", "wants", "after"] (defScope s_meet) := ⟨rfl, rfl, rfl, by decide +kernel, rfl, by decide +kernel, by decide +kernel⟩
abbrev s_refuse_apart : Stmt := top 24
theorem c_refuse_apart : FnScope ["wheels", "days", "one", "two"] ["wheels", "days"] (defScope s_refuse_apart) := ⟨rfl, rfl, rfl, by decide +kernel, rfl, by decide +kernel, by decide +kernel⟩
theorem b_refuse_apart : Bd "refuse_apart" "refuse_apart" s_refuse_apart ["wheels", "days"] := fun _ _ _ _ _ _ us hl => match us, hl with | [_, _], _ => rfl
abbrev s_meeting_day : Stmt := top 25
theorem c_meeting_day : FnScope ["one", "one_step", "two", "two_step", "common", "rest"] ["one", "one_step", "two", "two_step"] (defScope s_meeting_day) := ⟨rfl, rfl, rfl, by decide +kernel, rfl, by decide +kernel, by decide +kernel⟩
theorem b_meeting_day : Bd "meeting_day" "meeting_day" s_meeting_day ["one", "one_step", "two", "two_step"] := fun _ _ _ _ _ _ us hl => match us, hl with | [_, _, _, _], _ => rfl
abbrev s_inverse : Stmt := top 26
theorem c_inverse : FnScope ["number", "modulus", "one", "two", "one_times", "two_times", "part"] ["number", "modulus"] (defScope s_inverse) := ⟨rfl, rfl, rfl, by decide +kernel, rfl, by decide +kernel, by decide +kernel⟩
theorem b_inverse : Bd "inverse" "inverse" s_inverse ["number", "modulus"] := fun _ _ _ _ _ _ us hl => match us, hl with | [_, _], _ => rfl
abbrev s_meet_round : Stmt := top 27
theorem c_meet_round : FnScope ["wheels", "days", "wheel"] ["wheels"] (defScope s_meet_round) := ⟨rfl, rfl, rfl, by decide +kernel, rfl, by decide +kernel, by decide +kernel⟩
theorem b_meet_round : Bd "meet_round" "meet_round" s_meet_round ["wheels"] := fun _ _ _ _ _ _ us hl => match us, hl with | [_], _ => rfl
abbrev s_l_draws : Stmt := top 29
theorem c_l_draws : FnScope ["_law_cell", "_law_cut", "_law_k"] ["_law_cell"] (defScope s_l_draws) := ⟨rfl, rfl, rfl, by decide +kernel, rfl, by decide +kernel, by decide +kernel⟩
theorem b_l_draws : Bd "_law_draws" "_law_draws" s_l_draws ["_law_cell"] := fun _ _ _ _ _ _ us hl => match us, hl with | [_], _ => rfl
abbrev s_l_next : Stmt := top 30
theorem c_l_next : FnScope ["_law_draws_here", "_law_k", "_law_number"] ["_law_draws_here"] (defScope s_l_next) := ⟨rfl, rfl, rfl, by decide +kernel, rfl, by decide +kernel, by decide +kernel⟩
theorem b_l_next : Bd "_law_next" "_law_next" s_l_next ["_law_draws_here"] := fun _ _ _ _ _ _ us hl => match us, hl with | [_], _ => rfl
abbrev s_l_whole : Stmt := top 31
theorem c_l_whole : FnScope ["_law_told"] ["_law_told"] (defScope s_l_whole) := ⟨rfl, rfl, rfl, by decide +kernel, rfl, by decide +kernel, by decide +kernel⟩
theorem b_l_whole : Bd "_law_whole" "_law_whole" s_l_whole ["_law_told"] := fun _ _ _ _ _ _ us hl => match us, hl with | [_], _ => rfl
abbrev s_l_far : Stmt := top 32
theorem c_l_far : FnScope ["_law_draws_here", "_law_pick"] ["_law_draws_here"] (defScope s_l_far) := ⟨rfl, rfl, rfl, by decide +kernel, rfl, by decide +kernel, by decide +kernel⟩
theorem b_l_far : Bd "_law_far" "_law_far" s_l_far ["_law_draws_here"] := fun _ _ _ _ _ _ us hl => match us, hl with | [_], _ => rfl
abbrev s_l_day : Stmt := top 33
theorem c_l_day : FnScope ["_law_draws_here", "_law_pick", "_law_some"] ["_law_draws_here"] (defScope s_l_day) := ⟨rfl, rfl, rfl, by decide +kernel, rfl, by decide +kernel, by decide +kernel⟩
theorem b_l_day : Bd "_law_day" "_law_day" s_l_day ["_law_draws_here"] := fun _ _ _ _ _ _ us hl => match us, hl with | [_], _ => rfl
abbrev s_l_kinds : Stmt := top 34
theorem c_l_kinds : FnScope ["_law_kept", "_law_told"] ["_law_kept"] (defScope s_l_kinds) := ⟨rfl, rfl, rfl, by decide +kernel, rfl, by decide +kernel, by decide +kernel⟩
theorem b_l_kinds : Bd "_law_kinds" "_law_kinds" s_l_kinds ["_law_kept"] := fun _ _ _ _ _ _ us hl => match us, hl with | [_], _ => rfl
abbrev s_l_round : Stmt := top 35
theorem c_l_round : FnScope ["_law_sizes_here", "_law_many", "_law_size", "_law_count"] ["_law_sizes_here"] (defScope s_l_round) := ⟨rfl, rfl, rfl, by decide +kernel, rfl, by decide +kernel, by decide +kernel⟩
theorem b_l_round : Bd "_law_round" "_law_round" s_l_round ["_law_sizes_here"] := fun _ _ _ _ _ _ us hl => match us, hl with | [_], _ => rfl
abbrev s_l_sizes : Stmt := top 36
theorem c_l_sizes : FnScope ["_law_draws_here", "_law_sizes_here", "_law_k", "_law_size"] ["_law_draws_here"] (defScope s_l_sizes) := ⟨rfl, rfl, rfl, by decide +kernel, rfl, by decide +kernel, by decide +kernel⟩
theorem b_l_sizes : Bd "_law_sizes" "_law_sizes" s_l_sizes ["_law_draws_here"] := fun _ _ _ _ _ _ us hl => match us, hl with | [_], _ => rfl
abbrev s_l_met : Stmt := top 37
theorem c_l_met : FnScope ["_law_a_wheels", "_law_a_wants", "_law_day_here", "_law_names", "_law_first", "_law_want"] ["_law_a_wheels", "_law_a_wants", "_law_day_here"] (defScope s_l_met) := ⟨rfl, rfl, rfl, by decide +kernel, rfl, by decide +kernel, by decide +kernel⟩
theorem b_l_met : Bd "_law_met" "_law_met" s_l_met ["_law_a_wheels", "_law_a_wants", "_law_day_here"] := fun _ _ _ _ _ _ us hl => match us, hl with | [_, _, _], _ => rfl
abbrev s_l_first_met : Stmt := top 38
theorem c_l_first_met : FnScope ["_law_a_wheels", "_law_a_wants", "_law_a_after", "_law_day_here", "_law_names", "_law_first"] ["_law_a_wheels", "_law_a_wants", "_law_a_after"] (defScope s_l_first_met) := ⟨rfl, rfl, rfl, by decide +kernel, rfl, by decide +kernel, by decide +kernel⟩
theorem b_l_first_met : Bd "_law_first_met" "_law_first_met" s_l_first_met ["_law_a_wheels", "_law_a_wants", "_law_a_after"] := fun _ _ _ _ _ _ us hl => match us, hl with | [_, _, _], _ => rfl
abbrev s_l_due : Stmt := top 39
theorem c_l_due : FnScope ["_law_a_wheels", "_law_a_wants", "_law_a_after", "_law_names", "_law_first", "_law_want", "_law_one", "_law_two", "_law_both"] ["_law_a_wheels", "_law_a_wants", "_law_a_after"] (defScope s_l_due) := ⟨rfl, rfl, rfl, by decide +kernel, rfl, by decide +kernel, by decide +kernel⟩
theorem b_l_due : Bd "_law_due" "_law_due" s_l_due ["_law_a_wheels", "_law_a_wants", "_law_a_after"] := fun _ _ _ _ _ _ us hl => match us, hl with | [_, _, _], _ => rfl
abbrev s_l_asked : Stmt := top 40
theorem c_l_asked : FnScope ["_law_made", "_law_a_wants", "_law_a_after", "_law_way", "_law_kept", "_law_told", "e", "_law_sorts"] ["_law_made", "_law_a_wants", "_law_a_after", "_law_way"] (defScope s_l_asked) := ⟨rfl, rfl, rfl, by decide +kernel, rfl, by decide +kernel, by decide +kernel⟩
theorem b_l_asked : Bd "_law_asked" "_law_asked" s_l_asked ["_law_made", "_law_a_wants", "_law_a_after", "_law_way"] := fun _ _ _ _ _ _ us hl => match us, hl with | [_, _, _, _], _ => rfl
abbrev s_l_right : Stmt := top 41
theorem c_l_right : FnScope ["_law_draws_here", "_law_a_wheels", "_law_a_wants", "_law_size", "_law_names", "_law_first", "_law_pick", "_law_day_here", "_law_made", "_law_handed", "_law_a_after", "_law_due_here", "_law_way", "_law_told", "_law_k", "_law_wheel"] ["_law_draws_here"] (defScope s_l_right) := ⟨rfl, rfl, rfl, by decide +kernel, rfl, by decide +kernel, by decide +kernel⟩
theorem b_l_right : Bd "_law_right" "_law_right" s_l_right ["_law_draws_here"] := fun _ _ _ _ _ _ us hl => match us, hl with | [_], _ => rfl
abbrev s_law : Stmt := top 42
theorem c_law : FnScope ["_law_script", "_law_cell"] ["_law_script"] (defScope s_law) := ⟨rfl, rfl, rfl, by decide +kernel, rfl, by decide +kernel, by decide +kernel⟩
theorem b_law : Bd "law" "law" s_law ["_law_script"] := fun _ _ _ _ _ _ us hl => match us, hl with | [_], _ => rfl
/-! ### the greatest common divisor -/
def spGcd : Sp := fun vs H Q _ => ∃ a b : Int, vs = [.int a, .int b] ∧ Q (.int (Int.gcd a b)) H
def mu2 (i : Nat) : L2.St → Hp → Nat := fun σ _ => match σ[i]? with
  | some (some (.int b)) => b.natAbs
  | _ => 0
theorem abs_gcd {a : Int} (c : Int) (h : Int.gcd a 0 = c) : (if a < 0 then -a else a) = c := by
  rw [Int.gcd_zero_right] at h
  split <;> omega
section
variable {P : Program} {w : World} {K : PySem.W.Frag} {mg : Str → Option Value} {base : Heap}
theorem ok_gcd (D : Df K mg "common_divisor" s_common_divisor []) (hab : mg "abs" = none) : Ca P w K mg base CX0 1 "common_divisor" s_common_divisor [] ["one", "two"] spGcd := by
  refine ca0 (k := 0) D c_common_divisor (fun vs H Q E h => ?_) fun f cdv A outer s H vs Q E hr h => ?_
  · obtain ⟨a, b, rfl, _⟩ := h
    rfl
  · obtain ⟨a, b, rfl, q⟩ := h
    refine ⟨_, pss_cons (ps_while PassesOwn.never (pt_cmpR op_ne (pv 1) pe_int (nomark _)) (pss_one (ps_par (i := 0) (j := 1) rfl c_common_divisor.nd rfl rfl (by decide) rfl rfl (pa_cons (pv 1) (pa_cons (pe_op op_modN (pv 0) (pv 1)) pa_nil)) rfl)))
      (pss_one (ps_ret (pe_callB call_abs rfl hab (by decide +kernel) (pa_cons (pv 0) pa_nil)))), ?_⟩
    refine while_by (fun σ H' => ∃ a' b' : Int, σ = [some (.int a'), some (.int b')] ∧ Int.gcd a' b' = Int.gcd a b ∧ H' = H) (mu2 1) ⟨a, b, rfl, rfl, rfl⟩ ?_ (fun σ H' R R' hq ⟨v, h1, h2, k, h3, h4⟩ => ⟨v, h1, h2, k, h3, hq _ _ h4⟩)
    rintro σ H' ⟨a', b', rfl, hg, rfl⟩
    refine ⟨_, rfl, rfl, _, rfl, ?_⟩
    by_cases hb : b' = 0
    · subst hb
      refine iteF ?_
      refine ⟨_, rfl, a', rfl, ?_⟩
      rw [abs_gcd _ (congrArg _ hg)]
      exact q
    · rw [show (!decide (V.int b' = V.int 0)) = true by simpa using hb]
      refine iteT ?_
      refine ⟨_, rfl, _, rfl, _, rfl, _, _, rfl, rfl, hb, _, _, rfl, ⟨b', a'.fmod b', rfl, ?_, rfl⟩, ?_⟩
      · rw [gcd_fmod]
        exact hg
      · exact fmod_lt a' hb
end
/-! ### the law's draws -/
theorem md {j : Int} (h : 0 < j := by decide) : 0 < j := h
/-- at l stand draws, of which at most n were taken -/
def Dr (H : Hp) (l : Addr) (n : Nat) : Prop := ∃ (d k : Int) (f : Bool), H l = some (.lst [.int d, .int k, .bl f]) ∧ 0 ≤ k ∧ k ≤ n
/-- all but what stands at l is as it was -/
def But (l : Addr) (H H' : Hp) : Prop := ∀ b o, b ≠ l → H b = some o → H' b = some o
theorem But.refl {l : Addr} {H : Hp} : But l H H := fun _ _ _ h => h
theorem But.trans {l : Addr} {H H1 H2 : Hp} (a : But l H H1) (b : But l H1 H2) : But l H H2 := fun c o hc h => b c o hc (a c o hc h)
theorem But.same {l : Addr} {H H1 : Hp} (a : Same H H1) : But l H H1 := fun c o _ h => a c o h
theorem But.upd {l : Addr} {H H1 : Hp} {p : Addr} {o : HO} (a : But l H H1) (h : H1 p = none) : But l H (upd H1 p o) := fun c u hc e => by
  rw [upd_ne (ne_of_none (a c u hc e) h)]
  exact a c u hc e
theorem But.tup {l p : Addr} {H H1 : Hp} {n : Nat} {xs : List V} (a : But l H H1) (d : Dr H l n) (h : H p = some (.tup xs)) : H1 p = some (.tup xs) := by
  obtain ⟨_, _, _, hl, _⟩ := d
  exact a _ _ (ne_of h hl (by intro z; cases z)) h
theorem But.ins {l p C dx : Addr} {H H1 : Hp} {n : Nat} {fs : List (Str × V)} (a : But l H H1) (d : Dr H l n) (h : H p = some (.ins C dx fs)) : H1 p = some (.ins C dx fs) := by
  obtain ⟨_, _, _, hl, _⟩ := d
  exact a _ _ (ne_of h hl (by intro z; cases z)) h
theorem Same.upd {H H1 : Hp} {p : Addr} {o : HO} (a : Same H H1) (h : H1 p = none) : Same H (upd H1 p o) := fun c u e => by
  rw [upd_ne (ne_of_none (a c u e) h)]
  exact a c u e
theorem Same.new {H : Hp} {p : Addr} {o : HO} (h : H p = none) : Same H (L2.upd H p o) := Same.upd (Same.refl H) h
theorem Dr.same {H H1 : Hp} {l : Addr} {n m : Nat} (d : Dr H l n) (s : Same H H1) (h : n ≤ m) : Dr H1 l m := by
  obtain ⟨d, k, f, hl, h1, h2⟩ := d
  exact ⟨d, k, f, s _ _ hl, h1, by omega⟩
theorem Dr.mono {H : Hp} {l : Addr} {n m : Nat} (d : Dr H l n) (h : n ≤ m) : Dr H l m := d.same (Same.refl H) h
theorem Dr.new {H : Hp} {l p : Addr} {n : Nat} {o : HO} (d : Dr H l n) (h : H p = none) : Dr (L2.upd H p o) l n := d.same (Same.new h) (Nat.le_refl _)
def spDraws : Sp := fun vs H Q _ => ∃ c : Int, vs = [.int c] ∧ ∀ p H', H p = none → Same H H' → Dr H' p 0 → Q (.ref p) H'
def spNext : Sp := fun vs H Q _ => ∃ (l : Addr) (n : Nat), vs = [.ref l] ∧ Dr H l n ∧ n ≤ 1000000 ∧ ∀ v H', 0 ≤ v → v < 306783369 → But l H H' → Dr H' l (n + 1) → Q (.int v) H'
section
variable {P : Program} {w : World} {K : PySem.W.Frag} {mg : Str → Option Value} {base : Heap}
theorem ok_draws (D : Df K mg "_law_draws" s_l_draws []) (hra : mg "range" = none) : Ca P w K mg base CX0 1 "_law_draws" s_l_draws [] ["_law_cell"] spDraws := by
  refine ca0 (k := 0) D c_l_draws (fun vs H Q E h => ?_) fun f cdv A outer s H vs Q E hr h => ?_
  · obtain ⟨c, rfl, _⟩ := h
    rfl
  · obtain ⟨c, rfl, q⟩ := h
    refine ⟨_, pss_cons (ps_set (i := 1) c_l_draws.nd rfl (.inl rfl) (pe_op op_pow pe_int pe_int))
      (pss_cons (ps_for PassesOwn.never rfl (pi_range1 rfl hra (pa_cons pe_int pa_nil)) (pg_name (i := 2) c_l_draws.nd rfl (.inl rfl)) (pss_one (ps_set (i := 1) c_l_draws.nd rfl (.inl rfl) (pe_op op_mulA (pv 1) (pv 1)))))
      (pss_one (ps_ret (pe_lst (pa_cons (pe_op op_mod (pv 0) (pv 1)) (pa_cons pe_int (pa_cons (pe_cmpR op_ge (pv 0) (pe_op op_pow pe_int pe_int) (nomark _)) pa_nil))))))), ?_⟩
    refine ⟨_, _, rfl, rfl, ⟨by decide, by decide, by decide⟩, 7, rfl, by decide, by decide, ?_⟩
    refine for_range (n := 7) (fun i σ H' => ∃ (z : Int) (v : Option V), σ = [some (.int c), some (.int z), v] ∧ 0 < z ∧ Sz (200 * 2 ^ i) z ∧ H' = H) ⟨_, _, rfl, by decide, (by show (10 ^ 60 : Int).natAbs < 2 ^ (200 * 2 ^ 0); decide), rfl⟩ ?_ ?_
    · rintro i σ H' hi ⟨z, v, rfl, h0, hz, rfl⟩
      have l1 : 2 ^ i ≤ 2 ^ 6 := Nat.pow_le_pow_right (by decide) (by omega)
      have hz' : Sz 100000 z := hz.mono (Nat.le_trans (Nat.mul_le_mul_left 200 l1) (by decide))
      refine ⟨_, rfl, _, rfl, _, _, rfl, rfl, ⟨hz', hz'⟩, ⟨z * z, _, rfl, Int.mul_pos h0 h0, ?_, rfl⟩⟩
      exact (hz.mul hz).mono (by rw [Nat.pow_succ]; omega)
    · rintro σ H' ⟨z, v, rfl, h0, hz, rfl⟩
      refine ⟨_, rfl, _, rfl, _, _, rfl, rfl, h0, _, rfl, _, _, rfl, rfl, ⟨by decide, by decide, by decide⟩, _, _, rfl, rfl, (by show 3 ≤ sizeLine; decide), fun p hp => ?_⟩
      exact q p _ hp (Same.new hp) ⟨_, _, _, upd_same, by decide, by decide⟩
end
section
variable {P : Program} {w : World} {K : PySem.W.Frag} {mg : Str → Option Value} {base : Heap}
theorem ok_next (D : Df K mg "_law_next" s_l_next []) : Ca P w K mg base CX0 1 "_law_next" s_l_next [] ["_law_draws_here"] spNext := by
  refine ca0 (k := 0) D c_l_next (fun vs H Q E h => ?_) fun f cdv A outer s H vs Q E hr h => ?_
  · obtain ⟨l, n, rfl, _⟩ := h
    rfl
  · obtain ⟨l, n, rfl, ⟨d, k, fl, hl, k0, k1⟩, hn, q⟩ := h
    refine ⟨_, pss_cons (ps_asg (pe_op op_add (pe_ix ix_list (pv 0) pe_int (fun _ _ => rfl)) pe_int) (pg_sub (pv 0) pe_int set_list))
      (pss_cons (ps_set (i := 1) c_l_next.nd rfl (.inl rfl) (pe_ix ix_list (pv 0) pe_int (fun _ _ => rfl)))
      (pss_cons (ps_if (pt_val (pe_ix ix_list (pv 0) pe_int (fun _ _ => rfl)))
        (pss_cons (ps_set (i := 2) c_l_next.nd rfl (.inl rfl) (pe_op op_mod (pe_ix ix_list (pv 0) pe_int (fun _ _ => rfl)) (pe_op op_pow pe_int pe_int)))
        (pss_cons (ps_asg (pe_op op_fdiv (pe_ix ix_list (pv 0) pe_int (fun _ _ => rfl)) (pe_op op_pow pe_int pe_int)) (pg_sub (pv 0) pe_int set_list))
        (pss_one (ps_ret (pv 2))))) pss_nil)
      (pss_cons (ps_set (i := 2) c_l_next.nd rfl (.inl rfl) (pe_op op_mod (pe_op op_mul (pe_op op_add (pe_op op_add (pe_op op_mod (pe_ix ix_list (pv 0) pe_int (fun _ _ => rfl)) pe_int) (pe_op op_mul (pe_op op_mul (pv 1) (pv 1)) pe_int)) (pv 1)) pe_int) pe_int))
      (pss_cons (ps_set (i := 2) c_l_next.nd rfl (.inl rfl) (pe_op op_mod (pe_op op_mul (pv 2) (pv 2)) pe_int))
      (pss_one (ps_ret (pe_op op_fdiv (pe_op op_mod (pe_op op_mul (pv 2) (pe_op op_add (pv 2) pe_int)) pe_int) pe_int))))))), ?_⟩
    refine ⟨_, rfl, l, _, _, _, rfl, rfl, SqL.of hl, rfl, _, _, rfl, rfl, _, rfl, l, _, _, _, rfl, rfl, hl, rfl, ?_⟩
    refine ⟨_, rfl, l, _, _, _, rfl, rfl, SqL.of upd_same, rfl, ?_⟩
    refine ⟨_, rfl, l, _, _, _, rfl, rfl, SqL.of upd_same, rfl, _, rfl, ?_⟩
    cases fl with
    | true =>
      refine iteT ?_
      refine ⟨_, rfl, l, _, _, _, rfl, rfl, SqL.of upd_same, rfl, _, _, rfl, rfl, ⟨by decide, by decide, by decide⟩, _, _, rfl, rfl, md, ?_⟩
      refine ⟨_, rfl, l, _, _, _, rfl, rfl, SqL.of upd_same, rfl, _, _, rfl, rfl, ⟨by decide, by decide, by decide⟩, _, _, rfl, rfl, ⟨by decide, by decide⟩, _, rfl, l, _, _, _, rfl, rfl, upd_same, rfl, ?_⟩
      refine ⟨_, rfl, ?_⟩
      have h1 := Int.emod_nonneg d (show (1000000 : Int) ≠ 0 by decide)
      have h2 := Int.emod_lt_of_pos d (show (0 : Int) < 1000000 by decide)
      refine q (d % 1000000) _ h1 (by omega) (fun b o hb e => ?_) ⟨_, _, _, upd_same, by omega, by omega⟩
      rw [upd_ne hb, upd_ne hb]
      exact e
    | false =>
      refine iteF ?_
      have g1 := Int.emod_nonneg ((d % 1000003 + (k + 1) * (k + 1) * 7919 + (k + 1)) * 48271) (show (2147483629 : Int) ≠ 0 by decide)
      have g2 := Int.emod_lt_of_pos ((d % 1000003 + (k + 1) * (k + 1) * 7919 + (k + 1)) * 48271) (show (0 : Int) < 2147483629 by decide)
      refine ⟨_, rfl, l, _, _, _, rfl, rfl, SqL.of upd_same, rfl, _, _, rfl, rfl, md, _, rfl, _, rfl, _, _, rfl, rfl, .inl ⟨by omega, by omega⟩, _, _, rfl, rfl, .inr ⟨by decide, by decide⟩, _, _, rfl, rfl, _, rfl, _, _, rfl, rfl, _, _, rfl, rfl, .inr ⟨by decide, by decide⟩, _, _, rfl, rfl, md, ?_⟩
      refine ⟨_, rfl, _, rfl, _, _, rfl, rfl, .inl ⟨Int.lt_of_lt_of_le (by decide) g1, Int.lt_trans g2 (by decide)⟩, _, _, rfl, rfl, md, ?_⟩
      generalize hz : ((d % 1000003 + (k + 1) * (k + 1) * 7919 + (k + 1)) * 48271 % 2147483629) * ((d % 1000003 + (k + 1) * (k + 1) * 7919 + (k + 1)) * 48271 % 2147483629) = z
      have i1 := Int.emod_nonneg z (show (2147483587 : Int) ≠ 0 by decide)
      have i2 := Int.emod_lt_of_pos z (show (0 : Int) < 2147483587 by decide)
      refine ⟨_, rfl, _, rfl, _, _, rfl, rfl, _, _, rfl, rfl, .inl ⟨Int.lt_of_lt_of_le (by decide) i1, Int.lt_trans i2 (by decide)⟩, _, _, rfl, rfl, md, _, _, rfl, rfl, ⟨by decide, by decide⟩, ?_⟩
      have j1 := Int.emod_nonneg (z % 2147483587 * (z % 2147483587 + 2)) (show (2147483579 : Int) ≠ 0 by decide)
      have j2 := Int.emod_lt_of_pos (z % 2147483587 * (z % 2147483587 + 2)) (show (0 : Int) < 2147483579 by decide)
      refine q (z % 2147483587 * (z % 2147483587 + 2) % 2147483579 / 7) _ (by omega) (by omega) (fun b o hb e => ?_) ⟨_, _, _, upd_same, by omega, by omega⟩
      rw [upd_ne hb]
      exact e
end
/-! ### the __init__ of own errors -/
/-- a def of a class that is an exception's -/
structure Dx (K : PySem.W.Frag) (C : Addr) (qual : Str) (st : Stmt) : Prop where
  ex : ∃ (f : Addr) (fd : FuncData), FunD K "__init__" qual (defArgs st) (defBody st) (defScope st) [] [] f fd ∧ PySem.W.findIn K (.ref C) "__init__" = some (some (.ref f)) ∧ PySem.W.typeIn K (.ref f) = some (.type "function")
structure Cx1 (P : Program) (w : World) (K : PySem.W.Frag) (mg : Str → Option Value) (base : Heap) (k : Nat) (C : Addr) (qual : Str) (st : Stmt) (ps : List Str) (sp : Sp) : Prop where
  ex : ∃ (f : Addr) (fd : FuncData), FunD K "__init__" qual (defArgs st) (defBody st) (defScope st) [] [] f fd ∧ PySem.W.findIn K (.ref C) "__init__" = some (some (.ref f)) ∧ PySem.W.typeIn K (.ref f) = some (.type "function") ∧ FnOk P w K mg base CX0 k f fd ps sp
theorem str_app_len (a b : Str) : (a ++ b).length = a.length + b.length := by
  show (a.cps ++ b.cps).size = a.cps.size + b.cps.size
  exact Array.size_append
/-! ### Wheel, its names a tuple that is known to the object -/
structure WhT (K : PySem.W.Frag) (C : Addr) : Prop where
  cl : Cls K C
  n1 : NoAttr K C "names"
  n2 : NoAttr K C "first"
def wfs (t : Addr) (i : Int) : List (Str × V) := putF "first" (.int i) (putF "names" (.ref t) [])
theorem nf_ : ¬ (("names" : Str) = "first") := by decide +kernel
theorem wf_names (t : Addr) (i : Int) : (wfs t i).lookup ("names" : Str) = some (.ref t) := by
  unfold wfs
  rw [lookup_putF, if_neg nf_, lookup_putF, if_pos rfl]
theorem wf_first (t : Addr) (i : Int) : (wfs t i).lookup ("first" : Str) = some (.int i) := by
  unfold wfs
  rw [lookup_putF, if_pos rfl]
theorem wf_no (t : Addr) (i : Int) {x : Str} (h1 : ¬ (x = ("first" : Str))) (h2 : ¬ (x = ("names" : Str))) : (wfs t i).lookup x = none := by
  unfold wfs
  rw [lookup_putF, if_neg h1, lookup_putF, if_neg h2]
  rfl
/-- names, and the day that the first of them has -/
abbrev Wd : Type := List Str × Int
/-- names of which a wheel can be made -/
structure NmG (ns : List Str) : Prop where
  ne : ns ≠ []
  nd : ns.Nodup
  len : ns.length ≤ 62
theorem NmG.pos {ns : List Str} (g : NmG ns) : 0 < ns.length := List.length_pos_iff.mpr g.ne
/-- at p a Wheel of these names -/
def Wf (C : Addr) (H : Hp) (p : Addr) (x : Wd) : Prop := ∃ dx t, H p = some (.ins C dx (wfs t x.2)) ∧ Tf H t (x.1.map V.str)
theorem Wf.same {C : Addr} {H H1 : Hp} {p : Addr} {x : Wd} (h : Wf C H p x) (s : Same H H1) : Wf C H1 p x :=
  let ⟨dx, t, e, e1⟩ := h
  ⟨dx, t, s _ _ e, e1.same s⟩
theorem Wf.but {C l : Addr} {H H1 : Hp} {p : Addr} {x : Wd} {n : Nat} (h : Wf C H p x) (d : Dr H l n) (b : But l H H1) : Wf C H1 p x := by
  obtain ⟨_, _, _, hl, _⟩ := d
  obtain ⟨dx, t, e, o, e1, r⟩ := h
  exact ⟨dx, t, b _ _ (ne_of e hl (by intro z; cases z)) e, o, b _ _ (ne_of e1 hl (by intro z; cases z)) e1, r⟩
/-- the name of a day -/
def nmA (x : Wd) (d : Int) : Str := x.1.getD ((d - x.2) % (x.1.length : Int)).toNat Str.empty
/-- a day of a name -/
def dyA (x : Wd) (n : Str) : Int := x.2 + (x.1.idxOf n : Int)
theorem nmA_mem {x : Wd} (g : NmG x.1) (d : Int) : nmA x d ∈ x.1 := by
  have l0 := g.pos
  have h0 := Int.emod_nonneg (d - x.2) (show (x.1.length : Int) ≠ 0 by omega)
  have h1 := Int.emod_lt_of_pos (d - x.2) (show (0 : Int) < (x.1.length : Int) by omega)
  unfold nmA
  rw [List.getD_eq_getElem?_getD, List.getElem?_eq_getElem (by omega)]
  exact List.getElem_mem _
theorem nod_idx {ns : List Str} (h : ns.Nodup) {i : Nat} (hi : i < ns.length) : ns.idxOf ns[i] = i := by
  have h1 : ns.idxOf ns[i] < ns.length := List.idxOf_lt_length_iff.mpr (List.getElem_mem hi)
  have h2 := List.getElem_idxOf h1
  exact (List.getElem_inj h).mp h2
/-- two days have one name just where they lie whole rounds apart -/
theorem nmA_eq {x : Wd} (g : NmG x.1) (d e : Int) : nmA x d = nmA x e ↔ (x.1.length : Int) ∣ d - e := by
  have l0 := g.pos
  have h0 := Int.emod_nonneg (d - x.2) (show (x.1.length : Int) ≠ 0 by omega)
  have h1 := Int.emod_lt_of_pos (d - x.2) (show (0 : Int) < (x.1.length : Int) by omega)
  have k0 := Int.emod_nonneg (e - x.2) (show (x.1.length : Int) ≠ 0 by omega)
  have k1 := Int.emod_lt_of_pos (e - x.2) (show (0 : Int) < (x.1.length : Int) by omega)
  have key : (d - x.2) % (x.1.length : Int) = (e - x.2) % (x.1.length : Int) ↔ (x.1.length : Int) ∣ d - e := by
    rw [Int.emod_eq_emod_iff_emod_sub_eq_zero]
    rw [show d - x.2 - (e - x.2) = d - e by omega]
    exact (Int.dvd_iff_emod_eq_zero).symm
  rw [← key]
  unfold nmA
  rw [List.getD_eq_getElem?_getD, List.getD_eq_getElem?_getD, List.getElem?_eq_getElem (by omega), List.getElem?_eq_getElem (by omega)]
  constructor
  · intro h
    have h : x.1[((d - x.2) % (x.1.length : Int)).toNat]'(by omega) = x.1[((e - x.2) % (x.1.length : Int)).toNat]'(by omega) := h
    have := (List.getElem_inj g.nd).mp h
    omega
  · intro h
    simp only [h]
/-- the days of a name -/
theorem nmA_iff {x : Wd} (g : NmG x.1) {n : Str} (h : n ∈ x.1) (d : Int) : nmA x d = n ↔ (x.1.length : Int) ∣ d - dyA x n := by
  have hi : x.1.idxOf n < x.1.length := List.idxOf_lt_length_iff.mpr h
  have e : nmA x (dyA x n) = n := by
    unfold nmA dyA
    rw [show x.2 + (x.1.idxOf n : Int) - x.2 = (x.1.idxOf n : Int) by omega, Int.emod_eq_of_lt (by omega) (by omega)]
    rw [Int.toNat_natCast, List.getD_eq_getElem?_getD, List.getElem?_eq_getElem hi]
    exact List.getElem_idxOf hi
  rw [← nmA_eq g, e]
def spWzI (C : Addr) : Sp := fun vs H Q _ => ∃ (p dx l : Addr) (i : Int) (ns : List Str), vs = [.ref p, .ref l, .int i] ∧ H p = some (.ins C dx []) ∧ H l = some (.lst (ns.map V.str)) ∧ NmG ns ∧ ∀ H', But p H H' → Wf C H' p (ns, i) → Q .non H'
def spNo (C : Addr) : Sp := fun vs H Q _ => ∃ (p : Addr) (d : Int) (x : Wd), vs = [.ref p, .int d] ∧ Wf C H p x ∧ NmG x.1 ∧ Q (.str (nmA x d)) H
def spWn (C : Addr) : Sp := fun vs H Q _ => ∃ (p : Addr) (x : Wd), vs = [.ref p] ∧ Wf C H p x ∧ NmG x.1 ∧ Q (.int (x.1.length : Nat)) H
def spNaG (C : Addr) : Sp := fun vs H Q _ => ∃ (p : Addr) (n : Str) (x : Wd), vs = [.ref p, .str n] ∧ Wf C H p x ∧ NmG x.1 ∧ n ∈ x.1 ∧ Q (.int (dyA x n)) H
def spAlk : Sp := fun vs H Q _ => ∃ a s b : Int, vs = [.int a, .int s, .int b] ∧ 0 < s ∧ Q (.int (b + (a - b) % s)) H
theorem inV_dec (x : Str) (ns : List Str) : inV (V.str x) (ns.map V.str) = decide (x ∈ ns) := by
  unfold inV
  rw [List.any_map]
  by_cases h : x ∈ ns
  · rw [decide_eq_true h, List.any_eq_true]
    exact ⟨x, h, by simp [eqV]⟩
  · rw [decide_eq_false h, List.any_eq_false]
    intro y hy e
    exact h (by simp [eqV] at e; rw [← e]; exact hy)
theorem idx_first {n : Str} : ∀ {ns : List Str} (m : Nat), m < ns.idxOf n → ns[m]? ≠ some n
  | [], m, h => by simp at h
  | y :: r, 0, h => by
    intro e
    have e : y = n := Option.some.inj e
    subst e
    simp at h
  | y :: r, m + 1, h => by
    rw [List.getElem?_cons_succ]
    refine idx_first m ?_
    rw [List.idxOf_cons] at h
    cases hb : (y == n) with
    | true => rw [hb] at h; simp at h
    | false => rw [hb] at h; simp at h; omega
section
variable {P : Program} {w : World} {K : PySem.W.Frag} {mg : Str → Option Value} {base : Heap} {C : Addr}
theorem ok_wzI (D : Di K mg "Wheel" C "Wheel.__init__" s_Wheel_init [.int 0]) (W : WhT K C) (g_len : mg "len" = none) (g_set : mg "set" = none) (g_tuple : mg "tuple" = none) :
    Ci P w K mg base CX0 3 "Wheel" C "Wheel.__init__" s_Wheel_init [.int 0] ["self", "names", "first"] (spWzI C) := by
  refine ci0 (k := 2) D c_Wheel_init (fun vs H Q E h => ?_) fun f cdv A outer s H vs Q E hr h => ?_
  · obtain ⟨p, dx, l, i, ns, rfl, _⟩ := h
    rfl
  · obtain ⟨p, dx, l, i, ns, rfl, hp, hl, g, q⟩ := h
    have hn := g.len
    have h1 : ns.length ≠ 0 := fun z => g.ne (List.length_eq_zero_iff.mp z)
    refine ⟨_, (pss_cons (ps_if (PW.pt (pw_or (pt_cmpR op_eq (pe_callB call_len_seq rfl g_len (by decide +kernel) (pa_cons (pv 1) pa_nil)) pe_int (nomark _)) (pw_or1 (pt_cmpR op_lt (pe_lenSetL rfl rfl g_len rfl g_set (pv 1)) (pe_callB call_len_seq rfl g_len (by decide +kernel) (pa_cons (pv 1) pa_nil)) (nomark _))))) (pss_one ps_never) pss_nil)
      (pss_cons (ps_fld (pv 0) (pe_callTy call_tupF rfl g_tuple (by decide +kernel) (pa_cons (pv 1) pa_nil)) rfl)
      (pss_one (ps_fld (pv 0) (pv 2) rfl)))), ?_⟩
    refine ⟨_, rfl, l, _, rfl, .inl (SqL.of hl), rfl, _, rfl, ?_⟩
    rw [List.length_map, decide_eq_false (show ¬ V.int ((ns.length : Nat) : Int) = V.int 0 from fun z => by injection z with z; omega)]
    refine iteF ⟨_, rfl, l, ns, rfl, SqL.of hl, (by unfold scanBound; omega), _, rfl, l, _, rfl, .inl (SqL.of hl), ?_⟩
    refine ⟨_, _, rfl, rfl, _, rfl, ?_⟩
    rw [List.length_map, nun_all g.nd _ (Nat.le_refl _), decide_eq_false (by omega)]
    refine iteF ⟨_, rfl, l, _, rfl, SqL.of hl, fun t o oc od nt => ?_⟩
    have st := Same.new (o := .frz o (.tup (ns.map V.str))) nt
    refine ⟨_, rfl, p, C, dx, _, rfl, st _ _ hp, W.cl, W.n1, (by show 0 < 1000; decide), ?_⟩
    refine ⟨_, rfl, _, rfl, p, C, dx, _, rfl, upd_same, W.cl, W.n2, (by show 1 < 1000; decide), ?_⟩
    rw [upd_upd]
    have ntp : t ≠ p := fun z => by rw [z, hp] at nt; cases nt
    refine q _ (fun b o hb e => ?_) ⟨dx, t, upd_same, o, ?_, oc, od⟩
    · rw [upd_ne hb]
      exact st _ _ e
    · rw [upd_ne ntp]
      exact upd_same
theorem ok_wln (D : Dm K C "__len__" "Wheel.__len__" s_Wheel_len) (W : WhT K C) (g_len : mg "len" = none) : Cm P w K mg base CX0 1 C "__len__" "Wheel.__len__" s_Wheel_len ["self"] (spWn C) := by
  refine cm0 (k := 0) D c_Wheel_len (fun vs H Q E h => ?_) fun f cdv A outer s H vs Q E hr h => ?_
  · obtain ⟨p, x, rfl, _⟩ := h
    rfl
  · obtain ⟨p, x, rfl, ⟨dx, t, hp, ht⟩, g, q⟩ := h
    refine ⟨_, (pss_one (ps_ret (pe_callB call_len_seq rfl g_len (by decide +kernel) (pa_cons (pe_fld (pv 0) rfl) pa_nil)))), ?_⟩
    refine ⟨_, rfl, p, C, dx, _, _, rfl, hp, W.cl, W.n1, wf_names _ _, t, _, rfl, .inr ht.sq, ?_⟩
    rw [List.length_map]
    exact q
theorem ok_naG (D : Df K mg "named_day" s_named_day []) (W : WhT K C) : Ca P w K mg base CX0 1 "named_day" s_named_day [] ["wheel", "name"] (spNaG C) := by
  refine ca0 (k := 0) D c_named_day (fun vs H Q E h => ?_) fun f cdv A outer s H vs Q E hr h => ?_
  · obtain ⟨p, n, x, rfl, _⟩ := h
    rfl
  · obtain ⟨p, n, x, rfl, ⟨dx, t, hp, ht⟩, g, hn, q⟩ := h
    refine ⟨_, (pss_cons (ps_if (pt_cmpR op_notIn_seq (pv 1) (pe_fld (pv 0) rfl) rfl) (pss_one ps_never) pss_nil)
      (pss_one (ps_ret (pe_op op_add (pe_fld (pv 0) rfl) (pe_tix (pe_fld (pv 0) rfl) (pa_cons (pv 1) pa_nil)))))), ?_⟩
    refine ⟨_, rfl, _, rfl, p, C, dx, _, _, rfl, hp, W.cl, W.n1, wf_names _ _, t, _, rfl, .inr ht.sq, rfl, flat_strs _, _, rfl, ?_⟩
    rw [show (if true = true then !inV (V.str n) (x.1.map V.str) else inV (V.str n) (x.1.map V.str)) = false by rw [inV_dec, decide_eq_true hn]; rfl]
    refine iteF ?_
    refine ⟨_, rfl, p, C, dx, _, _, rfl, hp, W.cl, W.n2, wf_first _ _, ?_⟩
    refine ⟨_, rfl, p, C, dx, _, _, rfl, hp, W.cl, W.n1, wf_names _ _, t, _, rfl, ht, _, rfl, x.1, n, x.1.idxOf n, rfl, ht.sq, ?_, idx_first, _, _, rfl, rfl, q⟩
    have hi : x.1.idxOf n < x.1.length := List.idxOf_lt_length_iff.mpr hn
    rw [List.getElem?_eq_getElem hi, List.getElem_idxOf hi]
theorem ok_alk (D : Df K mg "first_alike" s_first_alike []) : Ca P w K mg base CX0 1 "first_alike" s_first_alike [] ["day", "step", "after"] spAlk := by
  refine ca0 (k := 0) D c_first_alike (fun vs H Q E h => ?_) fun f cdv A outer s H vs Q E hr h => ?_
  · obtain ⟨a, st, b, rfl, _⟩ := h
    rfl
  · obtain ⟨a, st, b, rfl, h0, q⟩ := h
    refine ⟨_, (pss_one (ps_ret (pe_op op_add (pv 2) (pe_op op_mod (pe_op op_sub (pv 0) (pv 2)) (pv 1))))), ?_⟩
    exact ⟨_, rfl, _, rfl, _, rfl, _, _, rfl, rfl, _, rfl, _, _, rfl, rfl, h0, _, _, rfl, rfl, q⟩
end
/-! ### NoName -/
structure NnT (K : PySem.W.Frag) (mg : Str → Option Value) (CM : Addr) : Prop where
  ox : OxK K CM
  no : PySem.W.findIn K (.ref CM) "name" = some none
  vV : PySem.W.findCls K (.type "KeyError") (.type "type") "__init__" = some (.val (.builtin "KeyError.__init__"))
  gV : mg "KeyError" = none
  mN : mg "NoName" = some (.ref CM)
/-- the __init__ of an error with one field -/
def spNx (CN : Addr) (f : Str) (ok : V → Prop) : Sp := fun vs H Q _ => ∃ (a : Addr) (x : V), vs = [.ref a, x] ∧ ok x ∧ H a = some (exo a CN none) ∧ ∀ dx, H dx = none → dx ≠ a → Q .non (L2.upd (L2.upd H dx (exd dx [(f, x)])) a (exo a CN (some dx)))
def okNm (x : V) : Prop := ∃ t : Str, x = .str t ∧ t.length ≤ 1000
/-- an error of the class CN whose field f is x -/
def NxE (CN : Addr) (f : Str) (E : XK) (H : Hp) (x : V) : Prop := ∀ (d : Addr) (H' : Hp), H d = none → Same H H' → H' d = some (.xd [(f, x)]) → E (.ref CN) (some d) H'
theorem NxE.same {CN : Addr} {f : Str} {E : XK} {H H1 : Hp} {x : V} (k : NxE CN f E H x) (s : Same H H1) : NxE CN f E H1 x := fun d H' nd hs e => k d H' (s.free nd) (s.trans hs) e
section
variable {P : Program} {w : World} {K : PySem.W.Frag} {mg : Str → Option Value} {base : Heap} {CM : Addr}
theorem ok_nn (D : Dx K CM "NoName.__init__" s_NoName_init) (T : NnT K mg CM) : Cx1 P w K mg base 1 CM "NoName.__init__" s_NoName_init ["self", "name"] (spNx CM "name" okNm) := by
  obtain ⟨f, fd, F, h1, h2⟩ := D.ex
  refine ⟨f, fd, F, h1, h2, F.ok c_NoName_init (fun vs H Q E h => ?_) fun cdv A outer s H vs Q E hr h => ?_⟩
  · obtain ⟨a, x, rfl, _⟩ := h
    rfl
  · obtain ⟨a, x, rfl, ⟨t, rfl, hx⟩, ha, q⟩ := h
    refine ⟨_, PSs.nox (pss_cons (ps_expr (pe_biny (newId := "LookupError.__new__") (bm := bmK) rfl T.gV (by decide +kernel) typ_K T.vV (pa_cons (pv 0) (pa_cons (pe_joined (.cons pe_str (.cons (pe_fmt (pv 1)) .nil))) pa_nil)))) (pss_one (ps_gsy (B := "KeyError") (newId := "LookupError.__new__") (initId := "KeyError.__init__") (bm := bmK) (f := "name") (pv 0) (pv 1)))), ?_⟩
    refine ⟨_, rfl, _, rfl, (by decide), _, rfl, .inl ⟨t, rfl, Nat.le_trans hx (by decide), t, rfl, ?_, a, CM, _, rfl, (by show 1 ≤ 1000; decide), T.ox, ha, ?_⟩⟩
    · rw [str_app_len, str_app_len]
      exact Nat.le_trans (Nat.add_le_add_left hx _) (by decide)
    · exact ⟨_, rfl, _, rfl, a, CM, rfl, T.ox, T.no, .inl ⟨ha, q⟩⟩
/-- raise NoName(x) -/
theorem mk_nn {X : Cx} {e : Expr} {te : TE} {p pos : Pos} (T : NnT X.K X.mg CM) (c : Cx1 X.prog X.w X.K X.mg X.base 1 CM "NoName.__init__" s_NoName_init ["self", "name"] (spNx CM "name" okNm)) (hr : Room 2 X.A) (hg : Gl X "NoName") (ha : PA X [e] (tCons te tNil))
    (he : starEach (e :: []) X.env = (false, eval e X.env) :: starEach [] X.env := by rfl) (hpl : (backTo pos (starEach [] X.env)).any (·.1) = false := by rfl) : PMk X (.Call (.Name "NoName" p) [e] [] pos) (tMkO CM (spNx CM "name" okNm) [] (tCons te tNil)) := by
  obtain ⟨f, fd, F, h1, h2, G⟩ := c.ex
  exact pmk_y T.ox h1 h2 G hr (F.bindsN fun _ _ _ _ _ _ us hl => match us, hl with | [_, _], _ => rfl) .nil pass0 hg T.mN ha (by decide) he hpl
theorem rd_nx {CN : Addr} {f : Str} {ok : V → Prop} {H : Hp} {E : XK} {x : V} (hx : ok x) (k : NxE CN f E H x) {H1 : Hp} (s : Same H H1) : ([x] : List V).length ≤ 1000 ∧ ∀ a, H1 a = none → spNx CN f ok (.ref a :: ([x] ++ [])) (L2.upd H1 a (exo a CN none))
    (fun v H2 => v = .non ∧ ∃ (d : Addr) (fs : List (Str × V)), H2 a = some (exo a CN (some d)) ∧ H2 d = some (exd d fs) ∧ H1 d = none ∧ E (.ref CN) (some d) (L2.upd (del H2 a) d (.xd fs))) (fun _ _ _ => False) := by
  refine ⟨(by show 1 ≤ 1000; decide), fun a na => ⟨a, x, rfl, hx, upd_same, fun dx nd ne => ⟨rfl, dx, [(f, x)], upd_same, ?_, ?_, ?_⟩⟩⟩
  · rw [upd_ne ne, upd_same]
  · rw [upd_ne ne] at nd
    exact nd
  · rw [upd_ne ne] at nd
    refine k dx _ (s.free nd) (fun b o e => ?_) upd_same
    have e1 := s b o e
    rw [upd_ne (ne_of_none e1 nd), del_ne (ne_of_none e1 na), upd_ne (ne_of_none e1 na), upd_ne (ne_of_none e1 nd), upd_ne (ne_of_none e1 na)]
    exact e1
end
/-! ### the day of a name, there or not -/
def spNaX (C CM : Addr) : Sp := fun vs H Q E => ∃ (p : Addr) (n : Str) (x : Wd), vs = [.ref p, .str n] ∧ Wf C H p x ∧ NmG x.1 ∧ n.length ≤ 1000 ∧ (n ∈ x.1 → Q (.int (dyA x n)) H) ∧ (n ∉ x.1 → NxE CM "name" E H (.str n))
section
variable {P : Program} {w : World} {K : PySem.W.Frag} {mg : Str → Option Value} {base : Heap} {C CM : Addr}
theorem ok_naX (D : Df K mg "named_day" s_named_day []) (W : WhT K C) (T : NnT K mg CM) (nc : Cx1 P w K mg base 1 CM "NoName.__init__" s_NoName_init ["self", "name"] (spNx CM "name" okNm)) : Ca P w K mg base (L2.CX P w) 3 "named_day" s_named_day [] ["wheel", "name"] (spNaX C CM) := by
  refine caX (k := 2) D c_named_day (fun vs H Q E h => ?_) fun f cdv A outer s H vs Q E hr h => ?_
  · obtain ⟨p, n, x, rfl, _⟩ := h
    rfl
  · obtain ⟨p, n, x, rfl, ⟨dx, t, hp, ht⟩, g, hx, q, qe⟩ := h
    refine ⟨_, (pss_cons (ps_if (pt_cmpR op_notIn_seq (pv 1) (pe_fld (pv 0) rfl) rfl) (pss_one (ps_raise rfl (takes_of (E := E) rfl rfl rfl rfl) (mk_nn T nc (hr.mono (by decide)) rfl (pa_cons (pv 1) pa_nil)))) pss_nil)
      (pss_one (ps_ret (pe_op op_add (pe_fld (pv 0) rfl) (pe_tix (pe_fld (pv 0) rfl) (pa_cons (pv 1) pa_nil)))))), ?_⟩
    refine ⟨_, rfl, _, rfl, p, C, dx, _, _, rfl, hp, W.cl, W.n1, wf_names _ _, t, _, rfl, .inr ht.sq, rfl, flat_strs _, _, rfl, ?_⟩
    by_cases hn : n ∈ x.1
    · rw [show (if true = true then !inV (V.str n) (x.1.map V.str) else inV (V.str n) (x.1.map V.str)) = false by rw [inV_dec, decide_eq_true hn]; rfl]
      refine iteF ?_
      refine ⟨_, rfl, p, C, dx, _, _, rfl, hp, W.cl, W.n2, wf_first _ _, ?_⟩
      refine ⟨_, rfl, p, C, dx, _, _, rfl, hp, W.cl, W.n1, wf_names _ _, t, _, rfl, ht, _, rfl, x.1, n, x.1.idxOf n, rfl, ht.sq, ?_, idx_first, _, _, rfl, rfl, q hn⟩
      have hi : x.1.idxOf n < x.1.length := List.idxOf_lt_length_iff.mpr hn
      rw [List.getElem?_eq_getElem hi, List.getElem_idxOf hi]
    · rw [show (if true = true then !inV (V.str n) (x.1.map V.str) else inV (V.str n) (x.1.map V.str)) = true by rw [inV_dec, decide_eq_false hn]; rfl]
      refine iteT ⟨_, rfl, ?_⟩
      exact rd_nx ⟨n, rfl, hx⟩ (qe hn) (Same.refl _)
end
/-! ### NoDay -/
abbrev bmL : List Value := [.type "LookupError", .type "Exception", .type "BaseException", .type "object"]
abbrev OxL (K : PySem.W.Frag) (C : Addr) : Prop := OxG K C "LookupError" "LookupError.__new__" "LookupError.__init__" bmL
theorem typ_L : typeOf (.type "LookupError") = pure (.type "type") := by kernel_rfl
structure NyT (K : PySem.W.Frag) (mg : Str → Option Value) (CY : Addr) : Prop where
  ox : OxL K CY
  n1 : PySem.W.findIn K (.ref CY) "one" = some none
  n2 : PySem.W.findIn K (.ref CY) "two" = some none
  vV : PySem.W.findCls K (.type "LookupError") (.type "type") "__init__" = some (.val (.builtin "LookupError.__init__"))
  gV : mg "LookupError" = none
  mN : mg "NoDay" = some (.ref CY)
def spNy (CY : Addr) : Sp := fun vs H Q _ => ∃ (a : Addr) (i j : Int), vs = [.ref a, .int i, .int j] ∧ H a = some (exo a CY none) ∧ ∀ dx, H dx = none → dx ≠ a → Q .non (L2.upd (L2.upd (L2.upd H dx (exd dx [("one", .int i)])) a (exo a CY (some dx))) dx (exd dx [("two", .int j), ("one", .int i)]))
/-- an error of NoDay that tells i and j -/
def NyE (CY : Addr) (E : XK) (H : Hp) (i j : Int) : Prop := ∀ (e : Addr) (H' : Hp), H e = none → Same H H' → H' e = some (.xd [("two", .int j), ("one", .int i)]) → E (.ref CY) (some e) H'
theorem NyE.same {CY : Addr} {E : XK} {H H1 : Hp} {i j : Int} (k : NyE CY E H i j) (s : Same H H1) : NyE CY E H1 i j := fun e H' ne hs he => k e H' (s.free ne) (s.trans hs) he
section
variable {P : Program} {w : World} {K : PySem.W.Frag} {mg : Str → Option Value} {base : Heap} {CY : Addr}
theorem ok_ny (D : Dx K CY "NoDay.__init__" s_NoDay_init) (T : NyT K mg CY) : Cx1 P w K mg base 1 CY "NoDay.__init__" s_NoDay_init ["self", "one", "two"] (spNy CY) := by
  obtain ⟨f, fd, F, h1, h2⟩ := D.ex
  refine ⟨f, fd, F, h1, h2, F.ok c_NoDay_init (fun vs H Q E h => ?_) fun cdv A outer s H vs Q E hr h => ?_⟩
  · obtain ⟨a, i, j, rfl, _⟩ := h
    rfl
  · obtain ⟨a, i, j, rfl, ha, q⟩ := h
    refine ⟨_, PSs.nox (pss_cons (ps_expr (pe_bini (newId := "LookupError.__new__") (bm := bmL) rfl T.gV (by decide +kernel) typ_L T.vV (pa_cons (pv 0) (pa_cons pe_str pa_nil))))
      (pss_cons (ps_gst (B := "LookupError") (newId := "LookupError.__new__") (initId := "LookupError.__init__") (bm := bmL) (f := "one") (pv 0) (pv 1))
      (pss_one (ps_gst (B := "LookupError") (newId := "LookupError.__new__") (initId := "LookupError.__init__") (bm := bmL) (f := "two") (pv 0) (pv 2))))), ?_⟩
    refine ⟨_, rfl, a, CY, _, rfl, (by show 1 ≤ 1000; decide), T.ox, ha, ?_⟩
    refine ⟨_, rfl, _, rfl, a, CY, rfl, T.ox, T.n1, .inl ⟨ha, fun dx nd ne => ?_⟩⟩
    refine ⟨_, rfl, _, rfl, a, CY, rfl, T.ox, T.n2, .inr ⟨dx, [("one", .int i)], upd_same, ?_, (by show 1 ≤ 900; decide), q dx nd ne⟩⟩
    rw [upd_ne ne, upd_same]
/-- raise NoDay(i, j) -/
theorem mk_ny {X : Cx} {e e2 : Expr} {te te2 : TE} {p pos : Pos} (T : NyT X.K X.mg CY) (c : Cx1 X.prog X.w X.K X.mg X.base 1 CY "NoDay.__init__" s_NoDay_init ["self", "one", "two"] (spNy CY)) (hr : Room 2 X.A) (hg : Gl X "NoDay") (ha : PA X [e, e2] (tCons te (tCons te2 tNil)))
    (he : starEach (e :: [e2]) X.env = (false, eval e X.env) :: starEach [e2] X.env := by rfl) (hpl : (backTo pos (starEach [e2] X.env)).any (·.1) = false := by rfl) : PMk X (.Call (.Name "NoDay" p) [e, e2] [] pos) (tMkO CY (spNy CY) [] (tCons te (tCons te2 tNil))) := by
  obtain ⟨f, fd, F, h1, h2, G⟩ := c.ex
  exact pmk_g T.ox h1 h2 G hr (F.bindsN fun _ _ _ _ _ _ us hl => match us, hl with | [_, _, _], _ => rfl) .nil pass0 hg T.mN ha (by decide) he hpl
theorem rd_ny {H : Hp} {E : XK} {i j : Int} (k : NyE CY E H i j) {H1 : Hp} (s : Same H H1) : ([V.int i, V.int j] : List V).length ≤ 1000 ∧ ∀ a, H1 a = none → spNy CY (.ref a :: ([V.int i, V.int j] ++ [])) (L2.upd H1 a (exo a CY none))
    (fun v H2 => v = .non ∧ ∃ (e : Addr) (fs : List (Str × V)), H2 a = some (exo a CY (some e)) ∧ H2 e = some (exd e fs) ∧ H1 e = none ∧ E (.ref CY) (some e) (L2.upd (del H2 a) e (.xd fs))) (fun _ _ _ => False) := by
  refine ⟨(by show 2 ≤ 1000; decide), fun a na => ⟨a, i, j, rfl, upd_same, fun dx nd ne => ⟨rfl, dx, [("two", .int j), ("one", .int i)], ?_, upd_same, ?_, ?_⟩⟩⟩
  · rw [upd_ne ne.symm, upd_same]
  · rw [upd_ne ne] at nd
    exact nd
  · rw [upd_ne ne] at nd
    refine k dx _ (s.free nd) (fun b o e => ?_) upd_same
    have e1 := s b o e
    rw [upd_ne (ne_of_none e1 nd), del_ne (ne_of_none e1 na), upd_ne (ne_of_none e1 nd), upd_ne (ne_of_none e1 na), upd_ne (ne_of_none e1 nd), upd_ne (ne_of_none e1 na)]
    exact e1
end
/-! ### lists of wheels -/
/-- at lw a list of the wheels at ps, which are ws -/
structure WL (C : Addr) (H : Hp) (lw : Addr) (ps : List Addr) (ws : List Wd) : Prop where
  l : H lw = some (.lst (ps.map V.ref))
  n : ps.length = ws.length
  w : ∀ (j : Nat) p x, ps[j]? = some p → ws[j]? = some x → Wf C H p x
theorem WL.same {C : Addr} {H H1 : Hp} {lw : Addr} {ps : List Addr} {ws : List Wd} (h : WL C H lw ps ws) (s : Same H H1) : WL C H1 lw ps ws := ⟨s _ _ h.l, h.n, fun j p x a b => (h.w j p x a b).same s⟩
/-- wheels that can be made, sixty at most -/
structure GW (ws : List Wd) : Prop where
  g : ∀ x ∈ ws, NmG x.1
  n : ws.length ≤ 60
def zW (ws : List Wd) (j : Nat) : Nat := (ws.getD j ([], 0)).1.length
theorem zW_at {ws : List Wd} {j : Nat} {x : Wd} (h : ws[j]? = some x) : zW ws j = x.1.length := by
  unfold zW
  rw [List.getD_eq_getElem?_getD, h]
  rfl
theorem GW.pos {ws : List Wd} (g : GW ws) {j : Nat} (h : j < ws.length) : 0 < zW ws j ∧ zW ws j ≤ 2 ^ 6 := by
  have e := List.getElem?_eq_getElem h
  rw [zW_at e]
  have k := g.g _ (List.getElem_mem h)
  exact ⟨k.pos, Nat.le_trans k.len (by decide)⟩
theorem WL.at {C : Addr} {H : Hp} {lw : Addr} {ps : List Addr} {ws : List Wd} (h : WL C H lw ps ws) {j : Nat} {x : Wd} (e : ws[j]? = some x) : ∃ p, (ps.map V.ref)[j]? = some (V.ref p) ∧ Wf C H p x := by
  have hl : j < ws.length := (List.getElem?_eq_some_iff.mp e).1
  have hp : ps[j]? = some (ps[j]'(by rw [h.n]; exact hl)) := List.getElem?_eq_getElem (by rw [h.n]; exact hl)
  exact ⟨_, by rw [List.getElem?_map, hp]; rfl, h.w j _ x hp e⟩
theorem GW.at {ws : List Wd} (g : GW ws) {j : Nat} {x : Wd} (e : ws[j]? = some x) : NmG x.1 := g.g x (List.mem_of_getElem? e)
/-- two days that never lie so together -/
def Ap (ws : List Wd) (ds : List Int) (i j : Nat) : Prop := ¬ (((Nat.gcd (zW ws i) (zW ws j) : Nat) : Int) ∣ ds.getD j 0 - ds.getD i 0)
def spRf (C CY : Addr) : Sp := fun vs H Q E => ∃ (lw ld : Addr) (ps : List Addr) (ws : List Wd) (ds : List Int), vs = [.ref lw, .ref ld] ∧ WL C H lw ps ws ∧ GW ws ∧ H ld = some (.lst (ds.map V.int)) ∧ ds.length = ws.length ∧
  ((∀ i j, i < j → j < ws.length → ¬ Ap ws ds i j) → Q .non H) ∧ ∀ i j, Fp ws.length (Ap ws ds) i j → NyE CY E H (i : Int) (j : Int)
def spInv : Sp := fun vs H Q _ => ∃ n m : Int, vs = [.int n, .int m] ∧ 0 < m ∧ Sz 1000 m ∧ Int.gcd n m = 1 ∧ ∀ r H', Same H H' → m ∣ n * r - 1 → Sz 1001 r → Q (.int r) H'
def spMd : Sp := fun vs H Q _ => ∃ a s b t : Int, vs = [.int a, .int s, .int b, .int t] ∧ 0 < s ∧ 0 < t ∧ Sz 4000 a ∧ Sz 1000 s ∧ Sz 4000 b ∧ Sz 1000 t ∧ (Int.gcd s t : Int) ∣ b - a ∧ ∀ v H', Same H H' → s ∣ v - a → t ∣ v - b → a ≤ v → v < a + t * s → Q (.int v) H'
def spCm : Sp := fun vs H Q _ => ∃ a b : Int, vs = [.int a, .int b] ∧ 0 < a ∧ 0 < b ∧ Sz 4000 a ∧ Sz 4000 b ∧ Q (.int (lcI a b)) H
def spMr (C : Addr) : Sp := fun vs H Q _ => ∃ (lw : Addr) (ps : List Addr) (ws : List Wd), vs = [.ref lw] ∧ WL C H lw ps ws ∧ GW ws ∧ Q (.int (lcN (zW ws) ws.length : Nat)) H
theorem Sz.quoA {n : Nat} {a b : Int} (h : Sz n a) : Sz n (a / b) := Nat.lt_of_le_of_lt (Int.natAbs_ediv_le_natAbs _ _) h
theorem Sz.le {n : Nat} {a b : Int} (h : Sz n b) (k : a.natAbs ≤ b.natAbs) : Sz n a := Nat.lt_of_le_of_lt k h
theorem gcd_szA {t b : Int} {n : Nat} (h : b ≠ 0) (hb : Sz n b) : Sz n (Int.gcd t b : Int) := by
  unfold Sz
  rw [Int.natAbs_natCast]
  exact Nat.lt_of_le_of_lt (Nat.le_of_dvd (by omega) (Int.gcd_dvd_natAbs_right t b)) hb
theorem fd {a b : Int} (h : 0 ≤ b) : a.fdiv b = a / b := Int.fdiv_eq_ediv_of_nonneg _ h
section
variable {P : Program} {w : World} {K : PySem.W.Frag} {mg : Str → Option Value} {base : Heap} {C CY : Addr}
theorem ok_cm (D : Df K mg "common_multiple" s_common_multiple []) (f_common_divisor : Ca P w K mg base CX0 1 "common_divisor" s_common_divisor [] ["one", "two"] spGcd) : Ca P w K mg base CX0 2 "common_multiple" s_common_multiple [] ["one", "two"] spCm := by
  refine ca0 (k := 1) D c_common_multiple (fun vs H Q E h => ?_) fun f cdv A outer s H vs Q E hr h => ?_
  · obtain ⟨a, b, rfl, _⟩ := h
    rfl
  · obtain ⟨a, b, rfl, ha, hb, za, zb, q⟩ := h
    refine ⟨_, (pss_one (ps_ret (pe_op op_mulA (pe_op op_fdivP (pv 0) (pe_ca f_common_divisor b_common_divisor hr (by decide) pass0 rfl (pa_cons (pv 0) (pa_cons (pv 1) pa_nil)))) (pv 1)))), ?_⟩
    have hg : (0 : Int) < (Int.gcd a b : Int) := by
      have := Int.gcd_pos_of_ne_zero_left b (show a ≠ 0 by omega)
      omega
    refine ⟨_, rfl, _, rfl, _, rfl, a, b, rfl, _, _, rfl, rfl, ⟨hg, (gcd_szA (show b ≠ 0 by omega) zb).mono (by decide)⟩, _, rfl, _, _, rfl, rfl, ⟨za.quoA.mono (by decide), zb.mono (by decide)⟩, q⟩
theorem ok_inv (D : Df K mg "inverse" s_inverse []) : Ca P w K mg base CX0 1 "inverse" s_inverse [] ["number", "modulus"] spInv := by
  refine ca0 (k := 0) D c_inverse (fun vs H Q E h => ?_) fun f cdv A outer s H vs Q E hr h => ?_
  · obtain ⟨n, m, rfl, _⟩ := h
    rfl
  · obtain ⟨n, m, rfl, hm, zm, hg, q⟩ := h
    refine ⟨_, (pss_cons (ps_par (i := 2) (j := 3) rfl c_inverse.nd rfl rfl (by decide) rfl rfl (pa_cons (pv 1) (pa_cons (pe_op op_mod (pv 0) (pv 1)) pa_nil)) rfl)
      (pss_cons (ps_asg (pe_tup (pa_cons pe_int (pa_cons pe_int pa_nil))) (pg_tup rfl (pgs_cons (pg_name (i := 4) c_inverse.nd rfl (.inl rfl)) (pgs_cons (pg_name (i := 5) c_inverse.nd rfl (.inl rfl)) pgs_nil))))
      (pss_cons (ps_while PassesOwn.never (pt_cmpR op_ne (pv 3) pe_int (nomark _)) (pss_cons (ps_set (i := 6) c_inverse.nd rfl (.inl rfl) (pe_op op_fdivP (pv 2) (pv 3)))
      (pss_cons (ps_par (i := 2) (j := 3) rfl c_inverse.nd rfl rfl (by decide) rfl rfl (pa_cons (pv 3) (pa_cons (pe_op op_sub (pv 2) (pe_op op_mulA (pv 6) (pv 3))) pa_nil)) rfl)
      (pss_one (ps_par (i := 4) (j := 5) rfl c_inverse.nd rfl rfl (by decide) rfl rfl (pa_cons (pv 5) (pa_cons (pe_op op_sub (pv 4) (pe_op op_mulA (pv 6) (pv 5))) pa_nil)) rfl)))))
      (pss_one (ps_ret (pv 4)))))), ?_⟩
    refine ⟨_, rfl, _, rfl, _, rfl, _, _, rfl, rfl, hm, _, _, rfl, ?_⟩
    refine ⟨(by show 2 ≤ sizeLine; decide), fun p np => ?_⟩
    refine ⟨p, _, rfl, SqT.of upd_same, rfl, _, _, rfl, _, _, rfl, rfl, ?_⟩
    have sT := Same.new (o := .tup [.int 0, .int 1]) np
    generalize L2.upd H p _ = H1 at *
    have szm : ∀ {x : Int}, (x.natAbs : Int) ≤ m → Sz 1001 x := fun {x} h => (Sz.le (b := m) zm (by omega)).mono (by decide)
    refine while_by (fun σ H' => ∃ (one two ot tt : Int) (v6 : Option V), σ = [some (.int n), some (.int m), some (.int one), some (.int two), some (.int ot), some (.int tt), v6] ∧ IvI n m one two ot tt ∧ (ot.natAbs : Int) ≤ m ∧ one ≤ m ∧ H' = H1) (mu2 3) ⟨_, _, _, _, _, rfl, IvI.start hm hg, by simp; omega, Int.le_refl _, rfl⟩ ?_ (fun σ H' R R' hq ⟨v, h1, h2, k, h3, h4⟩ => ⟨v, h1, h2, k, h3, hq _ _ h4⟩)
    rintro σ H' ⟨one, two, ot, tt, v6, rfl, iv, zo, z1, rfl⟩
    refine ⟨_, rfl, rfl, _, rfl, ?_⟩
    by_cases h0 : two = 0
    · subst h0
      refine iteF ?_
      exact ⟨_, rfl, q _ _ sT iv.fin (szm zo)⟩
    · rw [show (!decide (V.int two = V.int 0)) = true by simpa using h0]
      refine iteT ?_
      have p1 := iv.p1
      have p2 := iv.p2
      have lt := iv.lt
      have zt := iv.szt
      have h2 : 0 < two := by omega
      have t1 := iv.turn h2
      have q0 : 0 ≤ one / two := Int.ediv_nonneg (by omega) (by omega)
      have zq : Sz 1001 (one / two) := Sz.quoA (szm (by omega))
      have z2 : Sz 1001 two := szm (by omega)
      refine ⟨_, rfl, _, rfl, _, _, rfl, rfl, ⟨h2, z2.mono (by decide)⟩, ?_⟩
      refine ⟨_, rfl, _, rfl, _, rfl, _, rfl, _, _, rfl, rfl, ⟨zq.mono (by decide), z2.mono (by decide)⟩, _, _, rfl, rfl, _, _, rfl, ?_⟩
      refine ⟨_, rfl, _, rfl, _, rfl, _, rfl, _, _, rfl, rfl, ⟨zq.mono (by decide), (szm zt).mono (by decide)⟩, _, _, rfl, rfl, _, _, rfl, ?_⟩
      refine ⟨⟨_, _, _, _, _, rfl, t1, zt, by omega, rfl⟩, ?_⟩
      show (one - one / two * two).natAbs < two.natAbs
      have := t1.lt
      have := t1.p2
      omega
theorem ok_md (D : Df K mg "meeting_day" s_meeting_day []) (f_common_divisor : Ca P w K mg base CX0 1 "common_divisor" s_common_divisor [] ["one", "two"] spGcd) (f_inverse : Ca P w K mg base CX0 1 "inverse" s_inverse [] ["number", "modulus"] spInv) : Ca P w K mg base CX0 2 "meeting_day" s_meeting_day [] ["one", "one_step", "two", "two_step"] spMd := by
  refine ca0 (k := 1) D c_meeting_day (fun vs H Q E h => ?_) fun f cdv A outer s H vs Q E hr h => ?_
  · obtain ⟨a, st, b, t, rfl, _⟩ := h
    rfl
  · obtain ⟨a, st, b, t, rfl, hs, ht, za, zs, zb, zt, hd, q⟩ := h
    refine ⟨_, (pss_cons (ps_set (i := 4) c_meeting_day.nd rfl (.inl rfl) (pe_ca f_common_divisor b_common_divisor hr (by decide) pass0 rfl (pa_cons (pv 1) (pa_cons (pv 3) pa_nil))))
      (pss_cons (ps_set (i := 5) c_meeting_day.nd rfl (.inl rfl) (pe_op op_fdivP (pv 3) (pv 4)))
      (pss_one (ps_ret (pe_op op_add (pv 0) (pe_op op_mulA (pe_op op_mod (pe_op op_mulA (pe_op op_fdivP (pe_op op_sub (pv 2) (pv 0)) (pv 4)) (pe_ca f_inverse b_inverse hr (by decide) pass0 rfl (pa_cons (pe_op op_fdivP (pv 1) (pv 4)) (pa_cons (pv 5) pa_nil)))) (pv 5)) (pv 1))))))), ?_⟩
    have g0 : (0 : Int) < (Int.gcd st t : Int) := by
      have := Int.gcd_pos_of_ne_zero_left t (show st ≠ 0 by omega)
      omega
    have zg : Sz 1000 (Int.gcd st t : Int) := gcd_szA (by omega) zt
    have c1 := gcd_div_gcd (b := t) (a := st) hs
    have md := fun r => met_day (r := r) (one := a) (two := b) hs ht rfl hd
    have r0 : 0 < t / (Int.gcd st t : Int) := Int.ediv_pos_of_pos_of_dvd ht (by omega) (Int.gcd_dvd_right _ _)
    refine ⟨_, rfl, _, rfl, st, t, rfl, _, rfl, _, rfl, ?_⟩
    generalize (Int.gcd st t : Int) = g at *
    have zG : CDivP 0 g := ⟨g0, zg.mono (by decide)⟩
    refine ⟨_, _, rfl, rfl, zG, ?_⟩
    refine ⟨_, rfl, _, rfl, _, rfl, _, _, rfl, rfl, _, rfl, _, _, rfl, rfl, zG, _, rfl, _, rfl, _, _, rfl, rfl, zG, _, rfl, ?_⟩
    refine ⟨_, _, rfl, r0, zt.quoA, ?_, fun r H1 s1 hr1 zr => ?_⟩
    · rw [Int.gcd_comm]
      exact c1
    obtain ⟨m1, m2, m3, m4⟩ := md r hr1
    have zd : Sz 4001 (b - a) := zb.sub za (by decide)
    have e0 := Int.emod_nonneg ((b - a) / g * r) (show t / g ≠ 0 by omega)
    have e1 := Int.emod_lt_of_pos ((b - a) / g * r) r0
    have ze : Sz 1000 ((b - a) / g * r % (t / g)) := Sz.le (zt.quoA (b := g)) (by omega)
    refine ⟨_, _, rfl, rfl, ⟨zd.quoA.mono (by decide), zr.mono (by decide)⟩, _, rfl, _, _, rfl, rfl, r0, _, rfl, _, _, rfl, rfl, ⟨ze.mono (by decide), zs.mono (by decide)⟩, _, _, rfl, rfl, ?_⟩
    exact q _ H1 s1 m1 m2 m3 m4
end
/-! ### days on which wheels meet -/
theorem yes' {A B : Prop} {b : Bool} (hb : b = true) (h : A) : if b = true then A else B := by
  rw [if_pos hb]
  exact h
theorem p2le {a b : Nat} (h : a ≤ b) : (2 : Int) ^ a ≤ 2 ^ b := by
  have := Nat.pow_le_pow_right (n := 2) (by decide) h
  exact_mod_cast this
theorem zpos {n k : Nat} {d : Int} (h0 : 0 ≤ d) (h1 : d < 2 ^ n) (h : n ≤ k) : Sz k d := by
  unfold Sz
  have e : ((2 ^ n : Nat) : Int) = (2 : Int) ^ n := by simp
  exact Nat.lt_of_lt_of_le (show d.natAbs < 2 ^ n by omega) (Nat.pow_le_pow_right (by decide) h)
theorem WL.el {C : Addr} {H : Hp} {lw : Addr} {ps : List Addr} {ws : List Wd} (h : WL C H lw ps ws) {j : Nat} {v : V} (e : (ps.map V.ref)[j]? = some v) : ∃ p x, v = .ref p ∧ ws[j]? = some x ∧ Wf C H p x := by
  rw [List.getElem?_map] at e
  cases hp : ps[j]? with
  | none => rw [hp] at e; cases e
  | some p =>
    rw [hp] at e
    have hl : j < ws.length := by
      rw [← h.n]
      exact (List.getElem?_eq_some_iff.mp hp).1
    exact ⟨p, ws[j], (Option.some.inj e).symm, List.getElem?_eq_getElem hl, h.w j p _ hp (List.getElem?_eq_getElem hl)⟩
theorem WL.ln {C : Addr} {H : Hp} {lw : Addr} {ps : List Addr} {ws : List Wd} (h : WL C H lw ps ws) : (ps.map V.ref).length = ws.length := by
  rw [List.length_map, h.n]
theorem lt60 {n : Nat} (h : n ≤ 62) : n < 2 ^ 60 := Nat.lt_of_le_of_lt h (by decide)
theorem GW.lc {ws : List Wd} (g : GW ws) {i : Nat} (h : i ≤ ws.length) : 0 < lcN (zW ws) i ∧ lcN (zW ws) i ≤ 2 ^ (6 * i) ∧ Sz 361 (lcN (zW ws) i : Nat) := by
  have h1 := lcN_pos (z := zW ws) (k := i) fun j hj => (g.pos (show j < ws.length by omega)).1
  have h2 := lcN_le (z := zW ws) (k := i) fun j hj => g.pos (show j < ws.length by omega)
  refine ⟨h1, h2, ?_⟩
  unfold Sz
  rw [Int.natAbs_natCast]
  have hn := g.n
  exact Nat.lt_of_le_of_lt h2 (Nat.pow_lt_pow_right (by decide) (by omega))
theorem zlen {n k : Nat} (h : n ≤ 62) (hk : 6 ≤ k) : Sz k (n : Int) := Nat.lt_of_lt_of_le (show (n : Int).natAbs < 2 ^ 6 by omega) (Nat.pow_le_pow_right (by decide) hk)
def dsW (ws : List Wd) (xs : List Str) (j : Nat) : Int := dyA (ws.getD j ([], 0)) (xs.getD j Str.empty)
def dlW (ws : List Wd) (xs : List Str) : List Int := (List.range ws.length).map (dsW ws xs)
theorem dlW_at {ws : List Wd} {xs : List Str} {j : Nat} {x : Wd} {n : Str} (h1 : ws[j]? = some x) (h2 : xs[j]? = some n) : (dlW ws xs)[j]? = some (dyA x n) ∧ (dlW ws xs).getD j 0 = dyA x n := by
  have hl : j < ws.length := (List.getElem?_eq_some_iff.mp h1).1
  have e : (dlW ws xs)[j]? = some (dyA x n) := by
    unfold dlW dsW
    rw [List.getElem?_map, List.getElem?_range hl]
    simp only [Option.map_some]
    rw [List.getD_eq_getElem?_getD, List.getD_eq_getElem?_getD, h1, h2]
    rfl
  exact ⟨e, by rw [List.getD_eq_getElem?_getD, e]; rfl⟩
/-- what meet tells -/
structure Mt (ws : List Wd) (xs : List Str) (a v : Int) : Prop where
  nm : ∀ (j : Nat) x n, ws[j]? = some x → xs[j]? = some n → nmA x v = n
  lo : a ≤ v
  hi : v < a + (lcN (zW ws) ws.length : Nat)
/-- of each wheel one of its names -/
structure Wn (ws : List Wd) (xs : List Str) : Prop where
  n : xs.length = ws.length
  m : ∀ (j : Nat) x n, ws[j]? = some x → xs[j]? = some n → n ∈ x.1
/-- meet, of any names -/
def spMeX (C CM CY : Addr) : Sp := fun vs H Q E => ∃ (lw lx : Addr) (ps : List Addr) (ws : List Wd) (xs : List Str) (a : Int), vs = [.ref lw, .ref lx, .int a] ∧ WL C H lw ps ws ∧ GW ws ∧ (∀ x ∈ ws, Sz 100 x.2) ∧ H lx = some (.lst (xs.map V.str)) ∧ xs.length = ws.length ∧ (∀ n ∈ xs, n.length ≤ 1000) ∧
  (Wn ws xs → ((∀ i j, i < j → j < ws.length → ¬ Ap ws (dlW ws xs) i j) → ∀ v H', Same H H' → Mt ws xs a v → Q (.int v) H') ∧ ∀ i j, Fp ws.length (Ap ws (dlW ws xs)) i j → NyE CY E H (i : Int) (j : Int)) ∧
  ∀ (i : Nat) (x : Wd) n, ws[i]? = some x → xs[i]? = some n → n ∉ x.1 → (∀ (j : Nat) (y : Wd) m, j < i → ws[j]? = some y → xs[j]? = some m → m ∈ y.1) → NxE CM "name" E H (.str n)
theorem met_all {ws : List Wd} {xs : List Str} {day a : Int} (g : GW ws) (hn : Wn ws xs) (h : ∀ j, j < ws.length → ((zW ws j : Nat) : Int) ∣ day - (dlW ws xs).getD j 0) : Mt ws xs a (a + (day - a) % (lcN (zW ws) ws.length : Nat)) := by
  obtain ⟨l0, _, _⟩ := g.lc (Nat.le_refl _)
  have e0 := Int.emod_nonneg (day - a) (show ((lcN (zW ws) ws.length : Nat) : Int) ≠ 0 by omega)
  have e1 := Int.emod_lt_of_pos (day - a) (show (0 : Int) < ((lcN (zW ws) ws.length : Nat) : Int) by omega)
  refine ⟨fun j x n h1 h2 => ?_, by omega, by omega⟩
  have hl : j < ws.length := (List.getElem?_eq_some_iff.mp h1).1
  refine (nmA_iff (g.at h1) (hn.m j x n h1 h2) _).mpr ?_
  have k := h j hl
  rw [(dlW_at h1 h2).2, zW_at h1] at k
  have k2 : (x.1.length : Int) ∣ ((lcN (zW ws) ws.length : Nat) : Int) := by
    rw [← zW_at h1]
    exact Int.natCast_dvd_natCast.mpr (lcN_dvd hl)
  have k3 : (x.1.length : Int) ∣ (day - a) - (day - a) % ((lcN (zW ws) ws.length : Nat) : Int) := Int.dvd_trans k2 Int.dvd_self_sub_emod
  have : a + (day - a) % ((lcN (zW ws) ws.length : Nat) : Int) - dyA x n = (day - dyA x n) - ((day - a) - (day - a) % ((lcN (zW ws) ws.length : Nat) : Int)) := by omega
  rw [this]
  exact Int.dvd_sub k k3
/-- where no two are apart, each day that was met so far is not apart from the next -/
theorem next_ok {ws : List Wd} {ds : List Int} {day : Int} {i : Nat} (hi : i < ws.length) (ok : ∀ i j, i < j → j < ws.length → ¬ Ap ws ds i j) (h : ∀ j, j < i → ((zW ws j : Nat) : Int) ∣ day - ds.getD j 0) : (Int.gcd (lcN (zW ws) i : Nat) (zW ws i : Nat) : Int) ∣ ds.getD i 0 - day := by
  show ((Nat.gcd (lcN (zW ws) i) (zW ws i) : Nat) : Int) ∣ _
  rw [ncast_dvd]
  refine gcd_lcN fun j hj => ?_
  rw [← ncast_dvd]
  have k1 := Classical.not_not.mp (ok j i hj hi)
  have k2 : ((Nat.gcd (zW ws j) (zW ws i) : Nat) : Int) ∣ day - ds.getD j 0 := Int.dvd_trans (Int.natCast_dvd_natCast.mpr (Nat.gcd_dvd_left _ _)) (h j hj)
  have : ds.getD i 0 - day = (ds.getD i 0 - ds.getD j 0) - (day - ds.getD j 0) := by omega
  rw [this]
  exact Int.dvd_sub k1 k2
abbrev TE_meet1 (C CM : Addr) (E : XK) : TE := tCall (spNaX C CM) [] E (tCons (tVar 6) (tCons (tVar 8) tNil))
section
variable {P : Program} {w : World} {K : PySem.W.Frag} {mg : Str → Option Value} {base : Heap} {C CM CY : Addr}
theorem ok_mr (D : Df K mg "meet_round" s_meet_round []) (f_common_multiple : Ca P w K mg base CX0 2 "common_multiple" s_common_multiple [] ["one", "two"] spCm) (f_Wheel_len : Cm P w K mg base CX0 1 C "__len__" "Wheel.__len__" s_Wheel_len ["self"] (spWn C)) (g_len : mg "len" = none) : Ca P w K mg base CX0 3 "meet_round" s_meet_round [] ["wheels"] (spMr C) := by
  refine ca0 (k := 2) D c_meet_round (fun vs H Q E h => ?_) fun f cdv A outer s H vs Q E hr h => ?_
  · obtain ⟨lw, ps, ws, rfl, _⟩ := h
    rfl
  · obtain ⟨lw, ps, ws, rfl, hw, g, q⟩ := h
    refine ⟨_, (pss_cons (ps_set (i := 1) c_meet_round.nd rfl (.inl rfl) pe_int)
      (pss_cons (ps_for PassesOwn.never rfl (pi_list (pv 0)) (pg_name (i := 2) c_meet_round.nd rfl (.inl rfl)) (pss_one (ps_set (i := 1) c_meet_round.nd rfl (.inl rfl) (pe_ca f_common_multiple b_common_multiple hr (by decide) pass0 rfl (pa_cons (pv 1) (pa_cons (pe_callB (call_lenC f_Wheel_len b_Wheel_len (hr.mono (by decide)) pass0) rfl g_len (by decide +kernel) (pa_cons (pv 2) pa_nil)) pa_nil))))))
      (pss_one (ps_ret (pv 1))))), ?_⟩
    refine ⟨_, rfl, lw, rfl, ⟨_, SqL.of hw.l⟩, for_list (K := K) (a := lw) (xs := ps.map V.ref) (fun i σ H' => ∃ v2 : Option V, σ = [some (.ref lw), some (.int (lcN (zW ws) i : Nat)), v2] ∧ H' = H) ⟨_, rfl, rfl⟩ (fun i σ H' _ ⟨_, _, e⟩ => by rw [e]; exact SqL.of hw.l) ?_ ?_⟩
    · rintro i v σ H' hv ⟨v2, rfl, rfl⟩
      obtain ⟨p, x, rfl, hx, hp⟩ := hw.el hv
      obtain ⟨dx, t, ep, _⟩ := id hp
      have hl : i < ws.length := (List.getElem?_eq_some_iff.mp hx).1
      have gx := g.at hx
      obtain ⟨l0, _, zl⟩ := g.lc (Nat.le_of_lt hl)
      have := gx.pos
      refine ⟨_, rfl, _, rfl, p, dx, _, rfl, ep, p, x, rfl, hp, gx, _, rfl, lt60 gx.len, ?_⟩
      refine ⟨_, _, rfl, by omega, by omega, zl.mono (by decide), zlen gx.len (by decide), ?_⟩
      refine ⟨some (.ref p), ?_, rfl⟩
      rw [lcI_nat l0, ← zW_at hx]
      rfl
    · rintro σ H' ⟨v2, rfl, rfl⟩
      refine ⟨_, rfl, ?_⟩
      rw [hw.ln]
      exact q
theorem ok_rf (D : Df K mg "refuse_apart" s_refuse_apart []) (T : NyT K mg CY) (nc : Cx1 P w K mg base 1 CY "NoDay.__init__" s_NoDay_init ["self", "one", "two"] (spNy CY)) (f_common_divisor : Ca P w K mg base CX0 1 "common_divisor" s_common_divisor [] ["one", "two"] spGcd) (f_Wheel_len : Cm P w K mg base CX0 1 C "__len__" "Wheel.__len__" s_Wheel_len ["self"] (spWn C)) (g_len : mg "len" = none) (g_range : mg "range" = none) : Ca P w K mg base (L2.CX P w) 4 "refuse_apart" s_refuse_apart [] ["wheels", "days"] (spRf C CY) := by
  refine caX (k := 3) D c_refuse_apart (fun vs H Q E h => ?_) fun f cdv A outer s H vs Q E hr h => ?_
  · obtain ⟨lw, ld, ps, ws, ds, rfl, _⟩ := h
    rfl
  · obtain ⟨lw, ld, ps, ws, ds, rfl, hw, g, hd, ln, qok, qbad⟩ := h
    refine ⟨_, (pss_one (ps_for (passes_of rfl) rfl (pi_range1 rfl g_range (pa_cons (pe_callB call_len_seq rfl g_len (by decide +kernel) (pa_cons (pv 0) pa_nil)) pa_nil)) (pg_name (i := 2) c_refuse_apart.nd rfl (.inl rfl)) (pss_one (ps_for (passes_of rfl) rfl (pi_rangeA rfl g_range (pa_cons (pe_op op_add (pv 2) pe_int) (pa_cons (pe_callB call_len_seq rfl g_len (by decide +kernel) (pa_cons (pv 0) pa_nil)) pa_nil))) (pg_name (i := 3) c_refuse_apart.nd rfl (.inl rfl)) (pss_one (ps_if (pt_cmpR op_ne (pe_op op_mod (pe_op op_sub (pe_ix ix_list (pv 1) (pv 3) (fun _ _ => rfl)) (pe_ix ix_list (pv 1) (pv 2) (fun _ _ => rfl))) (pe_ca f_common_divisor b_common_divisor hr (by decide) pass0 rfl (pa_cons (pe_callB (call_lenC f_Wheel_len b_Wheel_len (hr.mono (by decide)) pass0) rfl g_len (by decide +kernel) (pa_cons (pe_ix ix_list (pv 0) (pv 2) (fun _ _ => rfl)) pa_nil)) (pa_cons (pe_callB (call_lenC f_Wheel_len b_Wheel_len (hr.mono (by decide)) pass0) rfl g_len (by decide +kernel) (pa_cons (pe_ix ix_list (pv 0) (pv 3) (fun _ _ => rfl)) pa_nil)) pa_nil)))) pe_int (nomark _)) (pss_one (ps_raise rfl (takes_of (E := E) rfl rfl rfl rfl) (mk_ny T nc (hr.mono (by decide)) rfl (pa_cons (pv 2) (pa_cons (pv 3) pa_nil))))) pss_nil)))))), ?_⟩
    have hn := g.n
    refine ⟨_, rfl, lw, _, rfl, .inl (SqL.of hw.l), _, rfl, by rw [hw.ln]; omega, by rw [hw.ln]; omega, ?_⟩
    rw [hw.ln, Int.toNat_natCast]
    refine for_range (n := ws.length) (fun i σ H' => ∃ v2 v3 : Option V, σ = [some (.ref lw), some (.ref ld), v2, v3] ∧ H' = H ∧ ∀ a c, a < i → a < c → c < ws.length → ¬ Ap ws ds a c) ⟨_, _, rfl, rfl, fun a c h => absurd h (by omega)⟩ ?_ ?_
    · rintro i σ H' hi ⟨v2, v3, rfl, rfl, row⟩
      rw [show (0 : Int) + (i : Int) = (i : Int) by omega]
      refine ⟨_, rfl, _, _, rfl, rfl, _, rfl, lw, _, rfl, .inl (SqL.of hw.l), _, _, rfl, ?_⟩
      rw [hw.ln, show ((ws.length : Int) - ((i : Int) + 1)).toNat = ws.length - (i + 1) by omega]
      refine for_range (n := ws.length - (i + 1)) (fun k σ H'' => ∃ v3 : Option V, σ = [some (.ref lw), some (.ref ld), some (.int (i : Int)), v3] ∧ H'' = H' ∧ ∀ c, i < c → c < i + 1 + k → ¬ Ap ws ds i c) ⟨_, rfl, rfl, fun c h1 h2 => absurd h2 (by omega)⟩ ?_ ?_
      · rintro k σ H'' hk ⟨v3, rfl, rfl, cl⟩
        rw [show (i : Int) + 1 + (k : Int) = ((i + 1 + k : Nat) : Int) by omega]
        obtain ⟨c, hc⟩ : ∃ c, c = i + 1 + k := ⟨_, rfl⟩
        have cl' : ∀ c', i < c' → c' < c → ¬ Ap ws ds i c' := by rw [hc]; exact cl
        rw [← hc]
        have hcl : c < ws.length := by omega
        have xi := List.getElem?_eq_getElem hi
        have xc := List.getElem?_eq_getElem hcl
        have di : ds[i]? = some (ds.getD i 0) := by
          have : i < ds.length := by omega
          rw [List.getD_eq_getElem?_getD, List.getElem?_eq_getElem this]; rfl
        have dc : ds[c]? = some (ds.getD c 0) := by
          have : c < ds.length := by omega
          rw [List.getD_eq_getElem?_getD, List.getElem?_eq_getElem this]; rfl
        have mi : atI (ds.map V.int) ((i : Nat) : Int) = some (.int (ds.getD i 0)) := atI_nat (by rw [List.getElem?_map, di]; rfl)
        have mc : atI (ds.map V.int) ((c : Nat) : Int) = some (.int (ds.getD c 0)) := atI_nat (by rw [List.getElem?_map, dc]; rfl)
        obtain ⟨pi, hpi, wi⟩ := hw.at xi
        obtain ⟨pc, hpc, wc⟩ := hw.at xc
        obtain ⟨dxi, ti, epi, _⟩ := id wi
        obtain ⟨dxc, tc, epc, _⟩ := id wc
        have gi := g.at xi
        have gc := g.at xc
        have pgi := gi.pos
        refine ⟨_, rfl, _, rfl, ld, _, _, _, rfl, rfl, SqL.of hd, mc, _, rfl, _, rfl, ld, _, _, _, rfl, rfl, SqL.of hd, mi, _, _, rfl, rfl, ?_⟩
        refine ⟨_, rfl, _, rfl, lw, _, _, _, rfl, rfl, SqL.of hw.l, atI_nat hpi, pi, dxi, _, rfl, epi, pi, ws[i], rfl, wi, gi, _, rfl, lt60 gi.len, ?_⟩
        refine ⟨_, rfl, _, rfl, lw, _, _, _, rfl, rfl, SqL.of hw.l, atI_nat hpc, pc, dxc, _, rfl, epc, pc, ws[c], rfl, wc, gc, _, rfl, lt60 gc.len, ?_⟩
        refine ⟨_, _, rfl, _, _, rfl, rfl, ?_, rfl, _, rfl, ?_⟩
        · show (0 : Int) < ((Nat.gcd ws[i].1.length ws[c].1.length : Nat) : Int)
          have := Nat.gcd_pos_of_pos_left ws[c].1.length pgi
          omega
        have key : Ap ws ds i c ↔ ¬ (ds.getD c 0 - ds.getD i 0) % ((Nat.gcd ws[i].1.length ws[c].1.length : Nat) : Int) = 0 := by
          unfold Ap
          rw [zW_at xi, zW_at xc, Int.dvd_iff_emod_eq_zero]
        by_cases hb : Ap ws ds i c
        · have hb' := key.mp hb
          have e1 : (!decide (V.int ((ds.getD c 0 - ds.getD i 0) % ((Nat.gcd ws[i].1.length ws[c].1.length : Nat) : Int)) = V.int 0)) = true := by simpa using hb'
          refine yes' e1 ?_
          refine ⟨_, rfl, _, rfl, ?_⟩
          exact rd_ny (qbad i c ⟨by omega, hcl, hb, row, cl'⟩) (Same.refl _)
        · have hb' : (ds.getD c 0 - ds.getD i 0) % ((Nat.gcd ws[i].1.length ws[c].1.length : Nat) : Int) = 0 := Classical.not_not.mp fun z => hb (key.mpr z)
          have e1 : (!decide (V.int ((ds.getD c 0 - ds.getD i 0) % ((Nat.gcd ws[i].1.length ws[c].1.length : Nat) : Int)) = V.int 0)) = false := by simpa using hb'
          refine no' e1 ?_
          refine ⟨_, rfl, rfl, fun c' h1 h2 => ?_⟩
          by_cases z : c' = c
          · rw [z]; exact hb
          · exact cl' c' h1 (by omega)
      · rintro σ H'' ⟨v3, rfl, rfl, cl⟩
        refine ⟨_, _, rfl, rfl, fun a c h1 h2 h3 => ?_⟩
        by_cases z : a = i
        · subst z
          exact cl c h2 (by omega)
        · exact row a c (by omega) h2 h3
    · rintro σ H' ⟨v2, v3, rfl, rfl, row⟩
      exact qok fun i j h1 h2 => row i j (by omega) h1 h2
theorem ok_meX (D : Df K mg "meet" s_meet [.int 0]) (f_named_day : Ca P w K mg base (L2.CX P w) 3 "named_day" s_named_day [] ["wheel", "name"] (spNaX C CM)) (f_refuse_apart : Ca P w K mg base (L2.CX P w) 4 "refuse_apart" s_refuse_apart [] ["wheels", "days"] (spRf C CY)) (f_meeting_day : Ca P w K mg base CX0 2 "meeting_day" s_meeting_day [] ["one", "one_step", "two", "two_step"] spMd)
    (f_common_multiple : Ca P w K mg base CX0 2 "common_multiple" s_common_multiple [] ["one", "two"] spCm) (f_first_alike : Ca P w K mg base CX0 1 "first_alike" s_first_alike [] ["day", "step", "after"] spAlk) (f_Wheel_len : Cm P w K mg base CX0 1 C "__len__" "Wheel.__len__" s_Wheel_len ["self"] (spWn C)) (g_len : mg "len" = none) (g_zip : mg "zip" = none) :
    Ca P w K mg base (L2.CX P w) 5 "meet" s_meet [.int 0] ["wheels", "wants", "after"] (spMeX C CM CY) := by
  refine caX (k := 4) D c_meet (fun vs H Q E h => ?_) fun f cdv A outer s H vs Q E hr h => ?_
  · obtain ⟨lw, lx, ps, ws, xs, a, rfl, _⟩ := h
    rfl
  · obtain ⟨lw, lx, ps, ws, xs, a, rfl, hw, g, z2, hx, lnx, lz, qq, qm⟩ := h
    refine ⟨_, (pss_cons (ps_setLcE rfl rfl (takes_of (E := E) rfl rfl rfl rfl) (i := 3) (own := [("wheel", 6), ("name", 8)]) (g := gTup K 2 (gCons (gName 6) (gCons (gName 8) gNil))) (tt := tYes) (te := TE_meet1 C CM E) rfl c_meet.nd rfl rfl (sw_true rfl rfl rfl (by decide +kernel)) (pi_zip rfl g_zip (pa_cons (pv 0) (pa_cons (pv 1) pa_nil))) (blkOk_by (N := ["wheels", "wants", "after", "days", "day", "step", "wheel", "wished", "name"]) (sc := defScope s_meet) (by decide +kernel)) (fun _ _ _ _ _ _ => (pg_tup rfl (pgs_cons (pg_name (i := 6) c_meet.nd rfl (.inl rfl)) (pgs_cons (pg_name (i := 8) c_meet.nd rfl (.inl rfl)) pgs_nil)))) (fun _ _ _ _ _ _ => by exact pts_nil) (fun _ _ _ _ _ _ tk => by exact (pe_ca f_named_day b_named_day hr (by decide) (passes_call (E := E) tk fun _ _ _ _ z => z) rfl (pa_cons (pv 6) (pa_cons (pv 8) pa_nil)))))
      (pss_cons (ps_expr (pe_ca f_refuse_apart b_refuse_apart hr (by decide) (passes_call (takes_of (E := E) rfl rfl rfl rfl) fun _ _ _ _ z => z) rfl (pa_cons (pv 0) (pa_cons (pv 3) pa_nil))))
      (pss_cons (ps_asg (pe_tup (pa_cons pe_int (pa_cons pe_int pa_nil))) (pg_tup rfl (pgs_cons (pg_name (i := 4) c_meet.nd rfl (.inl rfl)) (pgs_cons (pg_name (i := 5) c_meet.nd rfl (.inl rfl)) pgs_nil))))
      (pss_cons (ps_for (passes_of rfl) rfl (pi_zip rfl g_zip (pa_cons (pv 0) (pa_cons (pv 3) pa_nil))) (pg_tup rfl (pgs_cons (pg_name (i := 6) c_meet.nd rfl (.inl rfl)) (pgs_cons (pg_name (i := 7) c_meet.nd rfl (.inl rfl)) pgs_nil))) (pss_cons (ps_set (i := 4) c_meet.nd rfl (.inl rfl) (pe_ca f_meeting_day b_meeting_day hr (by decide) pass0 rfl (pa_cons (pv 4) (pa_cons (pv 5) (pa_cons (pv 7) (pa_cons (pe_callB (call_lenC f_Wheel_len b_Wheel_len (hr.mono (by decide)) pass0) rfl g_len (by decide +kernel) (pa_cons (pv 6) pa_nil)) pa_nil))))))
      (pss_one (ps_set (i := 5) c_meet.nd rfl (.inl rfl) (pe_ca f_common_multiple b_common_multiple hr (by decide) pass0 rfl (pa_cons (pv 5) (pa_cons (pe_callB (call_lenC f_Wheel_len b_Wheel_len (hr.mono (by decide)) pass0) rfl g_len (by decide +kernel) (pa_cons (pv 6) pa_nil)) pa_nil)))))))
      (pss_one (ps_ret (pe_ca f_first_alike b_first_alike hr (by decide) pass0 rfl (pa_cons (pv 4) (pa_cons (pv 5) (pa_cons (pv 2) pa_nil)))))))))), ?_⟩
    have hn := g.n
    refine ⟨_, rfl, _, rfl, lw, lx, _, _, rfl, SqL.of hw.l, SqL.of hx, fun D0 nD => ?_⟩
    refine lc_intsP (walk_zip (n := ws.length) (K := K) (a := lw) (b := lx) (xs := ps.map V.ref) (ys := xs.map V.str) (by rw [hw.ln, List.length_map, lnx]; omega)) yPair_same nD (Nat.lt_of_le_of_lt hn (by decide)) (dsW ws xs) (fun j => ∀ x n, ws[j]? = some x → xs[j]? = some n → n ∈ x.1) (fun H' s' => ⟨SqL.of (s' _ _ hw.l), SqL.of (s' _ _ hx)⟩) ?_ ?_
    · rintro i v H1 H2 R hi pv1 s1 ⟨T, x1, x2, rfl, nT, rfl, g1, g2⟩ k1
      have g1 : (ps.map V.ref)[i]? = some x1 := g1
      have g2 : (xs.map V.str)[i]? = some x2 := g2
      obtain ⟨p, x, rfl, ex, _⟩ := hw.el g1
      have sT := s1.trans (Same.new (o := .tup [.ref p, x2]) nT)
      obtain ⟨p', x', e1, ex', wp⟩ := (hw.same sT).el g1
      cases e1
      rw [ex] at ex'
      cases ex'
      rw [List.getElem?_map] at g2
      cases hn2 : xs[i]? with
      | none => rw [hn2] at g2; cases g2
      | some n =>
        rw [hn2] at g2
        cases g2
        refine ⟨T, _, rfl, SqT.of upd_same, rfl, _, _, rfl, _, _, rfl, rfl, rfl, ?_⟩
        refine ⟨_, rfl, _, rfl, p, n, x, rfl, wp, g.at ex, lz n (List.mem_of_getElem? hn2), fun hm => ?_, fun hm => ?_⟩
        · have := k1 (fun y m e1 e2 => by rw [ex] at e1; rw [hn2] at e2; cases e1; cases e2; exact hm) _ (Same.refl _)
          unfold dsW at this
          rw [List.getD_eq_getElem?_getD, List.getD_eq_getElem?_getD, ex, hn2] at this
          exact this
        · exact (qm i x n ex hn2 hm fun j y m hj e1 e2 => pv1 j hj y m e1 e2).same sT
    intro H1 allN eD s1
    have wn : Wn ws xs := ⟨lnx, fun j x n e1 e2 => allN j (List.getElem?_eq_some_iff.mp e1).1 x n e1 e2⟩
    obtain ⟨qok, qbad⟩ := qq wn
    have eD : H1 D0 = some (.lst ((dlW ws xs).map V.int)) := eD
    have ld : (dlW ws xs).length = ws.length := by unfold dlW; rw [List.length_map, List.length_range]
    have hw1 := hw.same s1
    refine ⟨_, rfl, _, rfl, lw, D0, ps, ws, dlW ws xs, rfl, hw1, g, eD, ld, fun ok => ?_, fun i j fp => (qbad i j fp).same s1⟩
    refine ⟨(by show 2 ≤ sizeLine; decide), fun p2 np2 => ?_⟩
    refine ⟨p2, _, rfl, SqT.of upd_same, rfl, _, _, rfl, _, _, rfl, rfl, ?_⟩
    have s2 := s1.trans (Same.new (o := .tup [.int 0, .int 1]) np2)
    have eD2 := Same.new (o := .tup [.int 0, .int 1]) np2 _ _ eD
    generalize L2.upd H1 p2 _ = H2 at *
    have hw2 := hw.same s2
    refine ⟨_, rfl, _, rfl, lw, D0, _, _, rfl, SqL.of hw2.l, SqL.of eD2, ?_⟩
    refine for_it (walk_zip (n := ws.length) (K := K) (a := lw) (b := D0) (xs := ps.map V.ref) (ys := (dlW ws xs).map V.int) (by rw [hw.ln, List.length_map, ld]; omega))
      (fun i σ H3 => ∃ (day : Int) (v6 v7 : Option V), σ = [some (.ref lw), some (.ref lx), some (.int a), some (.ref D0), some (.int day), some (.int (lcN (zW ws) i : Nat)), v6, v7, none] ∧ Same H2 H3 ∧ 0 ≤ day ∧ day < 2 ^ (6 * i + 1) ∧ ∀ j, j < i → ((zW ws j : Nat) : Int) ∣ day - (dlW ws xs).getD j 0)
      ⟨0, _, _, rfl, Same.refl _, Int.le_refl _, by decide, fun j h => absurd h (by omega)⟩ (fun i σ H3 _ ⟨_, _, _, _, s3, _⟩ => ⟨SqL.of (s3 _ _ hw2.l), SqL.of (s3 _ _ eD2)⟩) ?_ ?_
    · rintro i v σ H3 H4 hi ⟨day, v6, v7, rfl, s3, d0, d1, dv⟩ ⟨T, x1, x2, rfl, nT, rfl, g1, g2⟩
      have g1 : (ps.map V.ref)[i]? = some x1 := g1
      have g2 : ((dlW ws xs).map V.int)[i]? = some x2 := g2
      have s4 := s3.trans (Same.new (o := .tup [x1, x2]) nT)
      obtain ⟨p, x, rfl, ex, wp⟩ := (hw2.same s4).el g1
      obtain ⟨dx, t, ep, _⟩ := id wp
      have e2 : x2 = .int ((dlW ws xs).getD i 0) := by
        rw [List.getElem?_map, List.getElem?_eq_getElem (by omega)] at g2
        rw [List.getD_eq_getElem?_getD, List.getElem?_eq_getElem (by omega)]
        exact (Option.some.inj g2).symm
      subst e2
      refine ⟨T, _, rfl, SqT.of upd_same, rfl, _, _, rfl, _, _, rfl, rfl, ?_⟩
      generalize L2.upd H3 T _ = H4 at *
      have gx := g.at ex
      have px := gx.pos
      have zx := gx.len
      obtain ⟨l0, l1, zl⟩ := g.lc (Nat.le_of_lt hi)
      have cmp := next_ok hi ok dv
      rw [zW_at ex] at cmp
      have i60 : 6 * i + 1 ≤ 355 := by omega
      have zday : Sz 400 day := zpos d0 d1 (by omega)
      have zw : Sz 400 ((dlW ws xs).getD i 0) := by
        have hl : i < xs.length := by rw [wn.n]; exact hi
        rw [(dlW_at ex (List.getElem?_eq_getElem hl)).2]
        unfold dyA
        have zf := z2 x (List.mem_of_getElem? ex)
        have hm := wn.m i x _ ex (List.getElem?_eq_getElem hl)
        have hi' := List.idxOf_lt_length_iff.mpr hm
        exact (zf.add (zlen (n := x.1.idxOf xs[i]) (by omega) (by decide)) (m := 101) (by decide)).mono (by decide)
      refine ⟨_, rfl, _, rfl, _, rfl, _, rfl, p, dx, _, rfl, ep, p, x, rfl, wp, gx, _, rfl, lt60 gx.len, ?_⟩
      refine ⟨_, _, _, _, rfl, by omega, by omega, zday.mono (by decide), zl.mono (by decide), zw.mono (by decide), zlen zx (by decide), cmp, fun v H5 s5 w1 w2 w3 w4 => ?_⟩
      have wp5 := wp.same s5
      refine ⟨_, rfl, _, rfl, p, dx, _, rfl, s5 _ _ ep, p, x, rfl, wp5, gx, _, rfl, lt60 gx.len, ?_⟩
      refine ⟨_, _, rfl, by omega, by omega, zl.mono (by decide), zlen zx (by decide), ?_⟩
      refine ⟨v, some (.ref p), some (.int ((dlW ws xs).getD i 0)), ?_, s4.trans s5, by omega, ?_, fun j hj => ?_⟩
      · rw [lcI_nat l0, ← zW_at ex]
        rfl
      · have m1 : x.1.length * lcN (zW ws) i ≤ 2 ^ 6 * 2 ^ (6 * i) := Nat.mul_le_mul (by omega) l1
        rw [← Nat.pow_add, Nat.add_comm] at m1
        have m2 : (x.1.length : Int) * ((lcN (zW ws) i : Nat) : Int) ≤ 2 ^ (6 * i + 6) := by exact_mod_cast m1
        have m3 : (2 : Int) ^ (6 * (i + 1) + 1) = 2 * 2 ^ (6 * i + 6) := by rw [show 6 * (i + 1) + 1 = (6 * i + 6) + 1 by omega, Int.pow_succ, Int.mul_comm]
        have m4 : (2 : Int) ^ (6 * i + 1) ≤ 2 ^ (6 * i + 6) := p2le (by omega)
        rw [m3]
        omega
      · by_cases z : j = i
        · subst z
          rw [zW_at ex]
          exact w2
        · have k1 := dv j (by omega)
          have k2 : ((zW ws j : Nat) : Int) ∣ v - day := Int.dvd_trans (Int.natCast_dvd_natCast.mpr (lcN_dvd (show j < i by omega))) w1
          have : v - (dlW ws xs).getD j 0 = (v - day) + (day - (dlW ws xs).getD j 0) := by omega
          rw [this]
          exact Int.dvd_add k2 k1
    · rintro σ H3 ⟨day, v6, v7, rfl, s3, d0, d1, dv⟩
      obtain ⟨l0, _, _⟩ := g.lc (Nat.le_refl _)
      refine ⟨_, rfl, _, rfl, _, rfl, _, _, _, rfl, by omega, ?_⟩
      exact qok ok _ H3 (s2.trans s3) (met_all g wn dv)
end
/-! what is drawn -/
def spDay : Sp := fun vs H Q _ => ∃ (l : Addr) (n : Nat), vs = [.ref l] ∧ Dr H l n ∧ n ≤ 1000000 ∧ ∀ v H', Sz 64 v → But l H H' → Dr H' l (n + 1) → Q (.int v) H'
section
variable {P : Program} {w : World} {K : PySem.W.Frag} {mg : Str → Option Value} {base : Heap}
theorem ok_lday (D : Df K mg "_law_day" s_l_day []) (nx : Ca P w K mg base CX0 1 "_law_next" s_l_next [] ["_law_draws_here"] spNext) : Ca P w K mg base CX0 2 "_law_day" s_l_day [] ["_law_draws_here"] spDay := by
  refine ca0 (k := 1) D c_l_day (fun vs H Q E h => ?_) fun f cdv A outer s H vs Q E hr h => ?_
  · obtain ⟨l, n, rfl, _⟩ := h
    rfl
  · obtain ⟨l, n, rfl, d, hn, q⟩ := h
    refine ⟨_, pss_cons (ps_set (i := 1) c_l_day.nd rfl (.inl rfl) (pe_ca nx b_l_next hr (by decide) pass0 rfl (pa_cons (pv 0) pa_nil)))
      (pss_cons (ps_set (i := 2) c_l_day.nd rfl (.inl rfl) (pe_lst (pa_cons (pe_op op_mod (pe_op op_fdiv (pv 1) pe_int) pe_int) (pa_cons (pe_op op_sub pe_int (pe_op op_mod (pe_op op_fdiv (pv 1) pe_int) pe_int)) (pa_cons (pe_op op_sub (pe_op op_mul (pe_op op_fdiv (pv 1) pe_int) (pe_op op_pow pe_int pe_int)) (pe_op op_pow pe_int pe_int)) pa_nil)))))
      (pss_one (ps_ret (pe_ix ix_list (pe_op op_cat (pv 2) (pe_lst (pa_cons (pe_op op_sub (pe_op op_pow pe_int pe_int) (pe_op op_fdiv (pv 1) pe_int)) pa_nil))) (pe_op op_mod (pv 1) pe_int) (fun _ _ => rfl))))), ?_⟩
    refine ⟨_, rfl, l, n, rfl, d, hn, fun v H1 v0 v1 b1 d1 => ?_⟩
    refine ⟨_, rfl, _, _, rfl, rfl, ⟨by decide, by decide⟩, _, _, rfl, rfl, md, _, rfl, _, _, rfl, rfl, ⟨by decide, by decide⟩, _, _, rfl, rfl, md, _, _, rfl, rfl, _, rfl, _, _, rfl, rfl, ⟨by decide, by decide⟩, _, _, rfl, rfl, ⟨by decide, by decide, by decide⟩, _, _, rfl, rfl, .inl ⟨by omega, by omega⟩, _, _, rfl, rfl, ⟨by decide, by decide, by decide⟩, _, _, rfl, rfl, (by show 3 ≤ sizeLine; decide), fun p hp => ?_⟩
    refine ⟨_, rfl, _, _, rfl, rfl, ⟨by decide, by decide, by decide⟩, _, rfl, _, _, rfl, rfl, ⟨by decide, by decide⟩, _, _, rfl, rfl, (by show 1 ≤ sizeLine; decide), fun p2 hp2 => ?_⟩
    have nep : p ≠ p2 := ne_of_none upd_same hp2
    refine ⟨p, p2, _, _, rfl, rfl, (by rw [upd_ne nep]; exact upd_same), upd_same, (by show 4 ≤ sizeLine; decide), fun p3 hp3 => ?_⟩
    have h1 := Int.emod_nonneg v (show (4 : Int) ≠ 0 by decide)
    have h2 := Int.emod_lt_of_pos v (show (0 : Int) < 4 by decide)
    have a1 := Int.emod_nonneg (v / 4) (show (800 : Int) ≠ 0 by decide)
    have a2 := Int.emod_lt_of_pos (v / 4) (show (0 : Int) < 800 by decide)
    obtain ⟨x, hx, x', rfl, zx⟩ := pick (P := fun x => ∃ i : Int, x = V.int i ∧ Sz 64 i) (xs := [.int (v / 4 % 800), .int (0 - v / 4 % 800), .int (v / 4 * 10 ^ (9 : Int).toNat - 10 ^ (17 : Int).toNat), .int (10 ^ (19 : Int).toNat - v / 4)]) h1 h2 (by
      have e9 : (10 : Int) ^ (9 : Int).toNat = 1000000000 := by decide
      have e17 : (10 : Int) ^ (17 : Int).toNat = 100000000000000000 := by decide
      have e19 : (10 : Int) ^ (19 : Int).toNat = 10000000000000000000 := by decide
      have e64 : (2 : Int) ^ 64 = 18446744073709551616 := by decide
      intro x hx
      rcases List.mem_cons.mp hx with rfl | hx
      · exact ⟨_, rfl, Sz.of (by omega) (by omega)⟩
      rcases List.mem_cons.mp hx with rfl | hx
      · exact ⟨_, rfl, Sz.of (by omega) (by omega)⟩
      rcases List.mem_cons.mp hx with rfl | hx
      · exact ⟨_, rfl, Sz.of (by rw [e9, e17, e64]; omega) (by rw [e9, e17, e64]; omega)⟩
      rcases List.mem_cons.mp hx with rfl | hx
      · exact ⟨_, rfl, Sz.of (by rw [e19, e64]; omega) (by rw [e19, e64]; omega)⟩
      · cases hx)
    refine ⟨_, rfl, _, _, rfl, rfl, md, p3, _, _, _, rfl, rfl, SqL.of upd_same, hx, ?_⟩
    exact q x' _ zx (((b1.upd hp).upd hp2).upd hp3) (((d1.new hp).new hp2).new hp3)
end
/-! ### what the law draws -/
theorem ne_of_none' {H : Hp} {l p : Addr} {n : Nat} (d : Dr H l n) (e : H p = none) : p ≠ l := by
  obtain ⟨_, _, _, h, _⟩ := d
  exact (ne_of_none h e).symm
def spFar : Sp := fun vs H Q _ => ∃ (l : Addr) (n : Nat), vs = [.ref l] ∧ Dr H l n ∧ n ≤ 1000000 ∧ ∀ v H', Sz 64 v → But l H H' → Dr H' l (n + 1) → Q (.int v) H'
def inS (k : Nat) : Str := Str.ofString (toString (k : Int))
theorem md0 (v : Int) {j : Int} (h : 0 < j := by decide) : 0 ≤ v % j := Int.emod_nonneg _ (by omega)
theorem md1 (v : Int) {j : Int} (h : 0 < j := by decide) : v % j < j := Int.emod_lt_of_pos _ h
theorem pickI {xs : List Int} {z : Int} {P : Int → Prop} (h0 : 0 ≤ z) (h1 : z < xs.length) (h : ∀ x ∈ xs, P x) : ∃ v, atI (xs.map V.int) z = some (.int v) ∧ P v := by
  obtain ⟨v, e, i, rfl, p⟩ := pick (P := fun x => ∃ i : Int, x = V.int i ∧ P i) (xs := xs.map V.int) h0 (by rw [List.length_map]; exact h1) (by
    intro x hx
    obtain ⟨i, hi, rfl⟩ := List.mem_map.mp hx
    exact ⟨i, rfl, h i hi⟩)
  exact ⟨i, e, p⟩
theorem But.putN {l p : Addr} {H H1 : Hp} {o : HO} (a : But l H H1) (h : H p = none) : But l H (L2.upd H1 p o) := fun c u hc e => by
  rw [upd_ne (ne_of_none e h)]
  exact a c u hc e
theorem Dr.put {H : Hp} {l p : Addr} {n : Nat} {o : HO} (d : Dr H l n) (h : p ≠ l) : Dr (L2.upd H p o) l n := by
  obtain ⟨a, k, f, e, z⟩ := d
  exact ⟨a, k, f, by rw [upd_ne (fun z => h z.symm)]; exact e, z⟩
theorem four_at {a b c d : V} {z : Int} {r : V} (h0 : 0 ≤ z) (h1 : z < 4) (e0 : z = 0 → r = a) (e1 : z = 1 → r = b) (e2 : z = 2 → r = c) (e3 : z = 3 → r = d) : atI [a, b, c, d] z = some r := by
  have : z = 0 ∨ z = 1 ∨ z = 2 ∨ z = 3 := by omega
  rcases this with e | e | e | e
  · rw [e0 e, e]; rfl
  · rw [e1 e, e]; rfl
  · rw [e2 e, e]; rfl
  · rw [e3 e, e]; rfl
section
variable {P : Program} {w : World} {K : PySem.W.Frag} {mg : Str → Option Value} {base : Heap}
theorem ok_lfar62 (D : Df K mg "_law_far" s_l_far []) (f_l_next : Ca P w K mg base CX0 1 "_law_next" s_l_next [] ["_law_draws_here"] spNext) : Ca P w K mg base CX0 2 "_law_far" s_l_far [] ["_law_draws_here"] spFar := by
  refine ca0 (k := 1) D c_l_far (fun vs H Q E h => ?_) fun f cdv A outer s H vs Q E hr h => ?_
  · obtain ⟨l, n, rfl, _⟩ := h
    rfl
  · obtain ⟨l, n, rfl, d, hn, q⟩ := h
    refine ⟨_, (pss_cons (ps_set (i := 1) c_l_far.nd rfl (.inl rfl) (pe_ca f_l_next b_l_next hr (by decide) pass0 rfl (pa_cons (pv 0) pa_nil)))
      (pss_one (ps_ret (pe_ix ix_list (pe_lst (pa_cons pe_int (pa_cons (pe_op op_mod (pe_op op_fdiv (pv 1) pe_int) pe_int) (pa_cons (pe_op op_sub pe_int (pe_op op_mod (pe_op op_fdiv (pv 1) pe_int) pe_int)) (pa_cons (pe_op op_sub (pe_op op_mul (pe_op op_fdiv (pv 1) pe_int) (pe_op op_pow pe_int pe_int)) (pe_op op_pow pe_int pe_int)) pa_nil))))) (pe_op op_mod (pv 1) pe_int) (fun _ _ => rfl))))), ?_⟩
    refine ⟨_, rfl, l, n, rfl, d, hn, fun v H1 v0 v1 b1 d1 => ?_⟩
    repeat (first | refine ⟨_, rfl, ?_⟩ | refine ⟨_, _, rfl, rfl, md, ?_⟩ | refine ⟨_, _, rfl, rfl, ⟨by decide, by decide⟩, ?_⟩ | refine ⟨_, _, rfl, rfl, ⟨by decide, by decide, by decide⟩, ?_⟩ | refine ⟨_, _, rfl, rfl, .inr ⟨by decide, by decide⟩, ?_⟩ | refine ⟨_, _, rfl, rfl, ?_⟩)
    have e9 : (10 : Int) ^ (9 : Int).toNat = 1000000000 := by decide
    have e17 : (10 : Int) ^ (17 : Int).toNat = 100000000000000000 := by decide
    have e64 : (2 : Int) ^ 64 = 18446744073709551616 := by decide
    refine ⟨(by show 4 ≤ sizeLine; decide), fun p np => ?_⟩
    obtain ⟨x, hx, zx⟩ := pickI (xs := [0, v / 4 % 100, 0 - v / 4 % 1000, v / 4 * 10 ^ (9 : Int).toNat - 10 ^ (17 : Int).toNat]) (P := fun j => Sz 64 j) (md0 v (j := 4)) (md1 v (j := 4)) (by
      intro x hx
      simp only [List.mem_cons, List.not_mem_nil, or_false] at hx
      rcases hx with rfl | rfl | rfl | rfl
      · exact Sz.of (by omega) (by omega)
      · exact Sz.of (by omega) (by omega)
      · exact Sz.of (by omega) (by omega)
      · exact Sz.of (by rw [e9, e17, e64]; omega) (by rw [e9, e17, e64]; omega))
    refine ⟨_, rfl, _, _, rfl, rfl, md, p, _, _, _, rfl, rfl, SqL.of upd_same, hx, ?_⟩
    exact q x _ zx (b1.upd np) (d1.new np)
end
/-! ### sizes, and the round of them -/
def zL (zs : List Nat) (j : Nat) : Nat := zs.getD j 1
def lcL (zs : List Nat) : Nat := lcN (zL zs) zs.length
abbrev nV (zs : List Nat) : List V := zs.map fun z => V.int ((z : Nat) : Int)
theorem lcN_ext {z y : Nat → Nat} : ∀ {k : Nat}, (∀ j, j < k → z j = y j) → lcN z k = lcN y k
  | 0, _ => rfl
  | k + 1, h => by
    show Nat.lcm (lcN z k) (z k) = Nat.lcm (lcN y k) (y k)
    rw [lcN_ext (fun j hj => h j (by omega)), h k (by omega)]
theorem zL_at {zs : List Nat} {j z : Nat} (h : zs[j]? = some z) : zL zs j = z := by
  unfold zL
  rw [List.getD_eq_getElem?_getD, h]
  rfl
def spRd : Sp := fun vs H Q _ => ∃ (l : Addr) (zs : List Nat), vs = [.ref l] ∧ H l = some (.lst (nV zs)) ∧ (∀ z ∈ zs, 1 ≤ z) ∧ Q (.int ((lcL zs : Nat) : Int)) H
structure SzG (zs : List Nat) : Prop where
  n : zs.length ≤ 4
  b : ∀ z ∈ zs, 1 ≤ z ∧ z ≤ 12
  c : lcL zs ≤ 1500
def spSzs : Sp := fun vs H Q _ => ∃ (l : Addr) (n : Nat), vs = [.ref l] ∧ Dr H l n ∧ n ≤ 1000 ∧ ∀ p zs H', But l H H' → Dr H' l (n + 5) → H' p = some (.lst (nV zs)) → p ≠ l → H p = none → SzG zs → Q (.ref p) H'
def muR (m : Nat) : L2.St → Hp → Nat := fun σ _ => match σ[3]? with
  | some (some (V.int b)) => m - b.toNat
  | _ => 0
theorem lcm_turn {M z c : Nat} (hM : 0 < M) (hz : 0 < z) (h : ∀ b, 1 ≤ b → b < c → ¬ z ∣ b * M) (hn : ¬ z ∣ c * M) : c * M < Nat.lcm M z := by
  obtain ⟨e, he⟩ := Nat.dvd_lcm_left M z
  have l0 := Nat.lcm_pos hM hz
  have hd : z ∣ e * M := by rw [Nat.mul_comm, ← he]; exact Nat.dvd_lcm_right M z
  have e0 : 1 ≤ e := by
    rcases Nat.eq_zero_or_pos e with k | k
    · rw [k, Nat.mul_zero] at he; omega
    · exact k
  have : c < e := by
    apply Nat.lt_of_not_le
    intro k
    rcases Nat.lt_or_eq_of_le k with k | k
    · exact h e e0 k hd
    · exact hn (k ▸ hd)
  rw [he, Nat.mul_comm M e]
  exact Nat.mul_lt_mul_of_pos_right this hM
theorem lcm_end {M z c : Nat} (hM : 0 < M) (hz : 0 < z) (h1 : 1 ≤ c) (h : ∀ b, 1 ≤ b → b < c → ¬ z ∣ b * M) (hd : z ∣ c * M) : c * M = Nat.lcm M z := by
  obtain ⟨e, he⟩ := Nat.dvd_lcm_left M z
  have l0 := Nat.lcm_pos hM hz
  have hde : z ∣ e * M := by rw [Nat.mul_comm, ← he]; exact Nat.dvd_lcm_right M z
  have e0 : 1 ≤ e := by
    rcases Nat.eq_zero_or_pos e with k | k
    · rw [k, Nat.mul_zero] at he; omega
    · exact k
  have k1 : Nat.lcm M z ≤ c * M := Nat.le_of_dvd (Nat.mul_pos h1 hM) (Nat.lcm_dvd (Nat.dvd_mul_left _ _) hd)
  have k2 : c ≤ e := by
    apply Nat.le_of_not_lt
    intro k
    exact h e e0 k hde
  have k3 : c * M ≤ e * M := Nat.mul_le_mul_right _ k2
  rw [Nat.mul_comm e M, ← he] at k3
  omega
theorem lcL_snoc (zs : List Nat) (z : Nat) : lcL (zs ++ [z]) = Nat.lcm (lcL zs) z := by
  unfold lcL
  rw [List.length_append, List.length_singleton]
  show Nat.lcm (lcN (zL (zs ++ [z])) zs.length) (zL (zs ++ [z]) zs.length) = _
  rw [lcN_ext (y := zL zs) (fun j hj => by unfold zL; rw [List.getD_eq_getElem?_getD, List.getD_eq_getElem?_getD, List.getElem?_append_left hj]), zL_at (z := z) (by rw [List.getElem?_append_right (Nat.le_refl _), Nat.sub_self]; rfl)]
section
variable {P : Program} {w : World} {K : PySem.W.Frag} {mg : Str → Option Value} {base : Heap}
theorem ok_lround (D : Df K mg "_law_round" s_l_round []) : Ca P w K mg base CX0 1 "_law_round" s_l_round [] ["_law_sizes_here"] spRd := by
  refine ca0 (k := 0) D c_l_round (fun vs H Q E h => ?_) fun f cdv A outer s H vs Q E hr h => ?_
  · obtain ⟨l, zs, rfl, _⟩ := h
    rfl
  · obtain ⟨l, zs, rfl, hl, hz, q⟩ := h
    refine ⟨_, (pss_cons (ps_set (i := 1) c_l_round.nd rfl (.inl rfl) pe_int)
      (pss_cons (ps_for PassesOwn.never rfl (pi_list (pv 0)) (pg_name (i := 2) c_l_round.nd rfl (.inl rfl)) (pss_cons (ps_set (i := 3) c_l_round.nd rfl (.inl rfl) (pv 1))
      (pss_cons (ps_while PassesOwn.never (pt_cmpR op_ne (pe_op op_mod (pv 3) (pv 2)) pe_int (nomark _)) (pss_one (ps_set (i := 3) c_l_round.nd rfl (.inl rfl) (pe_op op_add (pv 3) (pv 1)))))
      (pss_one (ps_set (i := 1) c_l_round.nd rfl (.inl rfl) (pv 3))))))
      (pss_one (ps_ret (pv 1))))), ?_⟩
    refine ⟨_, rfl, l, rfl, ⟨_, SqL.of hl⟩, for_list (K := K) (a := l) (xs := nV zs) (fun i σ H' => ∃ v2 v3 : Option V, σ = [some (.ref l), some (.int ((lcN (zL zs) i : Nat) : Int)), v2, v3] ∧ H' = H) ⟨_, _, rfl, rfl⟩ (fun i σ H' _ ⟨_, _, _, e⟩ => by rw [e]; exact SqL.of hl) ?_ ?_⟩
    · rintro i v σ H' hv ⟨v2, v3, rfl, rfl⟩
      rw [List.getElem?_map] at hv
      cases he : zs[i]? with
      | none => rw [he] at hv; cases hv
      | some z =>
        rw [he] at hv
        cases hv
        have hi : i < zs.length := (List.getElem?_eq_some_iff.mp he).1
        have z1 := hz z (List.mem_of_getElem? he)
        have M0 : 0 < lcN (zL zs) i := lcN_pos fun j hj => by
          rw [zL_at (List.getElem?_eq_getElem (show j < zs.length by omega))]
          exact hz _ (List.getElem_mem _)
        have eL : lcN (zL zs) (i + 1) = Nat.lcm (lcN (zL zs) i) z := by
          show Nat.lcm (lcN (zL zs) i) (zL zs i) = _
          rw [zL_at he]
        rw [eL]
        generalize lcN (zL zs) i = M at *
        refine ⟨_, rfl, ?_⟩
        refine while_by (fun σ H1 => ∃ c : Nat, σ = [some (.ref l), some (.int ((M : Nat) : Int)), some (.int ((z : Nat) : Int)), some (.int ((c * M : Nat) : Int))] ∧ 1 ≤ c ∧ (∀ b, 1 ≤ b → b < c → ¬ z ∣ b * M) ∧ H1 = H') (muR (Nat.lcm M z)) ⟨1, by rw [Nat.one_mul]; rfl, Nat.le_refl _, fun b h1 h2 => absurd h2 (by omega), rfl⟩ ?_ (fun σ H' R R' hq ⟨v, h1, u, h2, i, j, h3, h4, h5, h6, k, h7, h8⟩ => ⟨v, h1, u, h2, i, j, h3, h4, h5, h6, k, h7, hq _ _ h8⟩)
        rintro σ H1 ⟨c, rfl, c1, cl, rfl⟩
        refine ⟨_, rfl, _, rfl, _, _, rfl, rfl, (show (0 : Int) < (z : Int) by omega), rfl, _, rfl, ?_⟩
        have key : ((c * M : Nat) : Int) % (z : Int) = 0 ↔ z ∣ c * M := by
          rw [← Int.natCast_emod]
          constructor
          · intro h
            exact Nat.dvd_of_mod_eq_zero (by exact_mod_cast h)
          · intro h
            rw [Nat.mod_eq_zero_of_dvd h]
            rfl
        by_cases hd : z ∣ c * M
        · refine no' (by simpa using key.mpr hd) ?_
          refine ⟨_, rfl, ?_⟩
          refine ⟨some (.int ((z : Nat) : Int)), some (.int ((c * M : Nat) : Int)), ?_, rfl⟩
          rw [lcm_end M0 z1 c1 cl hd]
          rfl
        · refine yes' (by simpa using fun h => hd (key.mp h)) ?_
          have lt := lcm_turn M0 z1 cl hd
          refine ⟨_, rfl, _, rfl, _, _, rfl, rfl, ⟨c + 1, ?_, by omega, fun b h1 h2 => ?_, rfl⟩, ?_⟩
          · rw [Nat.succ_mul]
            rfl
          · by_cases e : b = c
            · rw [e]; exact hd
            · exact cl b h1 (by omega)
          · show Nat.lcm M z - ((c * M : Nat) + (M : Int)).toNat < Nat.lcm M z - (((c * M : Nat) : Int)).toNat
            omega
    · rintro σ H' ⟨v2, v3, rfl, rfl⟩
      refine ⟨_, rfl, ?_⟩
      have e : (nV zs).length = zs.length := List.length_map _
      rw [e]
      exact q
theorem ok_lsizes (D : Df K mg "_law_sizes" s_l_sizes []) (f_l_next : Ca P w K mg base CX0 1 "_law_next" s_l_next [] ["_law_draws_here"] spNext) (g_range : mg "range" = none) (f_l_round : Ca P w K mg base CX0 1 "_law_round" s_l_round [] ["_law_sizes_here"] spRd) : Ca P w K mg base CX0 2 "_law_sizes" s_l_sizes [] ["_law_draws_here"] spSzs := by
  refine ca0 (k := 1) D c_l_sizes (fun vs H Q E h => ?_) fun f cdv A outer s H vs Q E hr h => ?_
  · obtain ⟨l, n, rfl, _⟩ := h
    rfl
  · obtain ⟨l, n, rfl, d, hn, q⟩ := h
    refine ⟨_, (pss_cons (ps_set (i := 1) c_l_sizes.nd rfl (.inl rfl) (pe_lst pa_nil))
      (pss_cons (ps_for PassesOwn.never rfl (pi_range1 rfl g_range (pa_cons (pe_op op_mod (pe_ca f_l_next b_l_next hr (by decide) pass0 rfl (pa_cons (pv 0) pa_nil)) pe_int) pa_nil)) (pg_name (i := 2) c_l_sizes.nd rfl (.inl rfl)) (pss_cons (ps_set (i := 3) c_l_sizes.nd rfl (.inl rfl) (pe_op op_add pe_int (pe_op op_mod (pe_ca f_l_next b_l_next hr (by decide) pass0 rfl (pa_cons (pv 0) pa_nil)) pe_int)))
      (pss_one (ps_if (pt_cmpR op_le (pe_ca f_l_round b_l_round hr (by decide) pass0 rfl (pa_cons (pe_op op_cat (pv 1) (pe_lst (pa_cons (pv 3) pa_nil))) pa_nil)) pe_int (nomark _)) (pss_one (ps_expr (pe_bm PySem.F.plainAttrs_list PySem.F.slot_list_append PySem.F.type_list_append mt_append (pv 1) (pa_cons (pv 3) pa_nil)))) pss_nil))))
      (pss_one (ps_ret (pv 1))))), ?_⟩
    refine ⟨(by show 0 ≤ sizeLine; decide), fun p np => ?_⟩
    have pl := ne_of_none' d np
    have d0 := d.new (o := .lst []) np
    have e0 := upd_same (H := H) (a := p) (o := .lst [])
    have b0 := But.same (l := l) (Same.new (o := .lst []) np)
    generalize L2.upd H p (.lst []) = H0 at *
    refine ⟨_, rfl, l, n, rfl, d0, by omega, fun v H1 v0 v1 b1 d1 => ?_⟩
    have m0 := md0 v (j := 5)
    have m1 := md1 v (j := 5)
    refine ⟨_, _, rfl, rfl, md, _, rfl, by omega, by omega, ?_⟩
    obtain ⟨m, hm⟩ : ∃ m : Nat, (v % 5).toNat = m := ⟨_, rfl⟩
    rw [hm]
    refine for_range (n := m) (fun i σ Hx => ∃ (zs : List Nat) (v2 v3 : Option V), σ = [some (.ref l), some (.ref p), v2, v3] ∧ But l H Hx ∧ Dr Hx l (n + 1 + i) ∧ Hx p = some (.lst (nV zs)) ∧ zs.length ≤ i ∧ (∀ z ∈ zs, 1 ≤ z ∧ z ≤ 12) ∧ lcL zs ≤ 1500)
      ⟨[], _, _, rfl, b0.trans b1, d1, b1 _ _ pl e0, Nat.le_refl _, (fun z h => by cases h), by decide⟩ ?_ ?_
    · rintro i σ Hx hi ⟨zs, v2, v3, rfl, bx, dx, ez, lz, hz, hc⟩
      refine ⟨_, rfl, l, _, rfl, dx, by omega, fun a H2 a0 a1 b2 d2 => ?_⟩
      refine ⟨_, _, rfl, rfl, md, _, _, rfl, rfl, ?_⟩
      have k0 := md0 a (j := 12)
      have k1 := md1 a (j := 12)
      obtain ⟨z, ez1⟩ : ∃ z : Nat, 1 + a % 12 = (z : Int) := ⟨(1 + a % 12).toNat, by omega⟩
      dsimp only
      rw [ez1]
      have ez2 := b2 _ _ pl ez
      have bx2 := bx.trans b2
      refine ⟨_, rfl, _, rfl, (by show 1 ≤ sizeLine; decide), fun p2 np2 => ?_⟩
      have s2 := Same.new (o := .lst [.int (z : Int)]) np2
      have e2 := upd_same (H := H2) (a := p2) (o := .lst [.int (z : Int)])
      refine ⟨p, p2, _, _, rfl, rfl, s2 _ _ ez2, e2, ?_, fun p3 np3 => ?_⟩
      · rw [List.length_map]
        exact Nat.le_trans (show _ ≤ 10 by simp; omega) (by decide)
      have s3 := s2.trans (Same.new (o := .lst (nV zs ++ [.int (z : Int)])) np3)
      have e3 := upd_same (H := L2.upd H2 p2 (.lst [.int (z : Int)])) (a := p3) (o := .lst (nV zs ++ [.int (z : Int)]))
      have b3 := bx2.trans (But.same s3)
      have d3 := (d2.new (o := .lst [.int (z : Int)]) np2).new (o := .lst (nV zs ++ [.int (z : Int)])) np3
      have ez3 := s3 _ _ ez2
      generalize L2.upd (L2.upd H2 p2 _) p3 _ = H3 at *
      have e3 : H3 p3 = some (.lst (nV (zs ++ [z]))) := by
        rw [e3]
        show some (HO.lst (nV zs ++ [V.int (z : Int)])) = some (.lst ((zs ++ [z]).map _))
        rw [List.map_append]
        rfl
      have hz2 : ∀ y ∈ zs ++ [z], 1 ≤ y ∧ y ≤ 12 := by
        intro y hy
        rcases List.mem_append.mp hy with h | h
        · exact hz y h
        · rw [List.mem_singleton.mp h]; omega
      refine ⟨p3, zs ++ [z], rfl, e3, fun y hy => (hz2 y hy).1, _, _, rfl, rfl, _, rfl, ?_⟩
      by_cases hle : ((lcL (zs ++ [z]) : Nat) : Int) ≤ 1500
      · refine yes' (by simpa using hle) ?_
        refine ⟨_, rfl, .inl ⟨rfl, _, SqL.of ez3⟩, _, rfl, p, _, _, rfl, rfl, ez3, ?_, ?_⟩
        · rw [List.length_map]
          exact Nat.lt_of_le_of_lt (show _ ≤ 10 by omega) (by decide)
        · refine ⟨zs ++ [z], _, _, rfl, b3.putN np, d3.put pl, ?_, by simp; omega, hz2, by omega⟩
          rw [upd_same]
          show some (HO.lst (nV zs ++ [V.int (z : Int)])) = some (.lst ((zs ++ [z]).map _))
          rw [List.map_append]
          rfl
      · refine no' (by simpa using hle) ?_
        exact ⟨zs, _, _, rfl, b3, d3, ez3, by omega, hz, hc⟩
    · rintro σ Hx ⟨zs, v2, v3, rfl, bx, dx, ez, lz, hz, hc⟩
      refine ⟨_, rfl, ?_⟩
      exact q p zs Hx bx (dx.same (Same.refl _) (by omega)) ez pl np ⟨by omega, hz, hc⟩
end
/-! ### days on which all have their names, gone through -/
theorem lcN_extW {z y : Nat → Nat} {k : Nat} (h : ∀ j, j < k → z j = y j) : lcN z k = lcN y k := lcN_ext h
/-- the day d has by each wheel its name -/
def MetA (ws : List Wd) (xs : List Str) (d : Int) : Prop := ∀ (j : Nat) (x : Wd) n, ws[j]? = some x → xs[j]? = some n → nmA x d = n
/-- at t a tuple of the names and the first day of x -/
def Nt (H : Hp) (t : Addr) (x : Wd) : Prop := ∃ ln, H t = some (.tup [.ref ln, .int x.2]) ∧ H ln = some (.lst (x.1.map V.str))
theorem Nt.same {H H1 : Hp} {t : Addr} {x : Wd} (h : Nt H t x) (s : Same H H1) : Nt H1 t x :=
  let ⟨ln, a, b⟩ := h
  ⟨ln, s _ _ a, s _ _ b⟩
/-- at la a list of such tuples -/
structure AW (H : Hp) (la : Addr) (ts : List Addr) (ws : List Wd) : Prop where
  l : H la = some (.lst (ts.map V.ref))
  n : ts.length = ws.length
  w : ∀ (j : Nat) t x, ts[j]? = some t → ws[j]? = some x → Nt H t x
theorem AW.same {H H1 : Hp} {la : Addr} {ts : List Addr} {ws : List Wd} (h : AW H la ts ws) (s : Same H H1) : AW H1 la ts ws := ⟨s _ _ h.l, h.n, fun j t x a b => (h.w j t x a b).same s⟩
theorem AW.ln {H : Hp} {la : Addr} {ts : List Addr} {ws : List Wd} (h : AW H la ts ws) : (ts.map V.ref).length = ws.length := by
  rw [List.length_map, h.n]
theorem AW.el {H : Hp} {la : Addr} {ts : List Addr} {ws : List Wd} (h : AW H la ts ws) {j : Nat} {v : V} (e : (ts.map V.ref)[j]? = some v) : ∃ t x, v = .ref t ∧ ts[j]? = some t ∧ ws[j]? = some x ∧ Nt H t x := by
  rw [List.getElem?_map] at e
  cases ht : ts[j]? with
  | none => rw [ht] at e; cases e
  | some t =>
    rw [ht] at e
    have hl : j < ws.length := by
      rw [← h.n]
      exact (List.getElem?_eq_some_iff.mp ht).1
    exact ⟨t, ws[j], (Option.some.inj e).symm, rfl, List.getElem?_eq_getElem hl, h.w j t _ ht (List.getElem?_eq_getElem hl)⟩
theorem AW.at {H : Hp} {la : Addr} {ts : List Addr} {ws : List Wd} (h : AW H la ts ws) {j : Nat} {x : Wd} (e : ws[j]? = some x) : ∃ t, (ts.map V.ref)[j]? = some (V.ref t) ∧ Nt H t x := by
  have hl : j < ws.length := (List.getElem?_eq_some_iff.mp e).1
  have ht : ts[j]? = some (ts[j]'(by rw [h.n]; exact hl)) := List.getElem?_eq_getElem (by rw [h.n]; exact hl)
  exact ⟨_, by rw [List.getElem?_map, ht]; rfl, h.w j _ x ht e⟩
theorem strs_el {xs : List Str} {j : Nat} {v : V} (h : (xs.map V.str)[j]? = some v) : ∃ n, v = .str n ∧ xs[j]? = some n := by
  rw [List.getElem?_map] at h
  cases e : xs[j]? with
  | none => rw [e] at h; cases h
  | some n => rw [e] at h; exact ⟨n, (Option.some.inj h).symm, rfl⟩
def zsW (ws : List Wd) : List Nat := ws.map fun x => x.1.length
theorem zsW_lc (ws : List Wd) : lcL (zsW ws) = lcN (zW ws) ws.length := by
  unfold lcL zsW
  rw [List.length_map]
  refine lcN_ext fun j hj => ?_
  have e := List.getElem?_eq_getElem hj
  rw [zW_at e, zL_at (z := ws[j].1.length) (by rw [List.getElem?_map, e]; rfl)]
theorem zsW_ints (ws : List Wd) : ((List.range ws.length).map fun j => ((zW ws j : Nat) : Int)).map V.int = nV (zsW ws) := by
  unfold zsW nV
  rw [List.map_map, List.map_map]
  refine List.ext_getElem? fun j => ?_
  rw [List.getElem?_map, List.getElem?_map]
  by_cases hj : j < ws.length
  · rw [List.getElem?_range hj, List.getElem?_eq_getElem hj]
    simp only [Option.map_some, Function.comp]
    rw [zW_at (List.getElem?_eq_getElem hj)]
  · rw [List.getElem?_eq_none_iff.mpr (by rw [List.length_range]; omega), List.getElem?_eq_none_iff.mpr (by omega)]
    rfl
theorem nm_atI {x : Wd} (g : NmG x.1) (d : Int) : atI (x.1.map V.str) ((d - x.2) % (x.1.length : Int)) = some (.str (nmA x d)) := by
  have l0 := g.pos
  have h0 := Int.emod_nonneg (d - x.2) (show (x.1.length : Int) ≠ 0 by omega)
  have h1 := Int.emod_lt_of_pos (d - x.2) (show (0 : Int) < (x.1.length : Int) by omega)
  unfold nmA
  rw [List.getD_eq_getElem?_getD]
  generalize hz : (d - x.2) % (x.1.length : Int) = z at *
  unfold atI ixN
  rw [if_pos h0, if_pos (by rw [List.length_map]; omega)]
  show (x.1.map V.str)[z.toNat]? = _
  rw [List.getElem?_map, List.getElem?_eq_getElem (by omega)]
  rfl
theorem inv_ex {n m : Int} (hm : 0 < m) (hg : Int.gcd n m = 1) : ∃ r, m ∣ n * r - 1 := by
  have go : ∀ k : Nat, ∀ one two ot tt : Int, two.toNat ≤ k → IvI n m one two ot tt → ∃ r, m ∣ n * r - 1 := by
    intro k
    induction k with
    | zero =>
      intro one two ot tt hk iv
      have p2 := iv.p2
      have : two = 0 := by omega
      subst this
      exact ⟨ot, iv.fin⟩
    | succ k ih =>
      intro one two ot tt hk iv
      have p2 := iv.p2
      by_cases h0 : two = 0
      · subst h0
        exact ⟨ot, iv.fin⟩
      · have t1 := iv.turn (by omega)
        have := t1.lt
        have := t1.p2
        exact ih _ _ _ _ (by omega) t1
  exact go _ _ _ _ _ (Nat.le_refl _) (IvI.start hm hg)
theorem met_ex {ws : List Wd} {ds : List Int} (g : GW ws) (ok : ∀ i j, i < j → j < ws.length → ¬ Ap ws ds i j) : ∀ i, i ≤ ws.length → ∃ day : Int, ∀ j, j < i → ((zW ws j : Nat) : Int) ∣ day - ds.getD j 0 := by
  intro i
  induction i with
  | zero => exact fun _ => ⟨0, fun j h => absurd h (by omega)⟩
  | succ i ih =>
    intro hi
    obtain ⟨day, hd⟩ := ih (by omega)
    obtain ⟨l0, _, _⟩ := g.lc (show i ≤ ws.length by omega)
    have z0 := (g.pos (show i < ws.length by omega)).1
    have cmp := next_ok (show i < ws.length by omega) ok hd
    have hs : (0 : Int) < ((lcN (zW ws) i : Nat) : Int) := by omega
    have ht : (0 : Int) < ((zW ws i : Nat) : Int) := by omega
    have g0 : (0 : Int) < (Int.gcd ((lcN (zW ws) i : Nat) : Int) ((zW ws i : Nat) : Int) : Int) := by
      have := Int.gcd_pos_of_ne_zero_left ((zW ws i : Nat) : Int) (show ((lcN (zW ws) i : Nat) : Int) ≠ 0 by omega)
      omega
    have r0 : 0 < ((zW ws i : Nat) : Int) / (Int.gcd ((lcN (zW ws) i : Nat) : Int) ((zW ws i : Nat) : Int) : Int) := Int.ediv_pos_of_pos_of_dvd ht (by omega) (Int.gcd_dvd_right _ _)
    have c1 := gcd_div_gcd (b := ((zW ws i : Nat) : Int)) (a := ((lcN (zW ws) i : Nat) : Int)) hs
    obtain ⟨r, hr⟩ := inv_ex (n := ((lcN (zW ws) i : Nat) : Int) / (Int.gcd ((lcN (zW ws) i : Nat) : Int) ((zW ws i : Nat) : Int) : Int)) r0 (by first | exact c1 | (rw [Int.gcd_comm]; exact c1))
    obtain ⟨v, m1, m2⟩ : ∃ v : Int, ((lcN (zW ws) i : Nat) : Int) ∣ v - day ∧ ((zW ws i : Nat) : Int) ∣ v - ds.getD i 0 := by
      obtain ⟨m1, m2, _, _⟩ := met_day (r := r) (one := day) (two := ds.getD i 0) hs ht rfl cmp hr
      exact ⟨_, m1, m2⟩
    refine ⟨v, fun j hj => ?_⟩
    by_cases z : j = i
    · subst z
      exact m2
    · have k1 := hd j (by omega)
      have k2 := Int.dvd_trans (Int.natCast_dvd_natCast.mpr (lcN_dvd (z := zW ws) (show j < i by omega))) m1
      have e := Int.dvd_add k2 k1
      refine (congrArg (fun u : Int => ((zW ws j : Nat) : Int) ∣ u) ?_).mp e
      omega
theorem mt_ex {ws : List Wd} {xs : List Str} (g : GW ws) (wn : Wn ws xs) (ok : ∀ i j, i < j → j < ws.length → ¬ Ap ws (dlW ws xs) i j) (a : Int) : ∃ v, Mt ws xs a v := by
  obtain ⟨day, hd⟩ := met_ex g ok ws.length (Nat.le_refl _)
  exact ⟨_, met_all (a := a) g wn hd⟩
theorem Mt.met {ws : List Wd} {xs : List Str} {a v : Int} (h : Mt ws xs a v) : MetA ws xs v := h.nm
/-- two days on which all have their names lie whole rounds apart -/
theorem met_two {ws : List Wd} {xs : List Str} (g : GW ws) (n : xs.length = ws.length) {d e : Int} (h : MetA ws xs d) (k : MetA ws xs e) : ((lcN (zW ws) ws.length : Nat) : Int) ∣ d - e := by
  rw [ncast_dvd]
  refine lcN_least fun j hj => ?_
  rw [← ncast_dvd]
  have e1 := List.getElem?_eq_getElem hj
  have e2 := List.getElem?_eq_getElem (l := xs) (i := j) (by omega)
  rw [zW_at e1]
  exact (nmA_eq (g.at e1) d e).mp ((h j _ _ e1 e2).trans (k j _ _ e1 e2).symm)
theorem dvd_small {m : Nat} {d e : Int} (h : (m : Int) ∣ d - e) (h1 : d - e < m) (h2 : e - d < m) : d = e := by
  obtain ⟨c, hc⟩ := h
  have h3 : (m : Int) * c < (m : Int) * 1 := by omega
  have h4 : (m : Int) * (-1) < (m : Int) * c := by omega
  have m0 : (0 : Int) ≤ (m : Int) := by omega
  have c1 : c < 1 := Int.lt_of_mul_lt_mul_left h3 m0
  have c2 : -1 < c := Int.lt_of_mul_lt_mul_left h4 m0
  have : c = 0 := by omega
  rw [this, Int.mul_zero] at hc
  omega
theorem mt_of {ws : List Wd} {xs : List Str} {a v : Int} (h : MetA ws xs v) (h1 : a ≤ v) (h2 : v < a + ((lcN (zW ws) ws.length : Nat) : Int)) : Mt ws xs a v := ⟨h, h1, h2⟩
theorem mt_one {ws : List Wd} {xs : List Str} (g : GW ws) (n : xs.length = ws.length) {a v u : Int} (h : Mt ws xs a v) (k : Mt ws xs a u) : v = u := by
  have h1 := h.lo
  have h2 := h.hi
  have k1 := k.lo
  have k2 := k.hi
  exact dvd_small (met_two g n h.nm k.nm) (by omega) (by omega)
/-! two of them -/
theorem two_g {ws : List Wd} (g : GW ws) {i c : Nat} {x y : Wd} (h1 : ws[i]? = some x) (h2 : ws[c]? = some y) : GW [x, y] := ⟨fun z hz => by
  rcases List.mem_cons.mp hz with rfl | hz
  · exact g.at h1
  · rw [List.mem_singleton.mp hz]; exact g.at h2, (show 2 ≤ 60 by decide)⟩
theorem two_wn {x y : Wd} {m n : Str} (h1 : m ∈ x.1) (h2 : n ∈ y.1) : Wn [x, y] [m, n] := ⟨rfl, fun j z k e1 e2 => by
  match j, e1, e2 with
  | 0, e1, e2 => cases e1; cases e2; exact h1
  | 1, e1, e2 => cases e1; cases e2; exact h2
  | j + 2, e1, e2 => simp at e1⟩
theorem two_ap {ws : List Wd} {xs : List Str} {i c : Nat} {x y : Wd} {m n : Str} (h1 : ws[i]? = some x) (h2 : ws[c]? = some y) (k1 : xs[i]? = some m) (k2 : xs[c]? = some n) : Ap [x, y] (dlW [x, y] [m, n]) 0 1 ↔ Ap ws (dlW ws xs) i c := by
  unfold Ap
  rw [(dlW_at h1 k1).2, (dlW_at h2 k2).2, (dlW_at (ws := [x, y]) (xs := [m, n]) (j := 0) rfl rfl).2, (dlW_at (ws := [x, y]) (xs := [m, n]) (j := 1) rfl rfl).2, zW_at h1, zW_at h2, zW_at (ws := [x, y]) (j := 0) rfl, zW_at (ws := [x, y]) (j := 1) rfl]
theorem two_no {x y : Wd} {m n : Str} (g : GW [x, y]) (h1 : m ∈ x.1) (h2 : n ∈ y.1) (ap : Ap [x, y] (dlW [x, y] [m, n]) 0 1) (d : Int) : ¬ MetA [x, y] [m, n] d := by
  intro h
  have e1 := (nmA_iff (g.g x (by simp)) h1 d).mp (h 0 x m rfl rfl)
  have e2 := (nmA_iff (g.g y (by simp)) h2 d).mp (h 1 y n rfl rfl)
  refine ap ?_
  rw [(dlW_at (ws := [x, y]) (xs := [m, n]) (j := 0) rfl rfl).2, (dlW_at (ws := [x, y]) (xs := [m, n]) (j := 1) rfl rfl).2, zW_at (ws := [x, y]) (j := 0) rfl, zW_at (ws := [x, y]) (j := 1) rfl]
  have k1 := Int.dvd_trans (Int.natCast_dvd_natCast.mpr (Nat.gcd_dvd_left x.1.length y.1.length)) e1
  have k2 := Int.dvd_trans (Int.natCast_dvd_natCast.mpr (Nat.gcd_dvd_right x.1.length y.1.length)) e2
  have : dyA y n - dyA x m = (d - dyA x m) - (d - dyA y n) := by omega
  rw [this]
  exact Int.dvd_sub k1 k2
theorem two_yes {x y : Wd} {m n : Str} (g : GW [x, y]) (h1 : m ∈ x.1) (h2 : n ∈ y.1) (ap : ¬ Ap [x, y] (dlW [x, y] [m, n]) 0 1) (a : Int) : ∃ v, Mt [x, y] [m, n] a v := by
  refine mt_ex g (two_wn h1 h2) (fun i j hij hj => ?_) a
  have : j < 2 := hj
  have e1 : i = 0 := by omega
  have e2 : j = 1 := by omega
  rw [e1, e2]
  exact ap
/-- what is due -/
def DueV (ws : List Wd) (xs : List Str) (a : Int) (r : List V) : Prop :=
  (∃ (i : Nat) (x : Wd) (n : Str), ws[i]? = some x ∧ xs[i]? = some n ∧ n ∉ x.1 ∧ (∀ (j : Nat) (y : Wd) (m : Str), j < i → ws[j]? = some y → xs[j]? = some m → m ∈ y.1) ∧ r = [.str "name", .str n, .non]) ∨
  (Wn ws xs ∧ ∃ i j : Nat, Fp ws.length (Ap ws (dlW ws xs)) i j ∧ r = [.str "day", .int (i : Int), .int (j : Int)]) ∨
  (Wn ws xs ∧ (∀ i j, i < j → j < ws.length → ¬ Ap ws (dlW ws xs) i j) ∧ ∃ v, Mt ws xs a v ∧ r = [.str "good", .int v, .non])
theorem due_one {ws : List Wd} {xs : List Str} (g : GW ws) {a : Int} {r s : List V} (h : DueV ws xs a r) (k : DueV ws xs a s) : r = s := by
  rcases h with ⟨i, x, n, h1, h2, h3, h4, rfl⟩ | ⟨w1, i, j, h1, rfl⟩ | ⟨w1, h1, v, h2, rfl⟩ <;> rcases k with ⟨i', x', n', k1, k2, k3, k4, rfl⟩ | ⟨w2, i', j', k1, rfl⟩ | ⟨w2, k1, v', k2, rfl⟩
  · have e : i = i' := by
      rcases Nat.lt_trichotomy i i' with z | z | z
      · exact absurd (k4 i x n z h1 h2) h3
      · exact z
      · exact absurd (h4 i' x' n' z k1 k2) k3
    subst e
    rw [h2] at k2
    cases k2
    rfl
  · exact absurd (w2.m i x n h1 h2) h3
  · exact absurd (w2.m i x n h1 h2) h3
  · exact absurd (w1.m i' x' n' k1 k2) k3
  · obtain ⟨e1, e2⟩ := h1.one k1
    rw [e1, e2]
  · exact absurd h1.b (k1 i j h1.ij h1.jn)
  · exact absurd (w1.m i' x' n' k1 k2) k3
  · exact absurd k1.b (h1 i' j' k1.ij k1.jn)
  · rw [mt_one g w1.n h2 k2]
/-! ### met, the first day met, what is due -/
def spMtA : Sp := fun vs H Q _ => ∃ (la lx : Addr) (ts : List Addr) (ws : List Wd) (xs : List Str) (d : Int), vs = [.ref la, .ref lx, .int d] ∧ AW H la ts ws ∧ GW ws ∧ H lx = some (.lst (xs.map V.str)) ∧ xs.length = ws.length ∧
  (MetA ws xs d → ∀ H', Same H H' → Q (.bl true) H') ∧ (¬ MetA ws xs d → ∀ H', Same H H' → Q (.bl false) H')
def spFmA : Sp := fun vs H Q _ => ∃ (la lx : Addr) (ts : List Addr) (ws : List Wd) (xs : List Str) (a : Int), vs = [.ref la, .ref lx, .int a] ∧ AW H la ts ws ∧ GW ws ∧ H lx = some (.lst (xs.map V.str)) ∧ xs.length = ws.length ∧
  (∀ d H', Mt ws xs a d → Same H H' → Q (.int d) H') ∧ ((∀ d, ¬ Mt ws xs a d) → ∀ H', Same H H' → Q .non H')
def spDue : Sp := fun vs H Q _ => ∃ (la lx : Addr) (ts : List Addr) (ws : List Wd) (xs : List Str) (a : Int), vs = [.ref la, .ref lx, .int a] ∧ AW H la ts ws ∧ GW ws ∧ H lx = some (.lst (xs.map V.str)) ∧ xs.length = ws.length ∧
  ∀ t r H', Same H H' → DueV ws xs a r → H' t = some (.tup r) → Q (.ref t) H'
abbrev TE_l_first_met1 (K : PySem.W.Frag) : TE := tCB (fun xs H Q => ∃ p ys, xs = [.ref p] ∧ (SqL K H p ys ∨ SqT K H p ys) ∧ Q (.int ys.length) H) (tCons (tVar 4) tNil)
abbrev TE_l_first_met2 (K : PySem.W.Frag) : TE := tCB (fun xs H Q => ∃ p ys, xs = [.ref p] ∧ (SqL K H p ys ∨ SqT K H p ys) ∧ Q (.int ys.length) H) (tCons (tVar 4) tNil)
section
variable {P : Program} {w : World} {K : PySem.W.Frag} {mg : Str → Option Value} {base : Heap}
theorem ok_lmetA (D : Df K mg "_law_met" s_l_met []) (g_len : mg "len" = none) (g_zip : mg "zip" = none) : Ca P w K mg base CX0 1 "_law_met" s_l_met [] ["_law_a_wheels", "_law_a_wants", "_law_day_here"] spMtA := by
  refine ca0 (k := 0) D c_l_met (fun vs H Q E h => ?_) fun f cdv A outer s H vs Q E hr h => ?_
  · obtain ⟨la, lx, ts, ws, xs, d, rfl, _⟩ := h
    rfl
  · obtain ⟨la, lx, ts, ws, xs, d, rfl, hw, g, hx, lnx, qy, qn⟩ := h
    refine ⟨_, (pss_cons (ps_for PassesOwn.never rfl (pi_zip rfl g_zip (pa_cons (pv 0) (pa_cons (pv 1) pa_nil))) (pg_tup rfl (pgs_cons (pg_tup rfl (pgs_cons (pg_name (i := 3) c_l_met.nd rfl (.inl rfl)) (pgs_cons (pg_name (i := 4) c_l_met.nd rfl (.inl rfl)) pgs_nil))) (pgs_cons (pg_name (i := 5) c_l_met.nd rfl (.inl rfl)) pgs_nil))) (pss_one (ps_if (pt_cmpR op_ne (pe_ix ix_list (pv 3) (pe_op op_mod (pe_op op_sub (pv 2) (pv 4)) (pe_callB call_len_seq rfl g_len (by decide +kernel) (pa_cons (pv 3) pa_nil))) (fun _ _ => rfl)) (pv 5) (nomark _)) (pss_one (ps_ret pe_bl)) pss_nil)))
      (pss_one (ps_ret pe_bl))), ?_⟩
    refine ⟨_, rfl, _, rfl, la, lx, _, _, rfl, SqL.of hw.l, SqL.of hx, ?_⟩
    refine for_it (walk_zip (n := ws.length) (K := K) (a := la) (b := lx) (xs := ts.map V.ref) (ys := xs.map V.str) (by rw [hw.ln, List.length_map, lnx]; omega))
      (fun i σ H1 => ∃ v3 v4 v5 : Option V, σ = [some (.ref la), some (.ref lx), some (.int d), v3, v4, v5] ∧ Same H H1 ∧ ∀ (j : Nat) (x : Wd) n, j < i → ws[j]? = some x → xs[j]? = some n → nmA x d = n)
      ⟨_, _, _, rfl, Same.refl _, fun j x n h => absurd h (by omega)⟩ (fun i σ H1 _ ⟨_, _, _, _, s1, _⟩ => ⟨SqL.of (s1 _ _ hw.l), SqL.of (s1 _ _ hx)⟩) ?_ ?_
    · rintro i v σ H1 H2 hi ⟨v3, v4, v5, rfl, s1, dv⟩ ⟨T, x1, x2, rfl, nT, rfl, g1, g2⟩
      have g1 : (ts.map V.ref)[i]? = some x1 := g1
      have g2 : (xs.map V.str)[i]? = some x2 := g2
      have s2 := s1.trans (Same.new (o := .tup [x1, x2]) nT)
      obtain ⟨t, x, rfl, et, ex, ln', e1, e2⟩ := (hw.same s2).el g1
      obtain ⟨n, rfl, en⟩ := strs_el g2
      have eT := upd_same (H := H1) (a := T) (o := .tup [.ref t, .str n])
      generalize L2.upd H1 T _ = H2 at *
      have gx := g.at ex
      have px := gx.pos
      refine ⟨T, _, rfl, SqT.of eT, rfl, _, _, rfl, t, _, rfl, SqT.of e1, rfl, _, _, rfl, _, _, rfl, rfl, _, _, rfl, rfl, ?_⟩
      refine ⟨_, rfl, _, rfl, _, rfl, _, _, rfl, rfl, _, rfl, ln', _, rfl, .inl (SqL.of e2), _, _, rfl, rfl, ?_, ln', _, _, .str (nmA x d), rfl, rfl, SqL.of e2, ?_, _, rfl, rfl, _, rfl, ?_⟩
      · show (0 : Int) < ((x.1.map V.str).length : Int)
        rw [List.length_map]
        omega
      · rw [List.length_map]
        exact nm_atI gx d
      by_cases hn : nmA x d = n
      · refine no' (by simpa using hn) ?_
        refine ⟨_, _, _, rfl, s2, fun j y m hj k1 k2 => ?_⟩
        by_cases z : j = i
        · subst z
          rw [ex] at k1
          rw [en] at k2
          cases k1
          cases k2
          exact hn
        · exact dv j y m (by omega) k1 k2
      · refine yes' (by simpa using hn) ?_
        exact qn (fun h => hn (h i x n ex en)) _ s2
    · rintro σ H1 ⟨v3, v4, v5, rfl, s1, dv⟩
      exact qy (fun j x n k1 k2 => dv j x n (List.getElem?_eq_some_iff.mp k1).1 k1 k2) _ s1
theorem ok_lfmA (D : Df K mg "_law_first_met" s_l_first_met []) (g_len : mg "len" = none) (g_range : mg "range" = none) (f_l_met : Ca P w K mg base CX0 1 "_law_met" s_l_met [] ["_law_a_wheels", "_law_a_wants", "_law_day_here"] spMtA) (f_l_round : Ca P w K mg base CX0 1 "_law_round" s_l_round [] ["_law_sizes_here"] spRd) : Ca P w K mg base CX0 2 "_law_first_met" s_l_first_met [] ["_law_a_wheels", "_law_a_wants", "_law_a_after"] spFmA := by
  refine ca0 (k := 1) D c_l_first_met (fun vs H Q E h => ?_) fun f cdv A outer s H vs Q E hr h => ?_
  · obtain ⟨la, lx, ts, ws, xs, a, rfl, _⟩ := h
    rfl
  · obtain ⟨la, lx, ts, ws, xs, a, rfl, hw, g, hx, lnx, qy, qn⟩ := h
    refine ⟨_, (pss_cons (ps_for PassesOwn.never rfl (pi_rangeA rfl g_range (pa_cons (pv 2) (pa_cons (pe_op op_add (pv 2) (pe_ca f_l_round b_l_round hr (by decide) pass0 rfl (pa_cons (pe_lc (own := [("_law_names", 4), ("_law_first", 5)]) (g := gTup K 2 (gCons (gName 4) (gCons (gName 5) gNil))) (tt := tYes) (te := TE_l_first_met2 K) rfl c_l_first_met.nd (pi_list (pv 0)) (blkOk_by (N := ["_law_a_wheels", "_law_a_wants", "_law_a_after", "_law_day_here", "_law_names", "_law_first"]) (sc := defScope s_l_first_met) (by decide +kernel)) (fun _ _ _ _ _ => (pg_tup rfl (pgs_cons (pg_name (i := 4) c_l_first_met.nd rfl (.inl rfl)) (pgs_cons (pg_name (i := 5) c_l_first_met.nd rfl (.inl rfl)) pgs_nil)))) (fun _ _ _ _ _ => by exact pts_nil) (fun _ _ _ _ _ => by exact (pe_callB call_len_seq rfl g_len (by decide +kernel) (pa_cons (pv 4) pa_nil)))) pa_nil))) pa_nil))) (pg_name (i := 3) c_l_first_met.nd rfl (.inl rfl)) (pss_one (ps_if (pt_val (pe_ca f_l_met b_l_met hr (by decide) pass0 rfl (pa_cons (pv 0) (pa_cons (pv 1) (pa_cons (pv 3) pa_nil))))) (pss_one (ps_ret (pv 3))) pss_nil)))
      (pss_one (ps_ret pe_non))), ?_⟩
    have hn := g.n
    refine ⟨_, rfl, _, rfl, _, rfl, la, rfl, ⟨_, SqL.of hw.l⟩, fun D0 nD => ?_⟩
    refine lc_ints (walk_list (K := K) (a := la) (xs := ts.map V.ref)) yAt_same nD (by rw [hw.ln]; exact Nat.lt_of_le_of_lt hn (by decide)) (fun j => ((zW ws j : Nat) : Int)) (fun H' s' => SqL.of (s' _ _ hw.l)) ?_ ?_
    · rintro i v H1 H2 R hi s1 ⟨rfl, hv⟩ k1
      obtain ⟨t, x, rfl, et, ex, ln', e1, e2⟩ := (hw.same s1).el hv
      refine ⟨t, _, rfl, SqT.of e1, rfl, _, _, rfl, _, _, rfl, rfl, rfl, ?_⟩
      refine ⟨_, rfl, ln', _, rfl, .inl (SqL.of e2), ?_⟩
      rw [List.length_map, ← zW_at ex]
      exact k1 _ (Same.refl _)
    intro H1 eD s1
    rw [hw.ln, zsW_ints] at eD
    refine ⟨D0, zsW ws, rfl, eD, fun z hz => ?_, ?_⟩
    · obtain ⟨x, hx', rfl⟩ := List.mem_map.mp hz
      exact (g.g x hx').pos
    rw [zsW_lc]
    obtain ⟨l0, _, _⟩ := g.lc (Nat.le_refl _)
    refine ⟨_, _, rfl, rfl, _, _, rfl, ?_⟩
    rw [show (a + ((lcN (zW ws) ws.length : Nat) : Int) - a).toNat = lcN (zW ws) ws.length by omega]
    refine for_range (n := lcN (zW ws) ws.length) (fun i σ H2 => ∃ v3 : Option V, σ = [some (.ref la), some (.ref lx), some (.int a), v3, none, none] ∧ Same H H2 ∧ ∀ e, a ≤ e → e < a + (i : Int) → ¬ MetA ws xs e) ⟨_, rfl, s1, fun e h1 h2 => absurd h2 (by omega)⟩ ?_ ?_
    · rintro i σ H2 hi ⟨v3, rfl, s2, no⟩
      refine ⟨_, rfl, _, rfl, _, rfl, la, lx, ts, ws, xs, _, rfl, hw.same s2, g, s2 _ _ hx, lnx, fun hm H3 s3 => ?_, fun hm H3 s3 => ?_⟩
      · refine ⟨_, rfl, yes' rfl ?_⟩
        exact ⟨_, rfl, qy _ _ ⟨hm, by omega, by omega⟩ (s2.trans s3)⟩
      · refine ⟨_, rfl, no' rfl ?_⟩
        refine ⟨_, rfl, s2.trans s3, fun e h1 h2 => ?_⟩
        by_cases z : e = a + (i : Int)
        · rw [z]; exact hm
        · exact no e h1 (by omega)
    · rintro σ H2 ⟨v3, rfl, s2, no⟩
      exact qn (fun d h => no d h.lo h.hi h.nm) _ s2
theorem ok_ldue (D : Df K mg "_law_due" s_l_due []) (g_len : mg "len" = none) (g_range : mg "range" = none) (g_zip : mg "zip" = none) (f_l_first_met : Ca P w K mg base CX0 2 "_law_first_met" s_l_first_met [] ["_law_a_wheels", "_law_a_wants", "_law_a_after"] spFmA) : Ca P w K mg base CX0 3 "_law_due" s_l_due [] ["_law_a_wheels", "_law_a_wants", "_law_a_after"] spDue := by
  refine ca0 (k := 2) D c_l_due (fun vs H Q E h => ?_) fun f cdv A outer s H vs Q E hr h => ?_
  · obtain ⟨la, lx, ts, ws, xs, a, rfl, _⟩ := h
    rfl
  · obtain ⟨la, lx, ts, ws, xs, a, rfl, hw, g, hx, lnx, q⟩ := h
    refine ⟨_, (pss_cons (ps_for PassesOwn.never rfl (pi_zip rfl g_zip (pa_cons (pv 0) (pa_cons (pv 1) pa_nil))) (pg_tup rfl (pgs_cons (pg_tup rfl (pgs_cons (pg_name (i := 3) c_l_due.nd rfl (.inl rfl)) (pgs_cons (pg_name (i := 4) c_l_due.nd rfl (.inl rfl)) pgs_nil))) (pgs_cons (pg_name (i := 5) c_l_due.nd rfl (.inl rfl)) pgs_nil))) (pss_one (ps_if (pt_cmpR op_notIn_seq (pv 5) (pv 3) rfl) (pss_one (ps_ret (pe_tup (pa_cons pe_str (pa_cons (pv 5) (pa_cons pe_non pa_nil)))))) pss_nil)))
      (pss_cons (ps_for PassesOwn.never rfl (pi_range1 rfl g_range (pa_cons (pe_callB call_len_seq rfl g_len (by decide +kernel) (pa_cons (pv 0) pa_nil)) pa_nil)) (pg_name (i := 6) c_l_due.nd rfl (.inl rfl)) (pss_one (ps_for PassesOwn.never rfl (pi_rangeA rfl g_range (pa_cons (pe_op op_add (pv 6) pe_int) (pa_cons (pe_callB call_len_seq rfl g_len (by decide +kernel) (pa_cons (pv 0) pa_nil)) pa_nil))) (pg_name (i := 7) c_l_due.nd rfl (.inl rfl)) (pss_cons (ps_set (i := 8) c_l_due.nd rfl (.inl rfl) (pe_lst (pa_cons (pe_ix ix_list (pv 0) (pv 6) (fun _ _ => rfl)) (pa_cons (pe_ix ix_list (pv 0) (pv 7) (fun _ _ => rfl)) pa_nil))))
      (pss_one (ps_if (pt_cmp (pc_isN (pe_ca f_l_first_met b_l_first_met hr (by decide) pass0 rfl (pa_cons (pv 8) (pa_cons (pe_lst (pa_cons (pe_ix ix_list (pv 1) (pv 6) (fun _ _ => rfl)) (pa_cons (pe_ix ix_list (pv 1) (pv 7) (fun _ _ => rfl)) pa_nil))) (pa_cons pe_int pa_nil)))))) (pss_one (ps_ret (pe_tup (pa_cons pe_str (pa_cons (pv 6) (pa_cons (pv 7) pa_nil)))))) pss_nil))))))
      (pss_one (ps_ret (pe_tup (pa_cons pe_str (pa_cons (pe_ca f_l_first_met b_l_first_met hr (by decide) pass0 rfl (pa_cons (pv 0) (pa_cons (pv 1) (pa_cons (pv 2) pa_nil)))) (pa_cons pe_non pa_nil)))))))), ?_⟩
    have hn := g.n
    refine ⟨_, rfl, _, rfl, la, lx, _, _, rfl, SqL.of hw.l, SqL.of hx, ?_⟩
    refine for_it (walk_zip (n := ws.length) (K := K) (a := la) (b := lx) (xs := ts.map V.ref) (ys := xs.map V.str) (by rw [hw.ln, List.length_map, lnx]; omega))
      (fun i σ H1 => ∃ v3 v4 v5 : Option V, σ = [some (.ref la), some (.ref lx), some (.int a), v3, v4, v5, none, none, none] ∧ Same H H1 ∧ ∀ (j : Nat) (x : Wd) n, j < i → ws[j]? = some x → xs[j]? = some n → n ∈ x.1)
      ⟨_, _, _, rfl, Same.refl _, fun j x n h => absurd h (by omega)⟩ (fun i σ H1 _ ⟨_, _, _, _, s1, _⟩ => ⟨SqL.of (s1 _ _ hw.l), SqL.of (s1 _ _ hx)⟩) ?_ ?_
    · rintro i v σ H1 H2 hi ⟨v3, v4, v5, rfl, s1, dv⟩ ⟨T, x1, x2, rfl, nT, rfl, g1, g2⟩
      have g1 : (ts.map V.ref)[i]? = some x1 := g1
      have g2 : (xs.map V.str)[i]? = some x2 := g2
      have s2 := s1.trans (Same.new (o := .tup [x1, x2]) nT)
      obtain ⟨t, x, rfl, et, ex, ln', e1, e2⟩ := (hw.same s2).el g1
      obtain ⟨n, rfl, en⟩ := strs_el g2
      have eT := upd_same (H := H1) (a := T) (o := .tup [.ref t, .str n])
      generalize L2.upd H1 T _ = H2 at *
      refine ⟨T, _, rfl, SqT.of eT, rfl, _, _, rfl, t, _, rfl, SqT.of e1, rfl, _, _, rfl, _, _, rfl, rfl, _, _, rfl, rfl, ?_⟩
      refine ⟨_, rfl, _, rfl, ln', _, rfl, .inl (SqL.of e2), rfl, flat_strs _, _, rfl, ?_⟩
      by_cases hm : n ∈ x.1
      · refine no' (by rw [inV_dec, decide_eq_true hm]; rfl) ?_
        refine ⟨_, _, _, rfl, s2, fun j y m hj k1 k2 => ?_⟩
        by_cases z : j = i
        · subst z
          rw [ex] at k1
          rw [en] at k2
          cases k1
          cases k2
          exact hm
        · exact dv j y m (by omega) k1 k2
      · refine yes' (by rw [inV_dec, decide_eq_false hm]; rfl) ?_
        refine ⟨_, rfl, (by show 3 ≤ sizeLine; decide), fun p np => ?_⟩
        exact q p _ _ (s2.trans (Same.new np)) (.inl ⟨i, x, n, ex, en, hm, fun j y m hj k1 k2 => dv j y m hj k1 k2, rfl⟩) upd_same
    · rintro σ H1 ⟨v3, v4, v5, rfl, s1, dv⟩
      have wn : Wn ws xs := ⟨lnx, fun j x n k1 k2 => dv j x n (List.getElem?_eq_some_iff.mp k1).1 k1 k2⟩
      have hw1 := hw.same s1
      have hx1 := s1 _ _ hx
      refine ⟨_, rfl, la, _, rfl, .inl (SqL.of hw1.l), _, rfl, by rw [hw1.ln]; omega, by rw [hw1.ln]; omega, ?_⟩
      rw [hw1.ln, Int.toNat_natCast]
      refine for_range (n := ws.length) (fun i σ H2 => ∃ v3 v4 v5 v6 v7 v8 : Option V, σ = [some (.ref la), some (.ref lx), some (.int a), v3, v4, v5, v6, v7, v8] ∧ Same H1 H2 ∧ ∀ a' c, a' < i → a' < c → c < ws.length → ¬ Ap ws (dlW ws xs) a' c) ⟨_, _, _, _, _, _, rfl, Same.refl _, fun a' c h => absurd h (by omega)⟩ ?_ ?_
      · rintro i σ H2 hi ⟨v3, v4, v5, v6, v7, v8, rfl, s2, row⟩
        rw [show (0 : Int) + (i : Int) = (i : Int) by omega]
        have hw2 := hw1.same s2
        refine ⟨_, rfl, _, _, rfl, rfl, _, rfl, la, _, rfl, .inl (SqL.of hw2.l), _, _, rfl, ?_⟩
        rw [hw2.ln, show ((ws.length : Int) - ((i : Int) + 1)).toNat = ws.length - (i + 1) by omega]
        refine for_range (n := ws.length - (i + 1)) (fun k σ H3 => ∃ v3 v4 v5 v7 v8 : Option V, σ = [some (.ref la), some (.ref lx), some (.int a), v3, v4, v5, some (.int (i : Int)), v7, v8] ∧ Same H1 H3 ∧ ∀ c, i < c → c < i + 1 + k → ¬ Ap ws (dlW ws xs) i c) ⟨_, _, _, _, _, rfl, s2, fun c h1 h2 => absurd h2 (by omega)⟩ ?_ ?_
        · rintro k σ H3 hk ⟨v3, v4, v5, v7, v8, rfl, s3, cl⟩
          rw [show (i : Int) + 1 + (k : Int) = ((i + 1 + k : Nat) : Int) by omega]
          obtain ⟨c, hc⟩ : ∃ c, c = i + 1 + k := ⟨_, rfl⟩
          have cl' : ∀ c', i < c' → c' < c → ¬ Ap ws (dlW ws xs) i c' := by rw [hc]; exact cl
          rw [← hc]
          have hcl : c < ws.length := by omega
          have xi := List.getElem?_eq_getElem hi
          have xc := List.getElem?_eq_getElem hcl
          have ni := List.getElem?_eq_getElem (l := xs) (i := i) (by omega)
          have nc := List.getElem?_eq_getElem (l := xs) (i := c) (by omega)
          have hw3 := hw1.same s3
          have hx3 := s3 _ _ hx1
          obtain ⟨ti, hti, wi⟩ := hw3.at xi
          obtain ⟨tc, htc, wc⟩ := hw3.at xc
          have mi := wn.m i _ _ xi ni
          have mc := wn.m c _ _ xc nc
          refine ⟨_, rfl, _, rfl, la, _, _, _, rfl, rfl, SqL.of hw3.l, atI_nat hti, _, rfl, _, rfl, la, _, _, _, rfl, rfl, SqL.of hw3.l, atI_nat htc, (by show 2 ≤ sizeLine; decide), fun p np => ?_⟩
          have s4 := s3.trans (Same.new (o := .lst [.ref ti, .ref tc]) np)
          have ep := upd_same (H := H3) (a := p) (o := .lst [.ref ti, .ref tc])
          have t4 := Same.new (o := .lst [.ref ti, .ref tc]) np
          have hx4 := s4 _ _ hx1
          generalize L2.upd H3 p _ = H4 at *
          refine ⟨_, rfl, _, rfl, _, rfl, lx, _, _, _, rfl, rfl, SqL.of hx4, atI_nat (by rw [List.getElem?_map, ni]; rfl), _, rfl, _, rfl, lx, _, _, _, rfl, rfl, SqL.of hx4, atI_nat (by rw [List.getElem?_map, nc]; rfl), (by show 2 ≤ sizeLine; decide), fun p2 np2 => ?_⟩
          have s5 := s4.trans (Same.new (o := .lst [.str xs[i], .str xs[c]]) np2)
          have t5 := t4.trans (Same.new (o := .lst [.str xs[i], .str xs[c]]) np2)
          have ep5 := Same.new (o := .lst [.str xs[i], .str xs[c]]) np2 _ _ ep
          have ex5 := upd_same (H := H4) (a := p2) (o := .lst [.str xs[i], .str xs[c]])
          generalize L2.upd H4 p2 _ = H5 at *
          have gg := two_g g xi xc
          have hb : AW H5 p [ti, tc] [ws[i], ws[c]] := ⟨ep5, rfl, fun j t x k1 k2 => by
            match j, k1, k2 with
            | 0, k1, k2 => cases k1; cases k2; exact wi.same t5
            | 1, k1, k2 => cases k1; cases k2; exact wc.same t5
            | j + 2, k1, k2 => simp at k1⟩
          have eqa := two_ap (xs := xs) xi xc ni nc
          refine ⟨p, p2, _, _, [xs[i], xs[c]], 0, rfl, hb, gg, ex5, rfl, fun d H6 hm s6 => ?_, fun hm H6 s6 => ?_⟩
          · refine ⟨_, rfl, no' rfl ?_⟩
            refine ⟨_, _, _, _, _, rfl, s5.trans s6, fun c' h1 h2 => ?_⟩
            by_cases z : c' = c
            · rw [z]
              exact fun ap => two_no gg mi mc (eqa.mpr ap) d hm.nm
            · exact cl' c' h1 (by omega)
          · have ap : Ap ws (dlW ws xs) i c := by
              apply Classical.byContradiction
              intro z
              obtain ⟨v, hv⟩ := two_yes gg mi mc (fun y => z (eqa.mp y)) 0
              exact hm v hv
            refine ⟨_, rfl, yes' rfl ?_⟩
            refine ⟨_, rfl, _, rfl, (by show 3 ≤ sizeLine; decide), fun p3 np3 => ?_⟩
            exact q p3 _ _ (s1.trans ((s5.trans s6).trans (Same.new np3))) (.inr (.inl ⟨wn, i, c, ⟨by omega, hcl, ap, row, cl'⟩, rfl⟩)) upd_same
        · rintro σ H3 ⟨v3, v4, v5, v7, v8, rfl, s3, cl⟩
          refine ⟨_, _, _, _, _, _, rfl, s3, fun a' c h1 h2 h3 => ?_⟩
          by_cases z : a' = i
          · subst z
            exact cl c h2 (by omega)
          · exact row a' c (by omega) h2 h3
      · rintro σ H2 ⟨v3, v4, v5, v6, v7, v8, rfl, s2, row⟩
        have ok : ∀ i j, i < j → j < ws.length → ¬ Ap ws (dlW ws xs) i j := fun i j h1 h2 => row i j (by omega) h1 h2
        refine ⟨_, rfl, _, rfl, _, rfl, la, lx, ts, ws, xs, a, rfl, hw1.same s2, g, s2 _ _ hx1, lnx, fun d H3 hm s3 => ?_, fun hm H3 s3 => ?_⟩
        · refine ⟨(by show 3 ≤ sizeLine; decide), fun p np => ?_⟩
          exact q p _ _ (s1.trans ((s2.trans s3).trans (Same.new np))) (.inr (.inr ⟨wn, ok, d, hm, rfl⟩)) upd_same
        · obtain ⟨v, hv⟩ := mt_ex g wn ok a
          exact absurd hv (hm v)
end
/-! ### which kind a kept error is -/
/-- the ten classes of errors, and what an error of the class D is an instance of -/
structure KdF (K : PySem.W.Frag) (mg : Str → Option Value) (D : Addr) (b0 b1 b2 b3 b4 b5 b6 b7 b8 b9 c0 c1 c2 c3 c4 c5 : Bool) (C_NoShare C_NoCalendar C_NoDate C_NoWheel C_NoName C_NoDay C_Taken C_NoText C_NoNote C_NoDeed : Addr) : Prop where
  xc : XcF K D
  m0 : mg "NoShare" = some (.ref C_NoShare)
  m1 : mg "NoCalendar" = some (.ref C_NoCalendar)
  m2 : mg "NoDate" = some (.ref C_NoDate)
  m3 : mg "NoWheel" = some (.ref C_NoWheel)
  m4 : mg "NoName" = some (.ref C_NoName)
  m5 : mg "NoDay" = some (.ref C_NoDay)
  m6 : mg "Taken" = some (.ref C_Taken)
  m7 : mg "NoText" = some (.ref C_NoText)
  m8 : mg "NoNote" = some (.ref C_NoNote)
  m9 : mg "NoDeed" = some (.ref C_NoDeed)
  k0 : PySem.W.kitOne K (.ref D) (.ref C_NoShare) = some b0
  k1 : PySem.W.kitOne K (.ref D) (.ref C_NoCalendar) = some b1
  k2 : PySem.W.kitOne K (.ref D) (.ref C_NoDate) = some b2
  k3 : PySem.W.kitOne K (.ref D) (.ref C_NoWheel) = some b3
  k4 : PySem.W.kitOne K (.ref D) (.ref C_NoName) = some b4
  k5 : PySem.W.kitOne K (.ref D) (.ref C_NoDay) = some b5
  k6 : PySem.W.kitOne K (.ref D) (.ref C_Taken) = some b6
  k7 : PySem.W.kitOne K (.ref D) (.ref C_NoText) = some b7
  k8 : PySem.W.kitOne K (.ref D) (.ref C_NoNote) = some b8
  k9 : PySem.W.kitOne K (.ref D) (.ref C_NoDeed) = some b9
  t0 : PySem.W.kitOne K (.ref D) (.type "ZeroDivisionError") = some c0
  t1 : PySem.W.kitOne K (.ref D) (.type "LookupError") = some c1
  t2 : PySem.W.kitOne K (.ref D) (.type "ValueError") = some c2
  t3 : PySem.W.kitOne K (.ref D) (.type "KeyError") = some c3
  t4 : PySem.W.kitOne K (.ref D) (.type "IndexError") = some c4
  t5 : PySem.W.kitOne K (.ref D) (.type "RuntimeError") = some c5
/-! ### which of two kinds a kept error is -/
def spKinds (D : Addr) (bs : List Bool) : Sp := fun vs H Q _ => ∃ (a d : Addr) (fs : List (Str × V)), vs = [.ref a] ∧ H a = some (KX a (.ref D) (some d)) ∧ H d = some (.xd fs) ∧ ∀ l H', Same H H' → H' l = some (.lst (bs.map V.bl)) → Q (.ref l) H'
def spKinds2 (CM CY : Addr) : Sp := fun vs H Q E => spKinds CM [false, false, false, false, true, false, false, false, false, false] vs H Q E ∨ spKinds CY [false, false, false, false, false, true, false, false, false, false] vs H Q E
def XKk (n : Nat) (W : WX) : XK := fun c d H => ∀ σ : L2.St, σ.length = n → W c d σ H
theorem takes_len {X : Cx} {W : WX} (t : Takes X W) : Takes X (fun c d σ H => σ.length = X.N.length → W c d σ H) := fun u s' ⟨a, B, sI, pins, σ, H, cls, d, e, I, nb, up, sky, na, os, ag, w⟩ =>
  t u s' ⟨a, B, sI, pins, σ, H, cls, d, e, I, nb, up, sky, na, os, ag, w I.len⟩
section
variable {P : Program} {w : World} {K : PySem.W.Frag} {mg : Str → Option Value} {base : Heap} {CM CY : Addr} {C_NoShare C_NoCalendar C_NoDate C_NoWheel C_Taken C_NoText C_NoNote C_NoDeed : Addr}
theorem ok_kinds63 (D : Df K mg "_law_kinds" s_l_kinds []) (T : KdF K mg CM false false false false true false false false false false false true false true false false C_NoShare C_NoCalendar C_NoDate C_NoWheel CM CY C_Taken C_NoText C_NoNote C_NoDeed) (T' : KdF K mg CY false false false false false true false false false false false true false false false false C_NoShare C_NoCalendar C_NoDate C_NoWheel CM CY C_Taken C_NoText C_NoNote C_NoDeed) (g_isinstance : mg "isinstance" = none) :
    Ca P w K mg base CX0 1 "_law_kinds" s_l_kinds [] ["_law_kept"] (spKinds2 CM CY) := by
  refine ca0 (k := 0) D c_l_kinds (fun vs H Q E h => ?_) fun f cdv A outer s H vs Q E hr h => ?_
  · rcases h with ⟨a, d, fs, rfl, _⟩ | ⟨a, d, fs, rfl, _⟩ <;> rfl
  · rcases h with ⟨a, d, fs, rfl, ha, hd, q⟩ | ⟨a, d, fs, rfl, ha, hd, q⟩
    · skip
      have XC := T.xc
      have h_NoShare := T.m0
      have h_NoCalendar := T.m1
      have h_NoDate := T.m2
      have h_NoWheel := T.m3
      have h_NoName := T.m4
      have h_NoDay := T.m5
      have h_Taken := T.m6
      have h_NoText := T.m7
      have h_NoNote := T.m8
      have h_NoDeed := T.m9
      refine ⟨_, (pss_cons (ps_set (i := 1) c_l_kinds.nd rfl (.inl rfl) (pe_lst (pa_cons (pe_callB (call_isK XC) rfl g_isinstance (by decide +kernel) (pa_cons (pv 0) (pa_cons (pe_glob (v := .ref C_NoShare) rfl h_NoShare rfl) pa_nil))) (pa_cons (pe_callB (call_isK XC) rfl g_isinstance (by decide +kernel) (pa_cons (pv 0) (pa_cons (pe_glob (v := .ref C_NoCalendar) rfl h_NoCalendar rfl) pa_nil))) (pa_cons (pe_callB (call_isK XC) rfl g_isinstance (by decide +kernel) (pa_cons (pv 0) (pa_cons (pe_glob (v := .ref C_NoDate) rfl h_NoDate rfl) pa_nil))) pa_nil)))))
      (pss_cons (ps_set (i := 1) c_l_kinds.nd rfl (.inl rfl) (pe_op op_cat (pv 1) (pe_lst (pa_cons (pe_callB (call_isK XC) rfl g_isinstance (by decide +kernel) (pa_cons (pv 0) (pa_cons (pe_glob (v := .ref C_NoWheel) rfl h_NoWheel rfl) pa_nil))) (pa_cons (pe_callB (call_isK XC) rfl g_isinstance (by decide +kernel) (pa_cons (pv 0) (pa_cons (pe_glob (v := .ref CM) rfl h_NoName rfl) pa_nil))) (pa_cons (pe_callB (call_isK XC) rfl g_isinstance (by decide +kernel) (pa_cons (pv 0) (pa_cons (pe_glob (v := .ref CY) rfl h_NoDay rfl) pa_nil))) pa_nil))))))
      (pss_cons (ps_set (i := 1) c_l_kinds.nd rfl (.inl rfl) (pe_op op_cat (pv 1) (pe_lst (pa_cons (pe_callB (call_isK XC) rfl g_isinstance (by decide +kernel) (pa_cons (pv 0) (pa_cons (pe_glob (v := .ref C_Taken) rfl h_Taken rfl) pa_nil))) (pa_cons (pe_callB (call_isK XC) rfl g_isinstance (by decide +kernel) (pa_cons (pv 0) (pa_cons (pe_glob (v := .ref C_NoText) rfl h_NoText rfl) pa_nil))) (pa_cons (pe_callB (call_isK XC) rfl g_isinstance (by decide +kernel) (pa_cons (pv 0) (pa_cons (pe_glob (v := .ref C_NoNote) rfl h_NoNote rfl) pa_nil))) pa_nil))))))
      (pss_one (ps_ret (pe_op op_cat (pv 1) (pe_lst (pa_cons (pe_callB (call_isK XC) rfl g_isinstance (by decide +kernel) (pa_cons (pv 0) (pa_cons (pe_glob (v := .ref C_NoDeed) rfl h_NoDeed rfl) pa_nil))) pa_nil)))))))), ?_⟩
      refine ⟨_, rfl, a, d, fs, _, _, _, rfl, ha, hd, .own _, T.k0, _, rfl, a, d, fs, _, _, _, rfl, ha, hd, .own _, T.k1, _, rfl, a, d, fs, _, _, _, rfl, ha, hd, .own _, T.k2, ln _, fun p1 n1 => ?_⟩
      have s1 := Same.new (o := .lst [.bl false, .bl false, .bl false]) n1
      refine ⟨_, rfl, _, rfl, a, d, fs, _, _, _, rfl, s1 _ _ ha, s1 _ _ hd, .own _, T.k3, _, rfl, a, d, fs, _, _, _, rfl, s1 _ _ ha, s1 _ _ hd, .own _, T.k4, _, rfl, a, d, fs, _, _, _, rfl, s1 _ _ ha, s1 _ _ hd, .own _, T.k5, ln _, fun p2 n2 => ?_⟩
      have s2 := s1.trans (Same.new (o := .lst [.bl false, .bl true, .bl false]) n2)
      refine ⟨p1, p2, _, _, rfl, rfl, (Same.new n2 _ _ upd_same), upd_same, (by show 6 ≤ sizeLine; decide), fun p3 n3 => ?_⟩
      have s3 := s2.trans (Same.new (o := .lst ([.bl false, .bl false, .bl false] ++ [.bl false, .bl true, .bl false])) n3)
      refine ⟨_, rfl, _, rfl, a, d, fs, _, _, _, rfl, s3 _ _ ha, s3 _ _ hd, .own _, T.k6, _, rfl, a, d, fs, _, _, _, rfl, s3 _ _ ha, s3 _ _ hd, .own _, T.k7, _, rfl, a, d, fs, _, _, _, rfl, s3 _ _ ha, s3 _ _ hd, .own _, T.k8, ln _, fun p4 n4 => ?_⟩
      have s4 := s3.trans (Same.new (o := .lst [.bl false, .bl false, .bl false]) n4)
      refine ⟨p3, p4, _, _, rfl, rfl, (Same.new n4 _ _ upd_same), upd_same, (by show 9 ≤ sizeLine; decide), fun p5 n5 => ?_⟩
      have s5 := s4.trans (Same.new (o := .lst (([.bl false, .bl false, .bl false] ++ [.bl false, .bl true, .bl false]) ++ [.bl false, .bl false, .bl false])) n5)
      refine ⟨_, rfl, _, rfl, a, d, fs, _, _, _, rfl, s5 _ _ ha, s5 _ _ hd, .own _, T.k9, ln _, fun p6 n6 => ?_⟩
      have s6 := s5.trans (Same.new (o := .lst [.bl false]) n6)
      refine ⟨p5, p6, _, _, rfl, rfl, (Same.new n6 _ _ upd_same), upd_same, (by show 10 ≤ sizeLine; decide), fun p7 n7 => ?_⟩
      exact q p7 _ (s6.trans (Same.new n7)) upd_same
    · skip
      have XC := T'.xc
      have h_NoShare := T'.m0
      have h_NoCalendar := T'.m1
      have h_NoDate := T'.m2
      have h_NoWheel := T'.m3
      have h_NoName := T'.m4
      have h_NoDay := T'.m5
      have h_Taken := T'.m6
      have h_NoText := T'.m7
      have h_NoNote := T'.m8
      have h_NoDeed := T'.m9
      refine ⟨_, (pss_cons (ps_set (i := 1) c_l_kinds.nd rfl (.inl rfl) (pe_lst (pa_cons (pe_callB (call_isK XC) rfl g_isinstance (by decide +kernel) (pa_cons (pv 0) (pa_cons (pe_glob (v := .ref C_NoShare) rfl h_NoShare rfl) pa_nil))) (pa_cons (pe_callB (call_isK XC) rfl g_isinstance (by decide +kernel) (pa_cons (pv 0) (pa_cons (pe_glob (v := .ref C_NoCalendar) rfl h_NoCalendar rfl) pa_nil))) (pa_cons (pe_callB (call_isK XC) rfl g_isinstance (by decide +kernel) (pa_cons (pv 0) (pa_cons (pe_glob (v := .ref C_NoDate) rfl h_NoDate rfl) pa_nil))) pa_nil)))))
      (pss_cons (ps_set (i := 1) c_l_kinds.nd rfl (.inl rfl) (pe_op op_cat (pv 1) (pe_lst (pa_cons (pe_callB (call_isK XC) rfl g_isinstance (by decide +kernel) (pa_cons (pv 0) (pa_cons (pe_glob (v := .ref C_NoWheel) rfl h_NoWheel rfl) pa_nil))) (pa_cons (pe_callB (call_isK XC) rfl g_isinstance (by decide +kernel) (pa_cons (pv 0) (pa_cons (pe_glob (v := .ref CM) rfl h_NoName rfl) pa_nil))) (pa_cons (pe_callB (call_isK XC) rfl g_isinstance (by decide +kernel) (pa_cons (pv 0) (pa_cons (pe_glob (v := .ref CY) rfl h_NoDay rfl) pa_nil))) pa_nil))))))
      (pss_cons (ps_set (i := 1) c_l_kinds.nd rfl (.inl rfl) (pe_op op_cat (pv 1) (pe_lst (pa_cons (pe_callB (call_isK XC) rfl g_isinstance (by decide +kernel) (pa_cons (pv 0) (pa_cons (pe_glob (v := .ref C_Taken) rfl h_Taken rfl) pa_nil))) (pa_cons (pe_callB (call_isK XC) rfl g_isinstance (by decide +kernel) (pa_cons (pv 0) (pa_cons (pe_glob (v := .ref C_NoText) rfl h_NoText rfl) pa_nil))) (pa_cons (pe_callB (call_isK XC) rfl g_isinstance (by decide +kernel) (pa_cons (pv 0) (pa_cons (pe_glob (v := .ref C_NoNote) rfl h_NoNote rfl) pa_nil))) pa_nil))))))
      (pss_one (ps_ret (pe_op op_cat (pv 1) (pe_lst (pa_cons (pe_callB (call_isK XC) rfl g_isinstance (by decide +kernel) (pa_cons (pv 0) (pa_cons (pe_glob (v := .ref C_NoDeed) rfl h_NoDeed rfl) pa_nil))) pa_nil)))))))), ?_⟩
      refine ⟨_, rfl, a, d, fs, _, _, _, rfl, ha, hd, .own _, T'.k0, _, rfl, a, d, fs, _, _, _, rfl, ha, hd, .own _, T'.k1, _, rfl, a, d, fs, _, _, _, rfl, ha, hd, .own _, T'.k2, ln _, fun p1 n1 => ?_⟩
      have s1 := Same.new (o := .lst [.bl false, .bl false, .bl false]) n1
      refine ⟨_, rfl, _, rfl, a, d, fs, _, _, _, rfl, s1 _ _ ha, s1 _ _ hd, .own _, T'.k3, _, rfl, a, d, fs, _, _, _, rfl, s1 _ _ ha, s1 _ _ hd, .own _, T'.k4, _, rfl, a, d, fs, _, _, _, rfl, s1 _ _ ha, s1 _ _ hd, .own _, T'.k5, ln _, fun p2 n2 => ?_⟩
      have s2 := s1.trans (Same.new (o := .lst [.bl false, .bl false, .bl true]) n2)
      refine ⟨p1, p2, _, _, rfl, rfl, (Same.new n2 _ _ upd_same), upd_same, (by show 6 ≤ sizeLine; decide), fun p3 n3 => ?_⟩
      have s3 := s2.trans (Same.new (o := .lst ([.bl false, .bl false, .bl false] ++ [.bl false, .bl false, .bl true])) n3)
      refine ⟨_, rfl, _, rfl, a, d, fs, _, _, _, rfl, s3 _ _ ha, s3 _ _ hd, .own _, T'.k6, _, rfl, a, d, fs, _, _, _, rfl, s3 _ _ ha, s3 _ _ hd, .own _, T'.k7, _, rfl, a, d, fs, _, _, _, rfl, s3 _ _ ha, s3 _ _ hd, .own _, T'.k8, ln _, fun p4 n4 => ?_⟩
      have s4 := s3.trans (Same.new (o := .lst [.bl false, .bl false, .bl false]) n4)
      refine ⟨p3, p4, _, _, rfl, rfl, (Same.new n4 _ _ upd_same), upd_same, (by show 9 ≤ sizeLine; decide), fun p5 n5 => ?_⟩
      have s5 := s4.trans (Same.new (o := .lst (([.bl false, .bl false, .bl false] ++ [.bl false, .bl false, .bl true]) ++ [.bl false, .bl false, .bl false])) n5)
      refine ⟨_, rfl, _, rfl, a, d, fs, _, _, _, rfl, s5 _ _ ha, s5 _ _ hd, .own _, T'.k9, ln _, fun p6 n6 => ?_⟩
      have s6 := s5.trans (Same.new (o := .lst [.bl false]) n6)
      refine ⟨p5, p6, _, _, rfl, rfl, (Same.new n6 _ _ upd_same), upd_same, (by show 10 ≤ sizeLine; decide), fun p7 n7 => ?_⟩
      exact q p7 _ (s6.trans (Same.new n7)) upd_same
end
/-! ### what is asked -/
theorem pass0X {P : Program} {w : World} {X : Cx} : Passes (L2.CX P w) X E0 := fun _ _ _ _ _ _ _ ⟨_, _, _, _, _, _, _, _, _, _, _, _, h⟩ => h.elim
theorem ix_listK {X : Cx} {K : PySem.W.Frag} (hK : X.K = K) : IxR X (rIxL K) := by
  subst hK
  exact ix_list
def gOd {α : Type} : List α → List α → List α → List α := fun us _ ws => us ++ ws
theorem gOd_rel {vs ds zs : List V} {us its ws : List Value} (h : Vals vs us) (_ : Vals ds its) (k : Vals zs ws) : Vals (gOd vs ds zs) (gOd us its ws) := h.append k
def gRev {α : Type} : List α → List α → List α → List α := fun us _ ws => us ++ ws.reverse
theorem vals_rev {zs : List V} {ws : List Value} (k : Vals zs ws) : Vals zs.reverse ws.reverse := by
  induction k with
  | nil => exact .nil
  | cons r _ ih =>
    rw [List.reverse_cons, List.reverse_cons]
    exact ih.append (.cons r .nil)
theorem gRev_rel {vs ds zs : List V} {us its ws : List Value} (h : Vals vs us) (_ : Vals ds its) (k : Vals zs ws) : Vals (gRev vs ds zs) (gRev us its ws) := h.append (vals_rev k)
theorem kb_meet_2_after : Kdf "meet" s_meet 1 2 ["after"] ["wheels", "wants", "after"] gOd :=
  ⟨fun _ _ _ _ _ _ _ us its ws hu hi hw => match us, hu, its, hi, ws, hw with | [_, _], _, [_], _, [_], _ => ⟨_, rfl, rfl⟩, gOd_rel⟩
theorem kb_meet_0_after_wants_wheels : Kdf "meet" s_meet 1 0 ["after", "wants", "wheels"] ["wheels", "wants", "after"] gRev :=
  ⟨fun _ _ _ _ _ _ _ us its ws hu hi hw => match us, hu, its, hi, ws, hw with | [], _, [_], _, [_, _, _], _ => ⟨_, rfl, rfl⟩, gRev_rel⟩
theorem bd_meet3 : Bd1 "meet" "meet" s_meet ["wheels", "wants", "after"] 3 1 1 := fun _ _ _ _ _ _ _ us its hu hi => match us, hu, its, hi with | [_, _, _], _, [_], _ => ⟨_, rfl, rfl⟩
theorem bd_meet2 : Bd1 "meet" "meet" s_meet ["wheels", "wants", "after"] 2 0 1 := fun _ _ _ _ _ _ _ us its hu hi => match us, hu, its, hi with | [_, _], _, [_], _ => ⟨_, rfl, rfl⟩
def spAskM (C : Addr) : Sp := fun vs H Q _ => ∃ (lm lx : Addr) (ps : List Addr) (ws : List Wd) (xs : List Str) (a wy : Int), vs = [.ref lm, .ref lx, .int a, .int wy] ∧ WL C H lm ps ws ∧ GW ws ∧ (∀ x ∈ ws, Sz 100 x.2) ∧ H lx = some (.lst (xs.map V.str)) ∧ xs.length = ws.length ∧ (∀ n ∈ xs, n.length ≤ 1000) ∧ (wy = 0 ∨ wy = 1) ∧
  ∀ t r H', Same H H' → DueV ws xs a r → H' t = some (.tup r) → Q (.ref t) H'
section
variable {P : Program} {w : World} {K : PySem.W.Frag} {mg : Str → Option Value} {base : Heap} {C CM CY : Addr} {C_NoShare C_NoCalendar C_NoDate C_NoWheel C_Taken C_NoText C_NoNote C_NoDeed : Addr}
theorem ok_lasked63 (D : Df K mg "_law_asked" s_l_asked []) (T : KdF K mg CM false false false false true false false false false false false true false true false false C_NoShare C_NoCalendar C_NoDate C_NoWheel CM CY C_Taken C_NoText C_NoNote C_NoDeed) (T' : KdF K mg CY false false false false false true false false false false false true false false false false C_NoShare C_NoCalendar C_NoDate C_NoWheel CM CY C_Taken C_NoText C_NoNote C_NoDeed)
    (XA : ∃ B : Value → Bool, (∀ c ∈ [Value.ref C_NoCalendar, .ref C_NoDate, .ref CY, .ref C_NoDeed, .ref CM, .ref C_NoNote, .ref C_NoShare, .ref C_NoText, .ref C_NoWheel, .ref C_Taken], PySem.W.exmOne K (.ref CM) c = some (B c)) ∧ ([Value.ref C_NoCalendar, .ref C_NoDate, .ref CY, .ref C_NoDeed, .ref CM, .ref C_NoNote, .ref C_NoShare, .ref C_NoText, .ref C_NoWheel, .ref C_Taken]).any B = true)
    (XA' : ∃ B : Value → Bool, (∀ c ∈ [Value.ref C_NoCalendar, .ref C_NoDate, .ref CY, .ref C_NoDeed, .ref CM, .ref C_NoNote, .ref C_NoShare, .ref C_NoText, .ref C_NoWheel, .ref C_Taken], PySem.W.exmOne K (.ref CY) c = some (B c)) ∧ ([Value.ref C_NoCalendar, .ref C_NoDate, .ref CY, .ref C_NoDeed, .ref CM, .ref C_NoNote, .ref C_NoShare, .ref C_NoText, .ref C_NoWheel, .ref C_Taken]).any B = true)
    (n_name : PySem.W.findIn K (.ref CM) "name" = some none) (n_one : PySem.W.findIn K (.ref CY) "one" = some none) (n_two : PySem.W.findIn K (.ref CY) "two" = some none) (g_isinstance : mg "isinstance" = none) (g_KeyError : mg "KeyError" = none) (g_LookupError : mg "LookupError" = none)
    (f_meet : Ca P w K mg base (L2.CX P w) 5 "meet" s_meet [.int 0] ["wheels", "wants", "after"] (spMeX C CM CY)) (f_l_kinds : Ca P w K mg base CX0 1 "_law_kinds" s_l_kinds [] ["_law_kept"] (spKinds2 CM CY)) :
    Ca P w K mg base CX0 6 "_law_asked" s_l_asked [] ["_law_made", "_law_a_wants", "_law_a_after", "_law_way"] (spAskM C) := by
  refine ca0 (k := 5) D c_l_asked (fun vs H Q E h => ?_) fun f cdv A outer s H vs Q E hr h => ?_
  · obtain ⟨lm, lx, ps, ws, xs, a, wy, rfl, _⟩ := h
    rfl
  · obtain ⟨lm, lx, ps, ws, xs, a, wy, rfl, hw, g, z2, hx, lnx, lz, hwy, q⟩ := h
    have h_NoShare := T.m0
    have h_NoCalendar := T.m1
    have h_NoDate := T.m2
    have h_NoWheel := T.m3
    have h_NoName := T.m4
    have h_NoDay := T.m5
    have h_Taken := T.m6
    have h_NoText := T.m7
    have h_NoNote := T.m8
    have h_NoDeed := T.m9
    have XC := T.xc
    have XC' := T'.xc
    refine ⟨_, (pss_cons (ps_set (i := 4) c_l_asked.nd rfl (.inl rfl) pe_non)
      (pss_cons (ps_set (i := 5) c_l_asked.nd rfl (.inl rfl) pe_non)
      (pss_cons (ps_try_keep (i := 6) (j := 4) rfl rfl rfl c_l_asked.nd rfl rfl rfl rfl (.cons rfl rfl h_NoCalendar (.cons rfl rfl h_NoDate (.cons rfl rfl h_NoDay (.cons rfl rfl h_NoDeed (.cons rfl rfl h_NoName (.cons rfl rfl h_NoNote (.cons rfl rfl h_NoShare (.cons rfl rfl h_NoText (.cons rfl rfl h_NoWheel (.cons rfl rfl h_Taken .nil)))))))))) (by show 10 ≤ 100; decide) (hb := fun W pn xe tk po =>
      (pss_one (ps_set (i := 5) c_l_asked.nd rfl (.inl rfl) (pe_ix (ix_listK (K := K) rfl) (pe_lst (pa_cons (pe_caDS f_meet bd_meet3 (by decide) rfl hr (by decide) tk rfl (pa_cons (pv 0) (pa_cons (pv 1) (pa_cons (pv 2) pa_nil)))) (pa_cons (pe_caDK0 f_meet kb_meet_0_after_wants_wheels (by decide) hr (by decide) tk rfl (pk_cons (pv 2) (pk_cons (pv 1) (pk_cons (pv 0) pk_nil)))) pa_nil))) (pv 3) (fun _ _ => rfl))))))
      (pss_cons (ps_if (pt_cmp (pc_isN (pv 4))) (pss_one (ps_ret (pe_tup (pa_cons pe_str (pa_cons (pv 5) (pa_cons pe_non pa_nil)))))) pss_nil)
      (pss_cons (ps_set (i := 7) c_l_asked.nd rfl (.inl rfl) (pe_ca f_l_kinds b_l_kinds hr (by decide) pass0 rfl (pa_cons (pv 4) pa_nil)))
      (pss_cons (ps_if (PW.pt (pw_and (pt_cmpR op_eq (pe_bm PySem.F.plainAttrs_list PySem.F.slot_list_count PySem.F.type_list_count (mt_countG eqB_flat (hr.mono (by decide))) (pv 7) (pa_cons pe_bl pa_nil)) pe_int (nomark _)) (pw_and (pt_val (pe_ix ix_list (pv 7) pe_int (fun _ _ => rfl))) (pw_and1 (pt_val (pe_callB (call_isK XC) rfl g_isinstance (by decide +kernel) (pa_cons (pv 4) (pa_cons (pe_bltn (v := .ty "KeyError") rfl g_KeyError (by decide +kernel) rfl) pa_nil)))))))) (pss_one (ps_ret (pe_tup (pa_cons pe_str (pa_cons (pe_kf XC n_name (pv 4)) (pa_cons pe_non pa_nil)))))) pss_nil)
      (pss_cons (ps_if (PW.pt (pw_and (pt_cmpR op_eq (pe_bm PySem.F.plainAttrs_list PySem.F.slot_list_count PySem.F.type_list_count (mt_countG eqB_flat (hr.mono (by decide))) (pv 7) (pa_cons pe_bl pa_nil)) pe_int (nomark _)) (pw_and (pt_val (pe_ix ix_list (pv 7) pe_int (fun _ _ => rfl))) (pw_and1 (pt_val (pe_callB (call_isK XC') rfl g_isinstance (by decide +kernel) (pa_cons (pv 4) (pa_cons (pe_bltn (v := .ty "LookupError") rfl g_LookupError (by decide +kernel) rfl) pa_nil)))))))) (pss_one (ps_ret (pe_tup (pa_cons pe_str (pa_cons (pe_kf XC' n_one (pv 4)) (pa_cons (pe_kf XC' n_two (pv 4)) pa_nil)))))) pss_nil)
      (pss_one (ps_ret (pe_tup (pa_cons pe_str (pa_cons pe_non (pa_cons pe_non pa_nil))))))))))))), ?_⟩
    refine ⟨_, rfl, _, rfl, _, rfl, lm, lx, ps, ws, xs, a, rfl, hw, g, z2, hx, lnx, lz, fun wn => ⟨fun ok v H1 s1 mt => ?_, fun i j fp e' H2 ne' s2 he' => ?_⟩, fun i x n ex en hm pv d' H2 nd' s2 he' => ?_⟩
    · refine ⟨_, rfl, _, rfl, _, rfl, rfl, lm, lx, ps, ws, xs, a, rfl, hw.same s1, g, z2, s1 _ _ hx, lnx, lz, fun wn => ⟨fun ok u H2 s2 mu => ?_, fun i j fp => absurd fp.b (ok i j fp.ij fp.jn)⟩, fun i x n ex en hm _ => absurd (wn.m i x n ex en) hm⟩
      have e := mt_one g lnx mt mu
      subst e
      refine ⟨(by show 2 ≤ sizeLine; decide), fun p np => ?_⟩
      have s3 := (s1.trans s2).trans (Same.new (o := .lst [.int v, .int v]) np)
      have ep := upd_same (H := H2) (a := p) (o := .lst [.int v, .int v])
      generalize L2.upd H2 p _ = H3 at *
      refine ⟨_, rfl, p, _, _, .int v, rfl, rfl, SqL.of ep, ?_, ?_⟩
      · rcases hwy with rfl | rfl <;> rfl
      refine ⟨_, rfl, _, rfl, iteT ?_⟩
      refine ⟨_, rfl, (by show 3 ≤ sizeLine; decide), fun p2 np2 => ?_⟩
      exact q p2 _ _ (s3.trans (Same.new np2)) (.inr (.inr ⟨wn, ok, v, mt, rfl⟩)) upd_same
    · refine ⟨XA', fun a' na' => ?_⟩
      have s3 := Same.new (o := KX a' (.ref CY) (some e')) na'
      have ka := upd_same (H := H2) (a := a') (o := KX a' (.ref CY) (some e'))
      have ke := s3 _ _ he'
      have s13 := s2.trans s3
      generalize L2.upd H2 a' _ = H3 at *
      refine ⟨_, rfl, _, rfl, iteF ?_⟩
      refine ⟨_, rfl, .inr ⟨a', e', _, rfl, ka, ke, fun ls H4 s4 el => ?_⟩⟩
      have ka4 := s4 _ _ ka
      have ke4 := s4 _ _ ke
      refine ⟨_, rfl, .inl ⟨rfl, _, SqL.of el⟩, ls, _, .bl true, fun j => decide (j = 5), rfl, rfl, el, ?_, fun H5 s5 => ?_⟩
      · intro j z hj H5 s5
        match j, hj with
        | 0, hj => cases hj; exact ⟨rfl, rfl, rfl⟩
        | 1, hj => cases hj; exact ⟨rfl, rfl, rfl⟩
        | 2, hj => cases hj; exact ⟨rfl, rfl, rfl⟩
        | 3, hj => cases hj; exact ⟨rfl, rfl, rfl⟩
        | 4, hj => cases hj; exact ⟨rfl, rfl, rfl⟩
        | 5, hj => cases hj; exact ⟨rfl, rfl, rfl⟩
        | 6, hj => cases hj; exact ⟨rfl, rfl, rfl⟩
        | 7, hj => cases hj; exact ⟨rfl, rfl, rfl⟩
        | 8, hj => cases hj; exact ⟨rfl, rfl, rfl⟩
        | 9, hj => cases hj; exact ⟨rfl, rfl, rfl⟩
        | j + 10, hj => simp at hj
      have s45 : Same H4 H5 := s5
      refine ⟨rfl, _, rfl, yes' rfl ?_⟩
      refine ⟨_, rfl, ls, _, _, _, rfl, rfl, SqL.of (s45 _ _ el), rfl, _, rfl, no' rfl (no' rfl ?_)⟩
      refine ⟨_, rfl, .inl ⟨rfl, _, SqL.of (s45 _ _ el)⟩, ls, _, .bl true, fun j => decide (j = 5), rfl, rfl, s45 _ _ el, ?_, fun H6 s6 => ?_⟩
      · intro j z hj H5 s5
        match j, hj with
        | 0, hj => cases hj; exact ⟨rfl, rfl, rfl⟩
        | 1, hj => cases hj; exact ⟨rfl, rfl, rfl⟩
        | 2, hj => cases hj; exact ⟨rfl, rfl, rfl⟩
        | 3, hj => cases hj; exact ⟨rfl, rfl, rfl⟩
        | 4, hj => cases hj; exact ⟨rfl, rfl, rfl⟩
        | 5, hj => cases hj; exact ⟨rfl, rfl, rfl⟩
        | 6, hj => cases hj; exact ⟨rfl, rfl, rfl⟩
        | 7, hj => cases hj; exact ⟨rfl, rfl, rfl⟩
        | 8, hj => cases hj; exact ⟨rfl, rfl, rfl⟩
        | 9, hj => cases hj; exact ⟨rfl, rfl, rfl⟩
        | j + 10, hj => simp at hj
      have s46 : Same H4 H6 := s45.trans s6
      refine ⟨rfl, _, rfl, yes' rfl ?_⟩
      refine ⟨_, rfl, ls, _, _, _, rfl, rfl, SqL.of (s46 _ _ el), rfl, _, rfl, yes' rfl ?_⟩
      refine ⟨_, rfl, a', e', _, _, _, _, rfl, s46 _ _ ka4, s46 _ _ ke4, .ty _, T'.t1, _, rfl, yes' rfl ?_⟩
      refine ⟨_, rfl, a', e', _, _, rfl, s46 _ _ ka4, s46 _ _ ke4, rfl, _, rfl, a', e', _, _, rfl, s46 _ _ ka4, s46 _ _ ke4, rfl, (by show 3 ≤ sizeLine; decide), fun p np => ?_⟩
      exact q p _ _ ((s13.trans (s4.trans s46)).trans (Same.new np)) (.inr (.inl ⟨wn, i, j, fp, rfl⟩)) upd_same
    · refine ⟨XA, fun a' na' => ?_⟩
      have s3 := Same.new (o := KX a' (.ref CM) (some d')) na'
      have ka := upd_same (H := H2) (a := a') (o := KX a' (.ref CM) (some d'))
      have ke := s3 _ _ he'
      have s13 := s2.trans s3
      generalize L2.upd H2 a' _ = H3 at *
      refine ⟨_, rfl, _, rfl, iteF ?_⟩
      refine ⟨_, rfl, .inl ⟨a', d', _, rfl, ka, ke, fun ls H4 s4 el => ?_⟩⟩
      have ka4 := s4 _ _ ka
      have ke4 := s4 _ _ ke
      refine ⟨_, rfl, .inl ⟨rfl, _, SqL.of el⟩, ls, _, .bl true, fun j => decide (j = 4), rfl, rfl, el, ?_, fun H5 s5 => ?_⟩
      · intro j z hj H5 s5
        match j, hj with
        | 0, hj => cases hj; exact ⟨rfl, rfl, rfl⟩
        | 1, hj => cases hj; exact ⟨rfl, rfl, rfl⟩
        | 2, hj => cases hj; exact ⟨rfl, rfl, rfl⟩
        | 3, hj => cases hj; exact ⟨rfl, rfl, rfl⟩
        | 4, hj => cases hj; exact ⟨rfl, rfl, rfl⟩
        | 5, hj => cases hj; exact ⟨rfl, rfl, rfl⟩
        | 6, hj => cases hj; exact ⟨rfl, rfl, rfl⟩
        | 7, hj => cases hj; exact ⟨rfl, rfl, rfl⟩
        | 8, hj => cases hj; exact ⟨rfl, rfl, rfl⟩
        | 9, hj => cases hj; exact ⟨rfl, rfl, rfl⟩
        | j + 10, hj => simp at hj
      have s45 : Same H4 H5 := s5
      refine ⟨rfl, _, rfl, yes' rfl ?_⟩
      refine ⟨_, rfl, ls, _, _, _, rfl, rfl, SqL.of (s45 _ _ el), rfl, _, rfl, yes' rfl ?_⟩
      refine ⟨_, rfl, a', d', _, _, _, _, rfl, s45 _ _ ka4, s45 _ _ ke4, .ty _, T.t3, _, rfl, yes' rfl ?_⟩
      refine ⟨_, rfl, a', d', _, _, rfl, s45 _ _ ka4, s45 _ _ ke4, rfl, (by show 3 ≤ sizeLine; decide), fun p np => ?_⟩
      exact q p _ _ ((s13.trans (s4.trans s45)).trans (Same.new np)) (.inl ⟨i, x, n, ex, en, hm, pv, rfl⟩) upd_same
end
/-! ### Wheel: its names from the day 0 on, as a text, beside anything -/
theorem sqSame {K : PySem.W.Frag} {H H1 : Hp} {t : Addr} {xs : List V} (h : SqT K H t xs) (s : Same H H1) : SqT K H1 t xs := by
  rcases h with (h | ⟨o, h⟩) | h
  · exact .inl (.inl (s _ _ h))
  · exact .inl (.inr ⟨o, s _ _ h⟩)
  · exact .inr h
theorem slA_anyS {K : PySem.W.Frag} {H : Hp} {Q : VK} {a : Addr} {xs : List V} {lo hi : Option Int} (ha : SqT K H a xs) (q : ∀ b H', Same H H' → SqT K H' b (cutV xs lo hi) → Q (.ref b) H') : rSlA K (.ref a) lo hi H Q := by
  refine ⟨a, xs, rfl, ha, fun w => q a H (Same.refl _) ?_, fun _ p np => q p _ (Same.new np) (SqT.of upd_same)⟩
  unfold cutV
  rw [w.1, w.2, List.drop_zero, Nat.sub_zero, List.take_length]
  exact ha
theorem catA_anyS {K : PySem.W.Frag} {H : Hp} {Q : VK} {a b : Addr} {xs ys : List V} (ha : SqT K H a xs) (hb : SqT K H b ys) (hz : xs.length + ys.length ≤ sizeLine) (q : ∀ c H', Same H H' → SqT K H' c (xs ++ ys) → Q (.ref c) H') : rCatA K (.ref a) (.ref b) H Q := by
  refine ⟨a, b, xs, ys, rfl, rfl, ha, hb, hz, fun e => q b H (Same.refl _) (by rw [e, List.nil_append]; exact hb), fun _ e => q a H (Same.refl _) (by rw [e, List.append_nil]; exact ha), fun _ _ p np => q p _ (Same.new np) (SqT.of upd_same)⟩
theorem tk_min (ys : List Str) (i : Nat) : ys.take (min i ys.length) = ys.take i := by
  by_cases h : i ≤ ys.length
  · rw [Nat.min_eq_left h]
  · rw [Nat.min_eq_right (by omega), List.take_length, List.take_of_length_le (by omega)]
theorem dr_min (ys : List Str) (i : Nat) : ys.drop (min i ys.length) = ys.drop i := by
  by_cases h : i ≤ ys.length
  · rw [Nat.min_eq_left h]
  · rw [Nat.min_eq_right (by omega), List.drop_length, List.drop_of_length_le (by omega)]
theorem cut_map (ys : List Str) (lo hi : Option Int) : cutV (ys.map V.str) lo hi = ((ys.drop (HT.sIx ys.length 0 lo)).take (HT.sIx ys.length ys.length hi - HT.sIx ys.length 0 lo)).map V.str := by
  unfold cutV
  rw [List.length_map, List.map_take, List.map_drop]
theorem cut_lo (ys : List Str) (i : Nat) : cutV (ys.map V.str) none (some ((i : Nat) : Int)) = (ys.take i).map V.str := by
  rw [cut_map]
  have e1 : HT.sIx ys.length 0 none = 0 := rfl
  have e2 : HT.sIx ys.length ys.length (some ((i : Nat) : Int)) = min i ys.length := HT.sIx_nat _ _ i
  rw [e1, e2, List.drop_zero, Nat.sub_zero, tk_min]
theorem cut_hi (ys : List Str) (i : Nat) : cutV (ys.map V.str) (some ((i : Nat) : Int)) none = (ys.drop i).map V.str := by
  rw [cut_map]
  have e1 : HT.sIx ys.length ys.length none = ys.length := rfl
  have e2 : HT.sIx ys.length 0 (some ((i : Nat) : Int)) = min i ys.length := HT.sIx_nat _ _ i
  rw [e1, e2, dr_min, List.take_of_length_le (by rw [List.length_drop]; omega)]
/-- the names of the days 0, 1, .. of a round -/
def fnW (x : Wd) : List Str := (List.range x.1.length).map fun (d : Nat) => nmA x (d : Int)
theorem fnW_len (x : Wd) : (fnW x).length = x.1.length := by
  unfold fnW
  rw [List.length_map, List.length_range]
theorem fnW_mem {x : Wd} (g : NmG x.1) : ∀ n ∈ fnW x, n ∈ x.1 := by
  intro n hn
  unfold fnW at hn
  obtain ⟨d, _, rfl⟩ := List.mem_map.mp hn
  exact nmA_mem g _
theorem fnW_cut {x : Wd} (g : NmG x.1) {m : Nat} (h : (-x.2) % (x.1.length : Int) = (m : Int)) : x.1.drop m ++ x.1.take m = fnW x := by
  have l0 := g.pos
  have h1 := Int.emod_lt_of_pos (-x.2) (show (0 : Int) < (x.1.length : Int) by omega)
  have hm : m < x.1.length := by omega
  refine List.ext_getElem (by rw [fnW_len, List.length_append, List.length_drop, List.length_take]; omega) fun d hd hd2 => ?_
  rw [fnW_len] at hd2
  have key : ((d : Int) - x.2) % (x.1.length : Int) = ((d + m : Nat) : Int) % (x.1.length : Int) := by
    rw [Int.natCast_add, ← h, Int.add_emod_emod]
    rfl
  have rhs : (fnW x)[d]'(by rw [fnW_len]; exact hd2) = x.1.getD ((d + m) % x.1.length) Str.empty := by
    unfold fnW
    rw [List.getElem_map, List.getElem_range]
    unfold nmA
    rw [key, ← Int.natCast_emod, Int.toNat_natCast]
  rw [rhs]
  have hlt : (d + m) % x.1.length < x.1.length := Nat.mod_lt _ l0
  rw [List.getD_eq_getElem?_getD, List.getElem?_eq_getElem hlt]
  by_cases hc : d < x.1.length - m
  · rw [List.getElem_append_left (by rw [List.length_drop]; exact hc), List.getElem_drop]
    simp only [Option.getD_some]
    congr 1
    rw [Nat.mod_eq_of_lt (by omega)]
    omega
  · rw [List.getElem_append_right (by rw [List.length_drop]; omega), List.getElem_take]
    simp only [Option.getD_some, List.length_drop]
    congr 1
    have : d + m = (d - (x.1.length - m)) + x.1.length := by omega
    rw [this, Nat.add_mod_right, Nat.mod_eq_of_lt (by omega)]
def dlT (ns : List Str) : PyData := .tuple (ns.map PyData.str)
theorem dlT_ok {ns : List Str} (h : ∀ x ∈ ns, PyData.strOk x = true) : SeqAt.shaped (dlT ns) = true := by
  have k := dlS_ok h
  have k' : (PyData.canLay0 (dlS ns) && decide (PyData.depth (dlS ns) ≤ 64)) = true := k
  show (PyData.canLay0 (dlT ns) && decide (PyData.depth (dlT ns) ≤ 64)) = true
  unfold dlT
  unfold dlS at k'
  simp only [PyData.canLay0, PyData.depth] at k' ⊢
  exact k'
theorem dlT_iff (ns ms : List Str) : PyData.eqv (dlT ns) (dlT ms) = decide (ns = ms) := by
  have k := dlS_iff ns ms
  unfold dlS at k
  unfold dlT
  simp only [PyData.eqv] at k ⊢
  exact k
theorem dlT_dp {K : PySem.W.Frag} {H : Hp} {p : Addr} {ns : List Str} (e : SqT K H p (ns.map V.str)) : Dp K H (.ref p) (dlT ns) := .tup e (dlS_all K H ns)
/-- names of plain signs, not long -/
structure NmT (ns : List Str) : Prop where
  g : NmG ns
  ok : ∀ x ∈ ns, PyData.strOk x = true
  ln : ∀ x ∈ ns, x.length ≤ 200
theorem sumL {l : List Nat} {b : Nat} (h : ∀ x ∈ l, x ≤ b) : l.sum ≤ l.length * b := by
  induction l with
  | nil => simp
  | cons a r ih =>
    have h1 := ih fun x hx => h x (List.mem_cons_of_mem _ hx)
    have h2 := h a List.mem_cons_self
    rw [List.sum_cons, List.length_cons, Nat.succ_mul]
    omega
def spFrW (K : PySem.W.Frag) (C : Addr) : Sp := fun vs H Q _ => ∃ (p : Addr) (x : Wd), vs = [.ref p] ∧ Wf C H p x ∧ NmG x.1 ∧ ∀ t H', Same H H' → SqT K H' t ((fnW x).map V.str) → Q (.ref t) H'
def spWfS (C : Addr) : Sp := fun vs H Q _ => ∃ (p : Addr) (x : Wd), vs = [.ref p] ∧ Wf C H p x ∧ NmT x.1 ∧ ∀ H', Same H H' → Q (.str (Txt.join (" " : Str) (fnW x))) H'
section
variable {P : Program} {w : World} {K : PySem.W.Frag} {mg : Str → Option Value} {base : Heap} {C : Addr}
theorem ok_frW (D : Df K mg "names_from_nought" s_names_from_nought []) (W : WhT K C) (g_len : mg "len" = none) : Ca P w K mg base CX0 1 "names_from_nought" s_names_from_nought [] ["wheel"] (spFrW K C) := by
  refine ca0 (k := 0) D c_names_from_nought (fun vs H Q E h => ?_) fun f cdv A outer s H vs Q E hr h => ?_
  · obtain ⟨p, x, rfl, _⟩ := h
    rfl
  · obtain ⟨p, x, rfl, ⟨dx, t, hp, ht⟩, g, q⟩ := h
    have l0 := g.pos
    have h0 := Int.emod_nonneg (-x.2) (show (x.1.length : Int) ≠ 0 by omega)
    refine ⟨_, (pss_cons (ps_set (i := 1) c_names_from_nought.nd rfl (.inl rfl) (pe_op op_mod (pe_un un_neg (pe_fld (pv 0) rfl)) (pe_callB call_len_seq rfl g_len (by decide +kernel) (pa_cons (pe_fld (pv 0) rfl) pa_nil))))
      (pss_one (ps_ret (pe_op op_catA (pe_slice sl_tupA (pe_fld (pv 0) rfl) (po_some (pv 1)) po_none) (pe_slice sl_tupA (pe_fld (pv 0) rfl) po_none (po_some (pv 1))))))), ?_⟩
    refine ⟨_, rfl, p, C, dx, _, _, rfl, hp, W.cl, W.n2, wf_first _ _, _, rfl, _, rfl, p, C, dx, _, _, rfl, hp, W.cl, W.n1, wf_names _ _, t, _, rfl, .inr ht.sq, _, _, rfl, rfl, (by rw [List.length_map]; omega), ?_⟩
    rw [List.length_map]
    obtain ⟨m, hm⟩ : ∃ m : Nat, (-x.2) % (x.1.length : Int) = (m : Int) := ⟨((-x.2) % (x.1.length : Int)).toNat, by omega⟩
    dsimp only
    rw [hm]
    refine ⟨_, rfl, p, C, dx, _, _, rfl, hp, W.cl, W.n1, wf_names _ _, _, rfl, _, rfl, ?_⟩
    dsimp only [tNoPart]
    refine slA_anyS ht.sq fun b H1 s1 hb => ?_
    rw [cut_hi] at hb
    refine ⟨_, rfl, p, C, dx, _, _, rfl, s1 _ _ hp, W.cl, W.n1, wf_names _ _, ?_⟩
    dsimp only [tNoPart]
    refine ⟨_, rfl, _, rfl, slA_anyS (ht.same s1).sq fun c H2 s2 hc => ?_⟩
    rw [cut_lo] at hc
    refine catA_anyS (sqSame hb s2) hc ?_ fun r H3 s3 hr' => q r H3 ((s1.trans s2).trans s3) (by rw [← fnW_cut g hm, List.map_append]; exact hr')
    have := g.len
    rw [List.length_map, List.length_map, List.length_drop, List.length_take]
    exact Nat.le_trans (show _ ≤ 200 by omega) (by decide)
theorem ok_wfS (D : Dm K C "__str__" "Wheel.__str__" s_Wheel_str) (f_names_from_nought : Ca P w K mg base CX0 1 "names_from_nought" s_names_from_nought [] ["wheel"] (spFrW K C)) : Cm P w K mg base CX0 2 C "__str__" "Wheel.__str__" s_Wheel_str ["self"] (spWfS C) := by
  refine cm0 (k := 1) D c_Wheel_str (fun vs H Q E h => ?_) fun f cdv A outer s H vs Q E hr h => ?_
  · obtain ⟨p, x, rfl, _⟩ := h
    rfl
  · obtain ⟨p, x, rfl, hw, g, q⟩ := h
    refine ⟨_, (pss_one (ps_ret (pe_m1 PySem.F.slot_str_join PySem.F.type_str_join mt_join pe_str (pe_ca f_names_from_nought b_names_from_nought hr (by decide) pass0 rfl (pa_cons (pv 0) pa_nil))))), ?_⟩
    refine ⟨⟨_, rfl⟩, _, rfl, p, x, rfl, hw, g.g, fun t H1 s1 ht => ?_⟩
    refine ⟨_, t, fnW x, rfl, rfl, .inr ht, ?_, q H1 s1⟩
    have h1 := sumL (l := (fnW x).map (·.length)) (b := 200) (by
      intro k h
      obtain ⟨y, hy, rfl⟩ := List.mem_map.mp h
      exact g.ln y (fnW_mem g.g y hy))
    have h2 : ((" " : Str)).length = 1 := by decide +kernel
    have h3 := g.g.len
    rw [List.length_map, fnW_len] at h1
    rw [fnW_len, h2]
    have : x.1.length * 200 ≤ 62 * 200 := Nat.mul_le_mul_right _ h3
    omega
end
theorem wf_rd {C : Addr} {H : Hp} {p : Addr} {x : Wd} {Q : VK} (hw : Wf C H p x) (g : NmT x.1) (k : ∀ H', Same H H' → Q (.str (Txt.join (" " : Str) (fnW x))) H') : rSI C (spWfS C) E0 [.ref p] H Q := by
  unfold rSI
  obtain ⟨dx, t, e, _⟩ := id hw
  exact .inr ⟨p, dx, _, rfl, e, p, x, rfl, hw, g, fun H' s => ⟨_, rfl, k H' s⟩⟩
/-! ### whole numbers told -/
def spWhole : Sp := fun vs H Q _ => ∃ i : Int, vs = [.int i] ∧ Q (.bl true) H
section
variable {P : Program} {w : World} {K : PySem.W.Frag} {mg : Str → Option Value} {base : Heap}
theorem ok_lwhole (D : Df K mg "_law_whole" s_l_whole []) (g_isinstance : mg "isinstance" = none) (g_int : mg "int" = none) (g_bool : mg "bool" = none) : Ca P w K mg base CX0 1 "_law_whole" s_l_whole [] ["_law_told"] spWhole := by
  refine ca0 (k := 0) D c_l_whole (fun vs H Q E h => ?_) fun f cdv A outer s H vs Q E hr h => ?_
  · obtain ⟨i, rfl, _⟩ := h
    rfl
  · obtain ⟨i, rfl, q⟩ := h
    refine ⟨_, (pss_one (ps_ret (pe_and (pe_callB call_isi rfl g_isinstance (by decide +kernel) (pa_cons (pv 0) (pa_cons (pe_bltn (v := .ty "int") rfl g_int (by decide +kernel) rfl) pa_nil))) (pe_one (pe_not (pe_callB call_isi rfl g_isinstance (by decide +kernel) (pa_cons (pv 0) (pa_cons (pe_bltn (v := .ty "bool") rfl g_bool (by decide +kernel) rfl) pa_nil)))))))), ?_⟩
    refine ⟨_, rfl, _, _, _, _, _, rfl, .ty "int", .base (.int i), kit_ty (r := true) (by decide +kernel), _, rfl, iteT ?_⟩
    refine ⟨_, rfl, _, _, _, _, _, rfl, .ty "bool", .base (.int i), kit_ty (r := false) (by decide +kernel), _, rfl, ?_⟩
    exact q
end
/-! ### the law -/
def spLaw (K : PySem.W.Frag) : Sp := fun vs H Q _ => ∃ (a : Addr) (ns : List Int), vs = [.ref a] ∧ SqL K H a (ns.map V.int) ∧ ns.length ≤ 63 ∧ ∀ H', Q (.bl true) H'
theorem cut_ints {ns : List Int} {lo hi : Option Int} {j : Nat} {x : V} (h : (cutV (ns.map V.int) lo hi ++ [V.int 0])[j]? = some x) : ∃ c : Int, x = .int c := by
  have hx : x ∈ cutV (ns.map V.int) lo hi ++ [V.int 0] := List.mem_of_getElem? h
  rcases List.mem_append.mp hx with hx | hx
  · have h1 := List.mem_of_mem_take hx
    have h2 := List.mem_of_mem_drop h1
    obtain ⟨c, _, e⟩ := List.mem_map.mp h2
    exact ⟨c, e.symm⟩
  · exact ⟨0, List.mem_singleton.mp hx⟩
theorem cut_len {ns : List Int} {lo hi : Option Int} (h : ns.length ≤ 63) : (cutV (ns.map V.int) lo hi).length + ([V.int 0] : List V).length ≤ sizeLine := by
  have h1 := cutV_length (ns.map V.int) lo hi
  rw [List.length_map] at h1
  have h2 : ([V.int 0] : List V).length = 1 := rfl
  exact Nat.le_trans (show _ ≤ 64 by omega) (by decide)
/-! ### names as the law draws them -/
def ltS (k : Nat) : Str := ⟨#[97 + k]⟩
def nmL (z : Nat) : List Str := (List.range z).map ltS
theorem lt_at : ∀ k : Fin 12, atI (("abcdefghijkl" : Str)).cps.toList ((k.val : Nat) : Int) = some (97 + k.val) := by decide +kernel
theorem lt_inj : ∀ i j : Fin 12, ltS i.val = ltS j.val → i = j := by decide +kernel
theorem lt_ok : ∀ i : Fin 12, PyData.strOk (ltS i.val) = true := by decide +kernel
theorem lt_len : ∀ i : Fin 12, Nat.ble (ltS i.val).length 200 = true := by decide +kernel
theorem nmL_t {z : Nat} (h1 : 1 ≤ z) (h2 : z ≤ 12) : NmT (nmL z) := by
  have mem : ∀ n ∈ nmL z, ∃ k : Fin 12, n = ltS k.val := by
    intro n hn
    unfold nmL at hn
    obtain ⟨k, hk, rfl⟩ := List.mem_map.mp hn
    rw [List.mem_range] at hk
    exact ⟨⟨k, by omega⟩, rfl⟩
  refine ⟨⟨fun e => ?_, ?_, ?_⟩, fun n hn => ?_, fun n hn => ?_⟩
  · have : (nmL z).length = 0 := by rw [e]; rfl
    unfold nmL at this
    rw [List.length_map, List.length_range] at this
    omega
  · unfold nmL List.Nodup
    rw [List.pairwise_map]
    refine List.Pairwise.imp_of_mem (R := (· < ·)) (fun {a b} ha hb hab e => ?_) List.pairwise_lt_range
    rw [List.mem_range] at ha hb
    have := lt_inj ⟨a, by omega⟩ ⟨b, by omega⟩ e
    have := Fin.mk.inj this
    omega
  · unfold nmL
    rw [List.length_map, List.length_range]
    omega
  · obtain ⟨k, rfl⟩ := mem n hn
    exact lt_ok k
  · obtain ⟨k, rfl⟩ := mem n hn
    exact Nat.le_of_ble_eq_true (lt_len k)
/-- wheels as the law draws them -/
structure LW (ws : List Wd) : Prop where
  n : ws.length ≤ 4
  w : ∀ x ∈ ws, NmT x.1 ∧ Sz 64 x.2
theorem LW.g {ws : List Wd} (h : LW ws) : GW ws := ⟨fun x hx => (h.w x hx).1.g, Nat.le_trans h.n (by decide)⟩
theorem LW.z {ws : List Wd} (h : LW ws) : ∀ x ∈ ws, Sz 100 x.2 := fun x hx => (h.w x hx).2.mono (by decide)
def okX (n : Str) : Prop := n.length ≤ 200 ∧ PyData.strOk n = true
/-- drawn: wheels, and a name for each -/
structure Drn (H : Hp) (la lx : Addr) (ts : List Addr) (ws : List Wd) (xs : List Str) : Prop where
  a : AW H la ts ws
  w : LW ws
  x : H lx = some (.lst (xs.map V.str))
  n : xs.length = ws.length
  o : ∀ n ∈ xs, okX n
theorem Drn.same {H H1 : Hp} {la lx : Addr} {ts : List Addr} {ws : List Wd} {xs : List Str} (h : Drn H la lx ts ws xs) (s : Same H H1) : Drn H1 la lx ts ws xs := ⟨h.a.same s, h.w, s _ _ h.x, h.n, h.o⟩
theorem Nt.but {l : Addr} {H H1 : Hp} {t : Addr} {x : Wd} {n : Nat} (h : Nt H t x) (d : Dr H l n) (b : But l H H1) (hl : ∀ ln, H t = some (.tup [.ref ln, .int x.2]) → ln ≠ l) : Nt H1 t x := by
  obtain ⟨ln, e1, e2⟩ := h
  obtain ⟨_, _, _, hl', _⟩ := d
  exact ⟨ln, b _ _ (ne_of e1 hl' (by intro z; cases z)) e1, b _ _ (hl ln e1) e2⟩
/-- as drawn, each list of names by itself -/
structure AX (H : Hp) (dr la lx : Addr) (ts : List Addr) (ws : List Wd) : Prop where
  l : H la = some (.lst (ts.map V.ref))
  n : ts.length = ws.length
  w : ∀ (j : Nat) t x, ts[j]? = some t → ws[j]? = some x → ∃ ln, H t = some (.tup [.ref ln, .int x.2]) ∧ H ln = some (.lst (x.1.map V.str)) ∧ ln ≠ dr ∧ ln ≠ la ∧ ln ≠ lx
theorem AX.aw {H : Hp} {l la lx : Addr} {ts : List Addr} {ws : List Wd} (h : AX H l la lx ts ws) : AW H la ts ws := ⟨h.l, h.n, fun j t x a b =>
  let ⟨ln, e1, e2, _⟩ := h.w j t x a b
  ⟨ln, e1, e2⟩⟩
theorem AX.same {H H1 : Hp} {l la lx : Addr} {ts : List Addr} {ws : List Wd} (h : AX H l la lx ts ws) (s : Same H H1) : AX H1 l la lx ts ws := ⟨s _ _ h.l, h.n, fun j t x a b =>
  let ⟨ln, e1, e2, e3⟩ := h.w j t x a b
  ⟨ln, s _ _ e1, s _ _ e2, e3⟩⟩
theorem AX.but {H H1 : Hp} {l la lx : Addr} {ts : List Addr} {ws : List Wd} {n : Nat} (h : AX H l la lx ts ws) (d : Dr H l n) (b : But l H H1) (ne : la ≠ l) : AX H1 l la lx ts ws := by
  obtain ⟨_, _, _, hl, _⟩ := d
  refine ⟨b _ _ ne h.l, h.n, fun j t x a c => ?_⟩
  obtain ⟨ln, e1, e2, e3, e4⟩ := h.w j t x a c
  exact ⟨ln, b _ _ (ne_of e1 hl (by intro z; cases z)) e1, b _ _ e3 e2, e3, e4⟩
theorem AX.putX {H : Hp} {l la lx : Addr} {ts : List Addr} {ws : List Wd} {xs ys : List V} (h : AX H l la lx ts ws) (e : H lx = some (.lst xs)) (ne : la ≠ lx) : AX (L2.upd H lx (.lst ys)) l la lx ts ws := by
  refine ⟨by rw [upd_ne ne]; exact h.l, h.n, fun j t x a c => ?_⟩
  obtain ⟨ln, e1, e2, e3, e4, e5⟩ := h.w j t x a c
  exact ⟨ln, by rw [upd_ne (ne_of e1 e (by intro z; cases z))]; exact e1, by rw [upd_ne e5]; exact e2, e3, e4, e5⟩
theorem AX.app {H : Hp} {l la lx t ln : Addr} {ts : List Addr} {ws : List Wd} {x : Wd} (h : AX H l la lx ts ws) (e1 : H t = some (.tup [.ref ln, .int x.2])) (e2 : H ln = some (.lst (x.1.map V.str))) (e3 : ln ≠ l) (e4 : ln ≠ la) (e5 : ln ≠ lx) :
    AX (L2.upd H la (.lst (ts.map V.ref ++ [V.ref t]))) l la lx (ts ++ [t]) (ws ++ [x]) := by
  refine ⟨by rw [upd_same, List.map_append]; rfl, by rw [List.length_append, List.length_append, h.n]; rfl, fun j q y hq hy => ?_⟩
  have key : ∀ {q ln : Addr} {y : Wd}, H q = some (.tup [.ref ln, .int y.2]) → H ln = some (.lst (y.1.map V.str)) → ln ≠ l → ln ≠ la → ln ≠ lx → ∃ ln, (L2.upd H la (.lst (ts.map V.ref ++ [V.ref t]))) q = some (.tup [.ref ln, .int y.2]) ∧ (L2.upd H la (.lst (ts.map V.ref ++ [V.ref t]))) ln = some (.lst (y.1.map V.str)) ∧ ln ≠ l ∧ ln ≠ la ∧ ln ≠ lx := fun {q ln y} a1 a2 a3 a4 a5 =>
    ⟨ln, by rw [upd_ne (ne_of a1 h.l (by intro z; cases z))]; exact a1, by rw [upd_ne a4]; exact a2, a3, a4, a5⟩
  by_cases hj : j < ts.length
  · rw [List.getElem?_append_left hj] at hq
    rw [List.getElem?_append_left (by rw [← h.n]; exact hj)] at hy
    obtain ⟨ln', a1, a2, a3, a4, a5⟩ := h.w j q y hq hy
    exact key a1 a2 a3 a4 a5
  · have ej : j = ts.length := by
      have := (List.getElem?_eq_some_iff.mp hq).1
      rw [List.length_append, List.length_cons, List.length_nil] at this
      omega
    subst ej
    rw [List.getElem?_append_right (Nat.le_refl _), Nat.sub_self] at hq
    rw [h.n, List.getElem?_append_right (Nat.le_refl _), Nat.sub_self] at hy
    cases hq
    cases hy
    exact key e1 e2 e3 e4 e5
theorem strs_list (ws : List Wd) (d : Int) : ((List.range ws.length).map fun j => V.str (nmA (ws.getD j ([], 0)) d)) = (ws.map fun x => nmA x d).map V.str := by
  rw [List.map_map]
  refine List.ext_getElem? fun j => ?_
  rw [List.getElem?_map, List.getElem?_map]
  by_cases hj : j < ws.length
  · rw [List.getElem?_range hj, List.getElem?_eq_getElem hj]
    simp only [Option.map_some, Function.comp]
    rw [List.getD_eq_getElem?_getD, List.getElem?_eq_getElem hj]
    rfl
  · rw [List.getElem?_eq_none_iff.mpr (by rw [List.length_range]; omega), List.getElem?_eq_none_iff.mpr (by omega)]
    rfl
theorem getD_at {ws : List Wd} {j : Nat} {x : Wd} (h : ws[j]? = some x) : ws.getD j ([], 0) = x := by
  rw [List.getD_eq_getElem?_getD, h]
  rfl
theorem nmA_okX {x : Wd} (g : NmT x.1) (d : Int) : okX (nmA x d) := ⟨g.ln _ (nmA_mem g.g d), g.ok _ (nmA_mem g.g d)⟩
theorem xs_ok {xs : List Str} (h : ∀ n ∈ xs, okX n) : (∀ n ∈ xs, n.length ≤ 1000) ∧ ∀ n ∈ xs, PyData.strOk n = true := ⟨fun n hn => Nat.le_trans (h n hn).1 (by decide), fun n hn => (h n hn).2⟩
/-- what is due, as data -/
theorem due_dp {ws : List Wd} {xs : List Str} {a : Int} {r : List V} (h : DueV ws xs a r) (ok : ∀ n ∈ xs, okX n) : ∃ d, (∀ (K : PySem.W.Frag) (H : Hp) (t : Addr), H t = some (.tup r) → Dp K H (.ref t) d) ∧ SeqAt.shaped d = true ∧ PyData.eqv d d = true := by
  rcases h with ⟨i, x, n, h1, h2, h3, h4, rfl⟩ | ⟨w1, i, j, h1, rfl⟩ | ⟨w1, h1, v, h2, rfl⟩
  · refine ⟨.tuple [.str "name", .str n, .none], fun K H t e => .tup (SqT.of e) (.cons (.str _) (.cons (.str _) (.cons .non .nil))), ?_, ?_⟩
    · have k := (ok n (List.mem_of_getElem? h2)).2
      show (PyData.canLay0 _ && decide (PyData.depth _ ≤ 64)) = true
      simp [PyData.canLay0, PyData.canLayAll0, PyData.depth, PyData.depthAll, k]
      decide +kernel
    · simp [PyData.eqv, PyData.eqvAll]
  · refine ⟨.tuple [.str "day", .int i, .int j], fun K H t e => .tup (SqT.of e) (.cons (.str _) (.cons (.int _) (.cons (.int _) .nil))), ?_, ?_⟩
    · show (PyData.canLay0 _ && decide (PyData.depth _ ≤ 64)) = true
      simp [PyData.canLay0, PyData.canLayAll0, PyData.depth, PyData.depthAll]
      decide +kernel
    · simp [PyData.eqv, PyData.eqvAll]
  · refine ⟨.tuple [.str "good", .int v, .none], fun K H t e => .tup (SqT.of e) (.cons (.str _) (.cons (.int _) (.cons .non .nil))), ?_, ?_⟩
    · show (PyData.canLay0 _ && decide (PyData.depth _ ≤ 64)) = true
      simp [PyData.canLay0, PyData.canLayAll0, PyData.depth, PyData.depthAll]
      decide +kernel
    · simp [PyData.eqv, PyData.eqvAll]
theorem Wf.put {C l : Addr} {H : Hp} {p : Addr} {x : Wd} {xs ys : List V} (h : Wf C H p x) (e : H l = some (.lst xs)) : Wf C (L2.upd H l (.lst ys)) p x := by
  obtain ⟨dx, t, e1, o, e2, r⟩ := h
  exact ⟨dx, t, by rw [upd_ne (ne_of e1 e (by intro z; cases z))]; exact e1, o, by rw [upd_ne (ne_of e2 e (by intro z; cases z))]; exact e2, r⟩
theorem made_wz {C : Addr} {H : Hp} {R : Addr → Hp → Prop} {E : XK} {l : Addr} {i : Int} {ns : List Str} (hl : H l = some (.lst (ns.map V.str))) (g : NmG ns) (h : ∀ p H', Same H H' → Wf C H' p (ns, i) → R p H') :
    ∀ a dx, H a = none → H dx = none → dx ≠ a → spWzI C [.ref a, .ref l, .int i] (L2.upd (L2.upd H dx (.own a)) a (.ins C dx [])) (fun r H2 => r = .non ∧ R a H2) E := by
  intro a dx ha hd ne
  have s0 : Same H (L2.upd (L2.upd H dx (.own a)) a (.ins C dx [])) := Same.upd (Same.new hd) (by rw [upd_ne ne.symm]; exact ha)
  exact ⟨a, dx, l, i, ns, rfl, upd_same, s0 _ _ hl, g, fun H' b hw => ⟨rfl, h a H' (fun c w e => b c w (ne_of_none e ha) (s0 c w e)) hw⟩⟩
theorem WL.but {C lw l : Addr} {H H1 : Hp} {ps : List Addr} {ws : List Wd} {n : Nat} (h : WL C H lw ps ws) (d : Dr H l n) (b : But l H H1) (ne : lw ≠ l) : WL C H1 lw ps ws := ⟨b _ _ ne h.l, h.n, fun j p x a c => (h.w j p x a c).but d b⟩
theorem strOk_app {a b : Str} (ha : PyData.strOk a = true) (hb : PyData.strOk b = true) : PyData.strOk (a ++ b) = true := by
  unfold PyData.strOk at *
  show (a.cps ++ b.cps).all _ = true
  rw [Array.all_append, ha, hb]
  rfl
theorem strOk_join {sep : Str} (hs : PyData.strOk sep = true) : ∀ {xs : List Str}, (∀ x ∈ xs, PyData.strOk x = true) → PyData.strOk (Str.join sep xs) = true
  | [], _ => (show PyData.strOk Str.empty = true by decide +kernel)
  | [x], h => h x (by simp)
  | x :: y :: r, h => strOk_app (strOk_app (h x (by simp)) hs) (strOk_join hs (xs := y :: r) fun z hz => h z (List.mem_cons_of_mem _ hz))
theorem fn_ok {x : Wd} (g : NmT x.1) : PyData.strOk (Txt.join (" " : Str) (fnW x)) = true := by
  rw [TL.join_eq]
  exact strOk_join (by decide +kernel) fun n hn => g.ok n (fnW_mem g.g n hn)
theorem refs_of {us : List V} {Ps : Nat → Addr → Prop} (h : ∀ j v, us[j]? = some v → ∃ p, v = .ref p ∧ Ps j p) : ∃ ps : List Addr, us = ps.map V.ref ∧ ∀ j p, ps[j]? = some p → Ps j p := by
  induction us generalizing Ps with
  | nil => exact ⟨[], rfl, fun j p h => by simp at h⟩
  | cons u r ih =>
    obtain ⟨p, e, hp⟩ := h 0 u rfl
    obtain ⟨ps, e2, h2⟩ := ih (Ps := fun j p => Ps (j + 1) p) fun j v hj => h (j + 1) v hj
    refine ⟨p :: ps, by rw [e, e2]; rfl, fun j q hj => ?_⟩
    match j, hj with
    | 0, hj => cases hj; exact hp
    | j + 1, hj => exact h2 j q hj
def gRd {α : Type} : List α → List α → List α := fun _ ws => ws
theorem gRd_rel {vs zs : List V} {us ws : List Value} (_ : vs.length = 0) (_ : zs.length = 1) (_ : Vals vs us) (k : Vals zs ws) : Vals (gRd vs zs) (gRd us ws) := k
theorem kb_meet_round_wheels : Kb "meet_round" s_meet_round 0 ["wheels"] ["wheels"] gRd := ⟨fun _ _ _ _ _ _ us ws hu hw => match us, hu, ws, hw with | [], _, [_], _ => rfl, gRd_rel⟩
theorem bd_Wheel2 : Bd1 "__init__" "Wheel.__init__" s_Wheel_init ["self", "names", "first"] 3 1 1 := fun _ _ _ _ _ _ _ us its hu hi => match us, hu, its, hi with | [_, _, _], _, [_], _ => ⟨_, rfl, rfl⟩
def spR63 : Sp := fun vs H Q _ => ∃ l : Addr, vs = [.ref l] ∧ Dr H l 0 ∧ ∀ H', But l H H' → Q (.bl true) H'
abbrev LEN (K : PySem.W.Frag) : List V → Hp → VK → Prop := fun xs H Q => ∃ p ys, xs = [.ref p] ∧ (SqL K H p ys ∨ SqT K H p ys) ∧ Q (.int ys.length) H
abbrev TE_l_right1 (_K : PySem.W.Frag) (_C : Addr) : TE := tOp rIxS (tC (.str "abcdefghijkl")) (tVar 14)
abbrev TE_l_right2 (K : PySem.W.Frag) (_C : Addr) : TE := tOp (rIxL K) (tVar 4) (tOp (rI (fun _ j => 0 < j) fun i j => .int (i % j)) (tOp (rI0 fun i j => .int (i - j)) (tVar 7) (tVar 5)) (tCB (LEN K) (tCons (tVar 4) tNil)))
abbrev TE_l_right3 (_K : PySem.W.Frag) (C : Addr) : TE := tMake C (spWzI C) (([.int 0] : List V).drop 1) E0 (tCons (tVar 4) (tCons (tVar 5) tNil))
abbrev TE_l_right4 (K : PySem.W.Frag) (_C : Addr) : TE := tCB (LEN K) (tCons (tVar 4) tNil)
abbrev TE_l_right5 (_K : PySem.W.Frag) (C : Addr) : TE := tCB (rSI C (spWfS C) E0) (tCons (tVar 15) tNil)
abbrev TE_l_right6 (_K : PySem.W.Frag) (C : Addr) : TE := tCB (rSI C (spWfS C) E0) (tCons (tMake C (spWzI C) (([.int 0] : List V).drop 1) E0 (tCons (tVar 4) (tCons (tVar 5) tNil))) tNil)
section
variable {P : Program} {w : World} {K : PySem.W.Frag} {mg : Str → Option Value} {base : Heap} {C CM CY : Addr}
set_option maxHeartbeats 16000000 in
theorem ok_lright63 (D : Df K mg "_law_right" s_l_right []) (f_l_next : Ca P w K mg base CX0 1 "_law_next" s_l_next [] ["_law_draws_here"] spNext) (g_len : mg "len" = none) (g_range : mg "range" = none) (g_str : mg "str" = none) (g_int : mg "int" = none) (g_list : mg "list" = none)
    (f_l_far : Ca P w K mg base CX0 2 "_law_far" s_l_far [] ["_law_draws_here"] spFar) (f_l_day : Ca P w K mg base CX0 2 "_law_day" s_l_day [] ["_law_draws_here"] spDay) (f_Wheel : Ci P w K mg base CX0 3 "Wheel" C "Wheel.__init__" s_Wheel_init [.int 0] ["self", "names", "first"] (spWzI C)) (f_Wheel_str : Cm P w K mg base CX0 2 C "__str__" "Wheel.__str__" s_Wheel_str ["self"] (spWfS C))
    (f_l_sizes : Ca P w K mg base CX0 2 "_law_sizes" s_l_sizes [] ["_law_draws_here"] spSzs) (f_l_round : Ca P w K mg base CX0 1 "_law_round" s_l_round [] ["_law_sizes_here"] spRd) (f_l_first_met : Ca P w K mg base CX0 2 "_law_first_met" s_l_first_met [] ["_law_a_wheels", "_law_a_wants", "_law_a_after"] spFmA) (f_l_due : Ca P w K mg base CX0 3 "_law_due" s_l_due [] ["_law_a_wheels", "_law_a_wants", "_law_a_after"] spDue)
    (f_l_asked : Ca P w K mg base CX0 6 "_law_asked" s_l_asked [] ["_law_made", "_law_a_wants", "_law_a_after", "_law_way"] (spAskM C)) (f_l_whole : Ca P w K mg base CX0 1 "_law_whole" s_l_whole [] ["_law_told"] spWhole)
    (f_meet : Ca P w K mg base (L2.CX P w) 5 "meet" s_meet [.int 0] ["wheels", "wants", "after"] (spMeX C CM CY)) (f_meet_round : Ca P w K mg base CX0 3 "meet_round" s_meet_round [] ["wheels"] (spMr C)) :
    Ca P w K mg base CX0 8 "_law_right" s_l_right [] ["_law_draws_here"] spR63 := by
  refine ca0 (k := 7) D c_l_right (fun vs H Q E h => ?_) fun f cdv A outer s H vs Q E hr h => ?_
  · obtain ⟨l, rfl, _⟩ := h
    rfl
  · obtain ⟨l, rfl, d, q⟩ := h
    refine ⟨_, (pss_cons (ps_set (i := 1) c_l_right.nd rfl (.inl rfl) (pe_lst pa_nil))
      (pss_cons (ps_set (i := 2) c_l_right.nd rfl (.inl rfl) (pe_lst pa_nil))
      (C8.pss_cut (ps_for PassesOwn.never rfl (pi_list (pe_ca f_l_sizes b_l_sizes hr (by decide) pass0 rfl (pa_cons (pv 0) pa_nil))) (pg_name (i := 3) c_l_right.nd rfl (.inl rfl)) (pss_cons (ps_setLc (i := 4) (own := [("_law_k", 14)]) (g := gName 14) (tt := tYes) (te := TE_l_right1 K C) rfl c_l_right.nd rfl rfl (sw_true rfl rfl rfl (by decide +kernel)) (pi_range1 rfl g_range (pa_cons (pv 3) pa_nil)) (blkOk_by (N := ["_law_draws_here", "_law_a_wheels", "_law_a_wants", "_law_size", "_law_names", "_law_first", "_law_pick", "_law_day_here", "_law_made", "_law_handed", "_law_a_after", "_law_due_here", "_law_way", "_law_told", "_law_k", "_law_wheel"]) (sc := defScope s_l_right) (by decide +kernel)) (fun _ _ _ _ _ => (pg_name (i := 14) c_l_right.nd rfl (.inl rfl))) (fun _ _ _ _ _ => by exact pts_nil) (fun _ _ _ _ _ => by exact (pe_ix ix_str pe_str (pv 14) (fun _ _ => rfl))))
      (pss_cons (ps_set (i := 5) c_l_right.nd rfl (.inl rfl) (pe_ca f_l_far b_l_far hr (by decide) pass0 rfl (pa_cons (pv 0) pa_nil)))
      (pss_cons (ps_set (i := 6) c_l_right.nd rfl (.inl rfl) (pe_ca f_l_next b_l_next hr (by decide) pass0 rfl (pa_cons (pv 0) pa_nil)))
      (pss_cons (ps_expr (pe_bm PySem.F.plainAttrs_list PySem.F.slot_list_append PySem.F.type_list_append mt_append (pv 1) (pa_cons (pe_tup (pa_cons (pv 4) (pa_cons (pv 5) pa_nil))) pa_nil)))
      (pss_one (ps_expr (pe_bm PySem.F.plainAttrs_list PySem.F.slot_list_append PySem.F.type_list_append mt_append (pv 2) (pa_cons (pe_ix ix_list (pe_op op_cat (pv 4) (pe_lst (pa_cons pe_str pa_nil))) (pe_ix ix_list (pe_lst (pa_cons (pe_op op_mod (pe_op op_fdiv (pv 6) pe_int) (pv 3)) (pa_cons (pv 3) pa_nil))) (pe_callTy call_int1 rfl g_int (by decide +kernel) (pa_cons (pe_cmpR op_eq (pe_op op_mod (pv 6) pe_int) pe_int (nomark _)) pa_nil)) (fun _ _ => rfl)) (fun _ _ => rfl)) pa_nil)))))))))
      (C8.pss_cut (ps_if (pt_cmpR op_eq (pe_op op_mod (pe_ca f_l_next b_l_next hr (by decide) pass0 rfl (pa_cons (pv 0) pa_nil)) pe_int) pe_int (nomark _)) (pss_cons (ps_set (i := 7) c_l_right.nd rfl (.inr rfl) (pe_ca f_l_far b_l_far hr (by decide) pass0 rfl (pa_cons (pv 0) pa_nil)))
      (pss_one (ps_setLc (i := 2) (own := [("_law_names", 4), ("_law_first", 5)]) (g := gTup K 2 (gCons (gName 4) (gCons (gName 5) gNil))) (tt := tYes) (te := TE_l_right2 K C) rfl c_l_right.nd rfl rfl (sw_true rfl rfl rfl (by decide +kernel)) (pi_list (pv 1)) (blkOk_by (N := ["_law_draws_here", "_law_a_wheels", "_law_a_wants", "_law_size", "_law_names", "_law_first", "_law_pick", "_law_day_here", "_law_made", "_law_handed", "_law_a_after", "_law_due_here", "_law_way", "_law_told", "_law_k", "_law_wheel"]) (sc := defScope s_l_right) (by decide +kernel)) (fun _ _ _ _ _ => (pg_tup rfl (pgs_cons (pg_name (i := 4) c_l_right.nd rfl (.inl rfl)) (pgs_cons (pg_name (i := 5) c_l_right.nd rfl (.inl rfl)) pgs_nil)))) (fun _ _ _ _ _ => by exact pts_nil) (fun _ _ _ _ _ => by exact (pe_ix ix_list (pv 4) (pe_op op_mod (pe_op op_sub (pv 7) (pv 5)) (pe_callB call_len_seq rfl g_len (by decide +kernel) (pa_cons (pv 4) pa_nil))) (fun _ _ => rfl)))))) pss_nil)
      (pss_cons (ps_setLc (i := 8) (own := [("_law_names", 4), ("_law_first", 5)]) (g := gTup K 2 (gCons (gName 4) (gCons (gName 5) gNil))) (tt := tYes) (te := TE_l_right3 K C) rfl c_l_right.nd rfl rfl (sw_true rfl rfl rfl (by decide +kernel)) (pi_list (pv 1)) (blkOk_by (N := ["_law_draws_here", "_law_a_wheels", "_law_a_wants", "_law_size", "_law_names", "_law_first", "_law_pick", "_law_day_here", "_law_made", "_law_handed", "_law_a_after", "_law_due_here", "_law_way", "_law_told", "_law_k", "_law_wheel"]) (sc := defScope s_l_right) (by decide +kernel)) (fun _ _ _ _ _ => (pg_tup rfl (pgs_cons (pg_name (i := 4) c_l_right.nd rfl (.inl rfl)) (pgs_cons (pg_name (i := 5) c_l_right.nd rfl (.inl rfl)) pgs_nil)))) (fun _ _ _ _ _ => by exact pts_nil) (fun _ _ _ _ _ => by exact (pe_ci f_Wheel bd_Wheel2 (by decide) rfl hr (by decide) pass0 rfl (pa_cons (pv 4) (pa_cons (pv 5) pa_nil)))))
      (pss_cons (ps_set (i := 9) c_l_right.nd rfl (.inl rfl) (pe_callTy call_list_of rfl g_list (by decide +kernel) (pa_cons (pv 2) pa_nil)))
      (pss_cons (ps_set (i := 10) c_l_right.nd rfl (.inl rfl) (pe_ix ix_list (pe_lst (pa_cons pe_int (pa_cons (pe_ca f_l_far b_l_far hr (by decide) pass0 rfl (pa_cons (pv 0) pa_nil)) (pa_cons (pe_ca f_l_day b_l_day hr (by decide) pass0 rfl (pa_cons (pv 0) pa_nil)) pa_nil)))) (pe_op op_mod (pe_ca f_l_next b_l_next hr (by decide) pass0 rfl (pa_cons (pv 0) pa_nil)) pe_int) (fun _ _ => rfl)))
      (C8.pss_cut (ps_set (i := 11) c_l_right.nd rfl (.inl rfl) (pe_ca f_l_due b_l_due hr (by decide) pass0 rfl (pa_cons (pv 1) (pa_cons (pv 2) (pa_cons (pv 10) pa_nil)))))
      (C8.pss_cut (ps_for PassesOwn.never rfl (pi_range1 rfl g_range (pa_cons pe_int pa_nil)) (pg_name (i := 12) c_l_right.nd rfl (.inl rfl)) (pss_one (ps_if (PW.pt (pw_or (pt_cmpR (op_neD hr.units) (pe_ca f_l_asked b_l_asked hr (by decide) pass0 rfl (pa_cons (pv 8) (pa_cons (pv 9) (pa_cons (pv 10) (pa_cons (pv 12) pa_nil))))) (pv 11) (nomark _)) (pw_or1 (pt_cmpR (op_neD hr.units) (pv 9) (pv 2) (nomark _))))) (pss_one (ps_ret pe_bl)) pss_nil)))
      (C8.pss_cut (ps_if (PW.pt (pw_and (pt_cmpR op_eq (pe_ix ix_tup (pv 11) pe_int (fun _ _ => rfl)) pe_str (nomark _)) (pw_and1 (pt_not (pt_val (pe_ca f_l_whole b_l_whole hr (by decide) pass0 rfl (pa_cons (pe_ix ix_tup (pv 11) pe_int (fun _ _ => rfl)) pa_nil))))))) (pss_one (ps_ret pe_bl)) pss_nil)
      (C8.pss_cut (ps_if (PW.pt (pw_and (pt_cmpR op_eq (pe_ix ix_tup (pv 11) pe_int (fun _ _ => rfl)) pe_str (nomark _)) (pw_and1 (pt_cmpR op_ne (pe_caD f_meet bd_meet2 (by decide) rfl hr (by decide) pass0X rfl (pa_cons (pv 8) (pa_cons (pv 2) pa_nil))) (pe_ca f_l_first_met b_l_first_met hr (by decide) pass0 rfl (pa_cons (pv 1) (pa_cons (pv 2) (pa_cons pe_int pa_nil)))) (nomark _))))) (pss_one (ps_ret pe_bl)) pss_nil)
      (pss_cons (ps_set (i := 13) c_l_right.nd rfl (.inl rfl) (pe_ca f_meet_round b_meet_round hr (by decide) pass0 rfl (pa_cons (pv 8) pa_nil)))
      (pss_cons (ps_if (pt_cmpR op_ne (pe_caK f_meet_round kb_meet_round_wheels hr (by decide) pass0 rfl (pk_cons (pv 8) pk_nil)) (pv 13) (nomark _)) (pss_one (ps_ret pe_bl)) pss_nil)
      (pss_cons (ps_if (PW.pt (pw_or (pt_not (pt_val (pe_ca f_l_whole b_l_whole hr (by decide) pass0 rfl (pa_cons (pv 13) pa_nil)))) (pw_or1 (pt_cmpR op_ne (pv 13) (pe_ca f_l_round b_l_round hr (by decide) pass0 rfl (pa_cons (pe_lc (own := [("_law_names", 4), ("_law_first", 5)]) (g := gTup K 2 (gCons (gName 4) (gCons (gName 5) gNil))) (tt := tYes) (te := TE_l_right4 K C) rfl c_l_right.nd (pi_list (pv 1)) (blkOk_by (N := ["_law_draws_here", "_law_a_wheels", "_law_a_wants", "_law_size", "_law_names", "_law_first", "_law_pick", "_law_day_here", "_law_made", "_law_handed", "_law_a_after", "_law_due_here", "_law_way", "_law_told", "_law_k", "_law_wheel"]) (sc := defScope s_l_right) (by decide +kernel)) (fun _ _ _ _ _ => (pg_tup rfl (pgs_cons (pg_name (i := 4) c_l_right.nd rfl (.inl rfl)) (pgs_cons (pg_name (i := 5) c_l_right.nd rfl (.inl rfl)) pgs_nil)))) (fun _ _ _ _ _ => by exact pts_nil) (fun _ _ _ _ _ => by exact (pe_callB call_len_seq rfl g_len (by decide +kernel) (pa_cons (pv 4) pa_nil)))) pa_nil)) (nomark _))))) (pss_one (ps_ret pe_bl)) pss_nil)
      (pss_one (ps_ret (pe_cmpR (op_eqD hr.units) (pe_lc (own := [("_law_wheel", 15)]) (g := gName 15) (tt := tYes) (te := TE_l_right5 K C) rfl c_l_right.nd (pi_list (pv 8)) (blkOk_by (N := ["_law_draws_here", "_law_a_wheels", "_law_a_wants", "_law_size", "_law_names", "_law_first", "_law_pick", "_law_day_here", "_law_made", "_law_handed", "_law_a_after", "_law_due_here", "_law_way", "_law_told", "_law_k", "_law_wheel"]) (sc := defScope s_l_right) (by decide +kernel)) (fun _ _ _ _ _ => (pg_name (i := 15) c_l_right.nd rfl (.inl rfl))) (fun _ _ _ _ _ => by exact pts_nil) (fun _ _ _ _ _ => by exact (pe_callTy (call_str_IS f_Wheel_str b_Wheel_str (hr.mono (by decide)) pass0) rfl g_str (by decide +kernel) (pa_cons (pv 15) pa_nil)))) (pe_lc (own := [("_law_names", 4), ("_law_first", 5)]) (g := gTup K 2 (gCons (gName 4) (gCons (gName 5) gNil))) (tt := tYes) (te := TE_l_right6 K C) rfl c_l_right.nd (pi_list (pv 1)) (blkOk_by (N := ["_law_draws_here", "_law_a_wheels", "_law_a_wants", "_law_size", "_law_names", "_law_first", "_law_pick", "_law_day_here", "_law_made", "_law_handed", "_law_a_after", "_law_due_here", "_law_way", "_law_told", "_law_k", "_law_wheel"]) (sc := defScope s_l_right) (by decide +kernel)) (fun _ _ _ _ _ => (pg_tup rfl (pgs_cons (pg_name (i := 4) c_l_right.nd rfl (.inl rfl)) (pgs_cons (pg_name (i := 5) c_l_right.nd rfl (.inl rfl)) pgs_nil)))) (fun _ _ _ _ _ => by exact pts_nil) (fun _ _ _ _ _ => by exact (pe_callTy (call_str_IS f_Wheel_str b_Wheel_str (hr.mono (by decide)) pass0) rfl g_str (by decide +kernel) (pa_cons (pe_ci f_Wheel bd_Wheel2 (by decide) rfl hr (by decide) pass0 rfl (pa_cons (pv 4) (pa_cons (pv 5) pa_nil))) pa_nil)))) (nomark _)))))))))))))))))), ?_⟩
    refine ⟨(by show 0 ≤ sizeLine; decide), fun la nla => ?_⟩
    have lal : la ≠ l := ne_of_none' d nla
    have d0 := d.new (o := .lst []) nla
    have e0 := upd_same (H := H) (a := la) (o := .lst [])
    have b0 := But.same (l := l) (Same.new (o := .lst []) nla)
    generalize L2.upd H la (.lst []) = H0 at *
    refine ⟨(by show 0 ≤ sizeLine; decide), fun lx nlx => ?_⟩
    have lxl : lx ≠ l := ne_of_none' d0 nlx
    have nax : la ≠ lx := ne_of_none e0 nlx
    have nHx : H lx = none := by
      cases h : H lx with
      | none => rfl
      | some o => exact absurd (b0 lx o lxl h) (by rw [nlx]; simp)
    have e1 := Same.new (o := .lst []) nlx _ _ e0
    have ex1 := upd_same (H := H0) (a := lx) (o := .lst [])
    have d1 := d0.new (o := .lst []) nlx
    have b1 := b0.upd (o := .lst []) nlx
    generalize L2.upd H0 lx (.lst []) = H1 at *
    refine ⟨fun σ Hx => ∃ (ts : List Addr) (ws : List Wd) (xs : List Str) (v3 v4 v5 v6 : Option V), σ = [some (.ref l), some (.ref la), some (.ref lx), v3, v4, v5, v6, none, none, none, none, none, none, none, none, none] ∧ But l H Hx ∧ Dr Hx l 100 ∧ AX Hx l la lx ts ws ∧ LW ws ∧ Hx lx = some (.lst (xs.map V.str)) ∧ xs.length = ws.length ∧ ∀ n ∈ xs, okX n, ?_, ?_⟩
    · refine ⟨_, rfl, l, 0, rfl, d1, by omega, fun p zs H2 b2 d2 ep pl np sg => ?_⟩
      have ea2 := b2 _ _ lal e1
      have ex2 := b2 _ _ lxl ex1
      have pa : p ≠ la := (ne_of_none e1 np).symm
      have px : p ≠ lx := (ne_of_none ex1 np).symm
      refine ⟨p, rfl, ⟨_, SqL.of ep⟩, for_list (K := K) (a := p) (xs := nV zs) (fun i σ Hx => ∃ (ts : List Addr) (ws : List Wd) (xs : List Str) (v3 v4 v5 v6 : Option V), σ = [some (.ref l), some (.ref la), some (.ref lx), v3, v4, v5, v6, none, none, none, none, none, none, none, none, none] ∧ But l H Hx ∧ Dr Hx l (5 + 2 * i) ∧ AX Hx l la lx ts ws ∧ ws.length = i ∧ (∀ x ∈ ws, NmT x.1 ∧ Sz 64 x.2) ∧ Hx lx = some (.lst (xs.map V.str)) ∧ xs.length = i ∧ (∀ n ∈ xs, okX n) ∧ Hx p = some (.lst (nV zs)))
        ⟨[], [], [], _, _, _, _, rfl, b1.trans b2, d2, ⟨ea2, rfl, fun j t x h => by simp at h⟩, rfl, (fun x h => by cases h), ex2, rfl, (fun x h => by cases h), ep⟩ (fun i σ Hx _ ⟨_, _, _, _, _, _, _, _, _, _, _, _, _, _, _, _, e⟩ => SqL.of e) ?_ ?_⟩
      · rintro i v σ Hx hv ⟨ts, ws, xs, v3, v4, v5, v6, rfl, bx, dx, ax, lws, hws, ex, lxs, hxs, epx⟩
        rw [List.getElem?_map] at hv
        cases hz : zs[i]? with
        | none => rw [hz] at hv; cases hv
        | some z =>
          rw [hz] at hv
          cases hv
          have hi : i < zs.length := (List.getElem?_eq_some_iff.mp hz).1
          have zb := sg.b z (List.mem_of_getElem? hz)
          have i4 := sg.n
          have gz := nmL_t zb.1 zb.2
          have lnz : (nmL z).length = z := by unfold nmL; rw [List.length_map, List.length_range]
          refine ⟨_, rfl, _, rfl, by omega, by omega, fun D0 nD => ?_⟩
          rw [Int.toNat_natCast]
          have nDl : D0 ≠ l := ne_of_none' dx nD
          have nDa : D0 ≠ la := (ne_of_none ax.l nD).symm
          have nDx : D0 ≠ lx := (ne_of_none ex nD).symm
          refine lc_fn (walk_range (lo := 0) (n := z)) yFn_same nD (Nat.lt_of_le_of_lt zb.2 (by decide)) (fun j => V.str (ltS j)) (fun _ _ => trivial) ?_ ?_
          · rintro j x Ha Hb R hj s1 ⟨rfl, rfl⟩ k1
            refine ⟨rfl, ?_⟩
            refine ⟨_, rfl, _, _, 97 + j, rfl, rfl, (by decide +kernel), ?_, ?_⟩
            · rw [Int.zero_add]
              exact lt_at ⟨j, by omega⟩
            · exact k1 _ (Same.refl _)
          intro H3 eD s3
          have eD : H3 D0 = some (.lst ((nmL z).map V.str)) := by
            unfold nmL
            rw [List.map_map]
            exact eD
          have d3 := dx.same s3 (Nat.le_refl _)
          have ax3 := ax.same s3
          have ex3 := s3 _ _ ex
          have ep3 := s3 _ _ epx
          refine ⟨_, rfl, l, _, rfl, d3, by omega, fun fr H4 zf b4 d4 => ?_⟩
          have ax4 := ax3.but d3 b4 lal
          have ex4 := b4 _ _ lxl ex3
          have ep4 := b4 _ _ pl ep3
          have eD4 := b4 _ _ nDl eD
          refine ⟨_, rfl, l, _, rfl, d4, by omega, fun v H5 v0 v1 b5 d5 => ?_⟩
          have ax5 := ax4.but d4 b5 lal
          have ex5 := b5 _ _ lxl ex4
          have ep5 := b5 _ _ pl ep4
          have eD5 := b5 _ _ nDl eD4
          have b35 := ((bx.trans (But.same s3)).trans b4).trans b5
          refine ⟨_, rfl, .inl ⟨rfl, _, SqL.of ax5.l⟩, _, rfl, _, rfl, (by show 2 ≤ sizeLine; decide), fun t nt => ?_⟩
          have st := Same.new (o := .tup [.ref D0, .int fr]) nt
          have et := upd_same (H := H5) (a := t) (o := .tup [.ref D0, .int fr])
          have ax6 := ax5.same st
          have ex6 := st _ _ ex5
          have ep6 := st _ _ ep5
          have eD6 := st _ _ eD5
          have d6 := d5.new (o := .tup [.ref D0, .int fr]) nt
          have b6 := b35.trans (But.same st)
          generalize L2.upd H5 t _ = H6 at *
          have nla6 : H la = none := nla
          refine ⟨la, _, _, rfl, rfl, ax6.l, ?_, ?_⟩
          · rw [List.length_map, ax6.n, lws]
            exact Nat.lt_of_lt_of_le (show i < 10 by omega) (by decide)
          have ax7 := ax6.app (x := (nmL z, fr)) et eD6 nDl nDa nDx
          have ex7 : (L2.upd H6 la (.lst (ts.map V.ref ++ [V.ref t]))) lx = some (.lst (xs.map V.str)) := by rw [upd_ne nax.symm]; exact ex6
          have ep7 : (L2.upd H6 la (.lst (ts.map V.ref ++ [V.ref t]))) p = some (.lst (nV zs)) := by rw [upd_ne pa]; exact ep6
          have eD7 : (L2.upd H6 la (.lst (ts.map V.ref ++ [V.ref t]))) D0 = some (.lst ((nmL z).map V.str)) := by rw [upd_ne nDa]; exact eD6
          have b7 := b6.putN (o := .lst (ts.map V.ref ++ [V.ref t])) nla
          have d7 := d6.put (o := .lst (ts.map V.ref ++ [V.ref t])) lal
          generalize L2.upd H6 la _ = H7 at *
          have w0 := Int.emod_nonneg (v / 16) (show (z : Int) ≠ 0 by omega)
          have w1 := Int.emod_lt_of_pos (v / 16) (show (0 : Int) < (z : Int) by omega)
          refine ⟨_, rfl, .inl ⟨rfl, _, SqL.of ex7⟩, _, rfl, (by show 1 ≤ sizeLine; decide), fun p1 np1 => ?_⟩
          have s8 := Same.new (o := .lst [.str "m"]) np1
          have e8 := upd_same (H := H7) (a := p1) (o := .lst [.str "m"])
          refine ⟨D0, p1, _, _, rfl, rfl, s8 _ _ eD7, e8, ?_, fun p2 np2 => ?_⟩
          · rw [List.length_map, lnz]
            exact Nat.le_trans (show _ ≤ 20 by simp; omega) (by decide)
          have s9 := s8.trans (Same.new (o := .lst ((nmL z).map V.str ++ [.str "m"])) np2)
          have e9 := upd_same (H := L2.upd H7 p1 (.lst [.str "m"])) (a := p2) (o := .lst ((nmL z).map V.str ++ [.str "m"]))
          have d9 := (d7.new (o := .lst [.str "m"]) np1).new (o := .lst ((nmL z).map V.str ++ [.str "m"])) np2
          generalize L2.upd (L2.upd H7 p1 _) p2 _ = H9 at *
          refine ⟨_, rfl, _, _, rfl, rfl, ⟨by decide, by decide⟩, _, rfl, _, _, rfl, rfl, (show (0 : Int) < (z : Int) by omega), _, rfl, (by show 2 ≤ sizeLine; decide), fun p3 np3 => ?_⟩
          have s10 := Same.new (o := .lst [.int (v / 16 % (z : Int)), .int (z : Int)]) np3
          have e10 := upd_same (H := H9) (a := p3) (o := .lst [.int (v / 16 % (z : Int)), .int (z : Int)])
          have e9' := s10 _ _ e9
          have d10 := d9.new (o := .lst [.int (v / 16 % (z : Int)), .int (z : Int)]) np3
          have s70 := s9.trans s10
          generalize L2.upd H9 p3 _ = H10 at *
          refine ⟨_, rfl, _, _, rfl, rfl, md, rfl, .inr ⟨_, rfl, ?_⟩⟩
          obtain ⟨ix, hix, m, rfl, hm⟩ : ∃ ix : Int, atI [V.int (v / 16 % (z : Int)), V.int (z : Int)] (if (decide (V.int (v % 16) = V.int 5)) = true then 1 else 0) = some (.int ix) ∧ ∃ m : Nat, ix = (m : Int) ∧ m ≤ z := by
            by_cases h5 : V.int (v % 16) = V.int 5
            · rw [decide_eq_true h5]
              exact ⟨_, rfl, z, rfl, Nat.le_refl _⟩
            · rw [decide_eq_false h5]
              exact ⟨_, rfl, (v / 16 % (z : Int)).toNat, by omega, by omega⟩
          obtain ⟨nm, hnm, onm⟩ : ∃ nm : Str, atI ((nmL z).map V.str ++ [V.str "m"]) ((m : Nat) : Int) = some (.str nm) ∧ okX nm := by
            by_cases hmz : m < z
            · have e : (nmL z)[m]? = some (ltS m) := by
                unfold nmL
                rw [List.getElem?_map, List.getElem?_range hmz]
                rfl
              refine ⟨ltS m, atI_nat ?_, ?_⟩
              · rw [List.getElem?_append_left (by rw [List.length_map, lnz]; exact hmz), List.getElem?_map, e]
                rfl
              · exact ⟨Nat.le_of_ble_eq_true (lt_len ⟨m, by omega⟩), lt_ok ⟨m, by omega⟩⟩
            · refine ⟨"m", atI_nat ?_, ⟨by decide +kernel, by decide +kernel⟩⟩
              have : m = z := by omega
              rw [List.getElem?_append_right (by rw [List.length_map, lnz]; omega), List.length_map, lnz, this, Nat.sub_self]
              rfl
          refine ⟨p3, _, _, _, rfl, rfl, SqL.of e10, hix, p2, _, _, _, rfl, rfl, SqL.of e9', hnm, ?_⟩
          refine ⟨lx, _, _, rfl, rfl, s70 _ _ ex7, ?_, ?_⟩
          · rw [List.length_map, lxs]
            exact Nat.lt_of_lt_of_le (show i < 10 by omega) (by decide)
          refine ⟨ts ++ [t], ws ++ [(nmL z, fr)], xs ++ [nm], _, _, _, _, rfl, (b7.trans (But.same s70)).putN nHx, (d10.put lxl).mono (by omega), (ax7.same s70).putX (s70 _ _ ex7) nax, by rw [List.length_append, lws]; rfl, fun x hx => ?_, ?_, by rw [List.length_append, lxs]; rfl, fun n hn => ?_, ?_⟩
          · rcases List.mem_append.mp hx with hx | hx
            · exact hws x hx
            · rw [List.mem_singleton] at hx
              subst hx
              exact ⟨gz, zf⟩
          · rw [upd_same, List.map_append]
            rfl
          · rcases List.mem_append.mp hn with hn | hn
            · exact hxs n hn
            · rw [List.mem_singleton] at hn
              subst hn
              exact onm
          · rw [upd_ne px]
            exact s70 _ _ ep7
      · rintro σ Hx ⟨ts, ws, xs, v3, v4, v5, v6, rfl, bx, dx, ax, lws, hws, ex, lxs, hxs, epx⟩
        have i4 := sg.n
        have e : (nV zs).length = zs.length := List.length_map _
        rw [e] at lws lxs dx
        exact ⟨ts, ws, xs, _, _, _, _, rfl, bx, dx.mono (by omega), ax, ⟨by omega, hws⟩, ex, by omega, hxs⟩
    rintro σ H2 ⟨ts, ws, xs, v3, v4, v5, v6, rfl, b2, d2, ax, lw, ex, lxs, hxs⟩
    have hn := lw.n
    have g := lw.g
    have zn : (ts.map V.ref).length < sizeLine := by rw [ax.aw.ln]; exact Nat.lt_of_le_of_lt hn (by decide)
    refine ⟨fun σ Hx => ∃ (ly : Addr) (ys : List Str) (v7 : Option V), σ = [some (.ref l), some (.ref la), some (.ref ly), v3, v4, v5, v6, v7, none, none, none, none, none, none, none, none] ∧ But l H Hx ∧ Dr Hx l 200 ∧ AX Hx l la lx ts ws ∧ Hx ly = some (.lst (ys.map V.str)) ∧ ys.length = ws.length ∧ (∀ n ∈ ys, okX n) ∧ ly ≠ l, ?_, ?_⟩
    · refine ⟨_, rfl, l, _, rfl, d2, by omega, fun u H3 u0 u1 b3 d3 => ?_⟩
      have ax3 := ax.but d2 b3 lal
      have ex3 := b3 _ _ lxl ex
      refine ⟨_, _, rfl, rfl, md, rfl, _, rfl, ?_⟩
      by_cases hu : V.int (u % 2) = V.int 0
      · rw [decide_eq_true hu]
        refine iteT ?_
        refine ⟨_, rfl, l, _, rfl, d3, by omega, fun day H4 zd b4 d4 => ?_⟩
        have ax4 := ax3.but d3 b4 lal
        refine ⟨_, rfl, la, rfl, ⟨_, SqL.of ax4.l⟩, fun D0 nD => ?_⟩
        have nDl := ne_of_none' d4 nD
        refine lc_fn (walk_list (K := K) (a := la) (xs := ts.map V.ref)) yAt_same nD zn (fun j => V.str (nmA (ws.getD j ([], 0)) day)) (fun H' s' => SqL.of (s' _ _ ax4.l)) ?_ ?_
        · rintro j x Ha Hb R hj s1 ⟨rfl, hx⟩ k1
          obtain ⟨t, x, rfl, et, ex', ln', e1, e2⟩ := (ax4.aw.same s1).el hx
          have gx := (g.at ex')
          have px := gx.pos
          refine ⟨t, _, rfl, SqT.of e1, rfl, _, _, rfl, _, _, rfl, rfl, rfl, ?_⟩
          refine ⟨_, rfl, _, rfl, _, rfl, _, _, rfl, rfl, _, rfl, ln', _, rfl, .inl (SqL.of e2), _, _, rfl, rfl, ?_, ln', _, _, .str (nmA x day), rfl, rfl, SqL.of e2, ?_, ?_⟩
          · show (0 : Int) < ((x.1.map V.str).length : Int)
            rw [List.length_map]
            omega
          · rw [List.length_map]
            exact nm_atI gx day
          · have := k1 _ (Same.refl _)
            rw [getD_at ex'] at this
            exact this
        intro H5 eD s5
        rw [ax4.aw.ln, strs_list] at eD
        refine ⟨D0, ws.map fun x => nmA x day, _, rfl, ((b2.trans b3).trans b4).trans (But.same s5), (d4.same s5 (Nat.le_refl _)).mono (by omega), ax4.same s5, eD, List.length_map _, fun n hn' => ?_, nDl⟩
        obtain ⟨x, hx, rfl⟩ := List.mem_map.mp hn'
        exact nmA_okX (lw.w x hx).1 day
      · rw [decide_eq_false hu]
        refine iteF ?_
        exact ⟨lx, xs, _, rfl, b2.trans b3, d3.mono (by omega), ax3, ex3, lxs, hxs, lxl⟩
    rintro σ H3 ⟨ly, ys, v7, rfl, b3, d3, ax3, ey, lys, hys, lyl⟩
    have lz := (xs_ok hys).1
    have oky := (xs_ok hys).2
    refine ⟨_, rfl, la, rfl, ⟨_, SqL.of ax3.l⟩, fun lm nlm => ?_⟩
    have lml := ne_of_none' d3 nlm
    refine lc_all (walk_list (K := K) (a := la) (xs := ts.map V.ref)) yAt_same nlm zn (fun j v H' => ∃ p, v = .ref p ∧ ∀ x, ws[j]? = some x → Wf C H' p x) (fun j v H1 H2 s ⟨p, e, h⟩ => ⟨p, e, fun x hx => (h x hx).same s⟩) (fun j v H1 acc acc' e ⟨p, e', h⟩ => ⟨p, e', fun x hx => (h x hx).put e⟩) (fun H' s' => SqL.of (s' _ _ ax3.l)) ?_ ?_
    · rintro j x Ha Hb R hj s1 ⟨rfl, hx⟩ k1
      obtain ⟨t, x, rfl, et, ex', ln', e1, e2⟩ := (ax3.aw.same s1).el hx
      refine ⟨t, _, rfl, SqT.of e1, rfl, _, _, rfl, _, _, rfl, rfl, rfl, ?_⟩
      refine ⟨_, rfl, _, rfl, made_wz e2 (g.at ex') fun pw H6 s6 hw => ?_⟩
      exact k1 _ H6 s6 ⟨pw, rfl, fun y hy => by rw [ex'] at hy; cases hy; exact hw⟩
    intro us H4 lus eus s4 hus
    obtain ⟨ps, rfl, hps⟩ := refs_of (Ps := fun j p => ∀ x, ws[j]? = some x → Wf C H4 p x) hus
    rw [List.length_map, ax3.aw.ln] at lus
    have wl4 : WL C H4 lm ps ws := ⟨eus, lus, fun j p x hp hx => hps j p hp x hx⟩
    have d4 := d3.same s4 (Nat.le_refl _)
    have ax4 := ax3.same s4
    have ey4 := s4 _ _ ey
    refine ⟨_, rfl, ly, _, rfl, .inl (SqL.of ey4), fun lh nlh => ?_⟩
    have lhl := ne_of_none' d4 nlh
    have s5 := Same.new (o := .lst (ys.map V.str)) nlh
    have eh5 := upd_same (H := H4) (a := lh) (o := .lst (ys.map V.str))
    have d5 := d4.same s5 (Nat.le_refl _)
    have ax5 := ax4.same s5
    have ey5 := s5 _ _ ey4
    have wl5 := wl4.same s5
    have b5 := (b3.trans (But.same s4)).trans (But.same s5)
    generalize L2.upd H4 lh _ = H5 at *
    refine ⟨_, rfl, l, _, rfl, d5, by omega, fun fa H6 zf b6 d6 => ?_⟩
    refine ⟨_, rfl, l, _, rfl, d6, by omega, fun da H7 zd b7 d7 => ?_⟩
    refine ⟨(by show 3 ≤ sizeLine; decide), fun p np => ?_⟩
    have pl := ne_of_none' d7 np
    have s8 := Same.new (o := .lst [.int 0, .int fa, .int da]) np
    have ep8 := upd_same (H := H7) (a := p) (o := .lst [.int 0, .int fa, .int da])
    have d8 := d7.same s8 (Nat.le_refl _)
    generalize L2.upd H7 p _ = H8 at *
    refine ⟨_, rfl, l, _, rfl, d8, by omega, fun u H9 u0 u1 b9 d9 => ?_⟩
    obtain ⟨a, ha, _⟩ := pickI (xs := [0, fa, da]) (P := fun _ => True) (md0 u (j := 3)) (md1 u (j := 3)) (fun _ _ => trivial)
    refine ⟨_, _, rfl, rfl, md, p, _, _, _, rfl, rfl, SqL.of (b9 _ _ pl ep8), ha, ?_⟩
    have ax9 := (((ax5.but d5 b6 lal).but d6 b7 lal).same s8).but d8 b9 lal
    have wl9 := (((wl5.but d5 b6 lml).but d6 b7 lml).same s8).but d8 b9 lml
    have ey9 := b9 _ _ lyl (s8 _ _ (b7 _ _ lyl (b6 _ _ lyl ey5)))
    have eh9 := b9 _ _ lhl (s8 _ _ (b7 _ _ lhl (b6 _ _ lhl eh5)))
    have bb9 := (((b5.trans b6).trans b7).trans (But.same s8)).trans b9
    refine ⟨fun σ Hx => ∃ (t : Addr) (r : List V), σ = [some (.ref l), some (.ref la), some (.ref ly), v3, v4, v5, v6, v7, some (.ref lm), some (.ref lh), some (.int a), some (.ref t), none, none, none, none] ∧ But l H Hx ∧ AW Hx la ts ws ∧ WL C Hx lm ps ws ∧ Hx ly = some (.lst (ys.map V.str)) ∧ Hx lh = some (.lst (ys.map V.str)) ∧ Hx t = some (.tup r) ∧ DueV ws ys a r, ?_, ?_⟩
    · refine ⟨_, rfl, _, rfl, _, rfl, la, ly, ts, ws, ys, a, rfl, ax9.aw, g, ey9, lys, fun t r Ha sa du et => ?_⟩
      exact ⟨t, r, rfl, bb9.trans (But.same sa), ax9.aw.same sa, wl9.same sa, sa _ _ ey9, sa _ _ eh9, et, du⟩
    rintro σ Hc ⟨t, r, rfl, bc, aw, wl, ey, eh, et, du⟩
    obtain ⟨dd, ddp, dsh, deq⟩ := due_dp du hys
    have z100 := lw.z
    refine ⟨fun σ Hx => ∃ v12 : Option V, σ = [some (.ref l), some (.ref la), some (.ref ly), v3, v4, v5, v6, v7, some (.ref lm), some (.ref lh), some (.int a), some (.ref t), v12, none, none, none] ∧ Same Hc Hx, ?_, ?_⟩
    · refine ⟨_, rfl, by decide, by decide, ?_⟩
      refine for_range (n := 2) (fun i σ Hx => ∃ v12 : Option V, σ = [some (.ref l), some (.ref la), some (.ref ly), v3, v4, v5, v6, v7, some (.ref lm), some (.ref lh), some (.int a), some (.ref t), v12, none, none, none] ∧ Same Hc Hx) ⟨_, rfl, Same.refl _⟩ ?_ ?_
      · rintro i σ Hx hi ⟨v12, rfl, sx⟩
        have hw01 : (0 : Int) + (i : Int) = 0 ∨ (0 : Int) + (i : Int) = 1 := by omega
        refine ⟨_, rfl, _, rfl, _, rfl, _, rfl, lm, lh, ps, ws, ys, a, _, rfl, wl.same sx, g, z100, sx _ _ eh, lys, lz, hw01, fun t2 r2 Hy sy du2 et2 => ?_⟩
        have er := due_one g du2 du
        subst er
        have sxy := sx.trans sy
        refine ⟨_, rfl, dd, dd, ddp K Hy t2 et2, ddp K Hy t (sxy _ _ et), dsh, dsh, _, rfl, no' (by rw [deq]; rfl) ?_⟩
        refine ⟨_, rfl, _, rfl, dlS ys, dlS ys, dlS_dp (sxy _ _ eh), dlS_dp (sxy _ _ ey), dlS_ok oky, dlS_ok oky, _, rfl, no' (by rw [dlS_eq]; rfl) ?_⟩
        exact ⟨_, rfl, sxy⟩
      · rintro σ Hx ⟨v12, rfl, sx⟩
        exact ⟨_, rfl, sx⟩
    rintro σ Hd ⟨v12, rfl, sd⟩
    refine ⟨fun σ Hx => σ = [some (.ref l), some (.ref la), some (.ref ly), v3, v4, v5, v6, v7, some (.ref lm), some (.ref lh), some (.int a), some (.ref t), v12, none, none, none] ∧ Same Hc Hx, ?_, ?_⟩
    · rcases id du with ⟨i, x, n, h1, h2, h3, h4, rfl⟩ | ⟨w1, i, j, h1, rfl⟩ | ⟨w1, h1, v, h2, rfl⟩
      · refine ⟨_, rfl, t, _, _, _, rfl, rfl, SqT.of (sd _ _ et), rfl, rfl, _, rfl, no' (by decide +kernel) (no' rfl ?_)⟩
        exact ⟨rfl, sd⟩
      · refine ⟨_, rfl, t, _, _, _, rfl, rfl, SqT.of (sd _ _ et), rfl, rfl, _, rfl, no' (by decide +kernel) (no' rfl ?_)⟩
        exact ⟨rfl, sd⟩
      · refine ⟨_, rfl, t, _, _, _, rfl, rfl, SqT.of (sd _ _ et), rfl, rfl, _, rfl, yes' (by decide +kernel) ?_⟩
        refine ⟨_, rfl, t, _, _, _, rfl, rfl, SqT.of (sd _ _ et), rfl, v, rfl, _, rfl, no' rfl ?_⟩
        exact ⟨rfl, sd⟩
    rintro σ He ⟨rfl, se⟩
    refine ⟨fun σ Hx => σ = [some (.ref l), some (.ref la), some (.ref ly), v3, v4, v5, v6, v7, some (.ref lm), some (.ref lh), some (.int a), some (.ref t), v12, none, none, none] ∧ Same Hc Hx, ?_, ?_⟩
    · rcases id du with ⟨i, x, n, h1, h2, h3, h4, rfl⟩ | ⟨w1, i, j, h1, rfl⟩ | ⟨w1, h1, v, h2, rfl⟩
      · refine ⟨_, rfl, t, _, _, _, rfl, rfl, SqT.of (se _ _ et), rfl, rfl, _, rfl, no' (by decide +kernel) (no' rfl ?_)⟩
        exact ⟨rfl, se⟩
      · refine ⟨_, rfl, t, _, _, _, rfl, rfl, SqT.of (se _ _ et), rfl, rfl, _, rfl, no' (by decide +kernel) (no' rfl ?_)⟩
        exact ⟨rfl, se⟩
      · refine ⟨_, rfl, t, _, _, _, rfl, rfl, SqT.of (se _ _ et), rfl, rfl, _, rfl, yes' (by decide +kernel) ?_⟩
        refine ⟨_, rfl, _, rfl, lm, ly, ps, ws, ys, 0, rfl, wl.same se, g, z100, se _ _ ey, lys, lz, fun wn => ⟨fun ok u Hf sf mt => ?_, fun i j fp => absurd fp.b (h1 i j fp.ij fp.jn)⟩, fun i x n ex en hm _ => absurd (w1.m i x n ex en) hm⟩
        have sef := se.trans sf
        refine ⟨_, rfl, _, rfl, la, ly, ts, ws, ys, 0, rfl, aw.same sef, g, sef _ _ ey, lys, fun d' Hg md' sg => ?_, fun hno Hg sg => absurd mt (hno u)⟩
        have e := mt_one g lys mt md'
        subst e
        refine ⟨rfl, _, rfl, no' (by simp) ?_⟩
        exact ⟨rfl, sef.trans sg⟩
    rintro σ Hf ⟨rfl, sf⟩
    have wlf := wl.same sf
    have awf := aw.same sf
    obtain ⟨l0, _, _⟩ := g.lc (Nat.le_refl _)
    refine ⟨_, rfl, lm, ps, ws, rfl, wlf, g, ?_⟩
    refine ⟨_, rfl, rfl, lm, ps, ws, rfl, wlf, g, _, rfl, rfl, _, rfl, no' (by simp) ?_⟩
    refine ⟨_, rfl, _, rfl, _, rfl, no' rfl ?_⟩
    refine ⟨_, rfl, _, rfl, la, rfl, ⟨_, SqL.of awf.l⟩, fun D0 nD => ?_⟩
    refine lc_ints (walk_list (K := K) (a := la) (xs := ts.map V.ref)) yAt_same nD zn (fun j => ((zW ws j : Nat) : Int)) (fun H' s' => SqL.of (s' _ _ awf.l)) ?_ ?_
    · rintro i v H1 H2 R hi s1 ⟨rfl, hv⟩ k1
      obtain ⟨t, x, rfl, et, ex, ln', e1, e2⟩ := (awf.same s1).el hv
      refine ⟨t, _, rfl, SqT.of e1, rfl, _, _, rfl, _, _, rfl, rfl, rfl, ?_⟩
      refine ⟨_, rfl, ln', _, rfl, .inl (SqL.of e2), ?_⟩
      rw [List.length_map, ← zW_at ex]
      exact k1 _ (Same.refl _)
    intro Hg eD sg
    rw [awf.ln, zsW_ints] at eD
    refine ⟨D0, zsW ws, rfl, eD, fun z hz => ?_, ?_⟩
    · obtain ⟨x, hx', rfl⟩ := List.mem_map.mp hz
      exact (g.g x hx').pos
    rw [zsW_lc]
    refine ⟨rfl, _, rfl, no' (by simp) ?_⟩
    have wlg := wlf.same sg
    have awg := awf.same sg
    refine ⟨_, rfl, lm, rfl, ⟨_, SqL.of wlg.l⟩, fun D1 nD1 => ?_⟩
    refine lc_fn (walk_list (K := K) (a := lm) (xs := ps.map V.ref)) yAt_same nD1 (by rw [wlg.ln]; exact Nat.lt_of_le_of_lt g.n (by decide)) (fun j => V.str (Txt.join (" " : Str) (fnW (ws.getD j ([], 0))))) (fun H' s' => SqL.of (s' _ _ wlg.l)) ?_ ?_
    · rintro i v H1 H2 R hi s1 ⟨rfl, hv⟩ k1
      obtain ⟨p, x, rfl, ex, wp⟩ := (wlg.same s1).el hv
      refine ⟨rfl, ?_⟩
      refine ⟨_, rfl, wf_rd wp (lw.w x (List.mem_of_getElem? ex)).1 fun H' s' => ?_⟩
      have := k1 _ s'
      rw [getD_at ex] at this
      exact this
    intro Hh eD1 sh
    rw [wlg.ln] at eD1
    have awh := awg.same sh
    refine ⟨_, rfl, la, rfl, ⟨_, SqL.of awh.l⟩, fun D2 nD2 => ?_⟩
    refine lc_fn (walk_list (K := K) (a := la) (xs := ts.map V.ref)) yAt_same nD2 zn (fun j => V.str (Txt.join (" " : Str) (fnW (ws.getD j ([], 0))))) (fun H' s' => SqL.of (s' _ _ awh.l)) ?_ ?_
    · rintro i v H1 H2 R hi s1 ⟨rfl, hv⟩ k1
      obtain ⟨t, x, rfl, et, ex, ln', e1, e2⟩ := (awh.same s1).el hv
      have gx := (lw.w x (List.mem_of_getElem? ex)).1
      refine ⟨t, _, rfl, SqT.of e1, rfl, _, _, rfl, _, _, rfl, rfl, rfl, ?_⟩
      refine ⟨_, rfl, _, rfl, made_wz e2 gx.g fun pw H6 s6 hw => ?_⟩
      refine wf_rd hw gx fun H' s' => ?_
      have := k1 _ (s6.trans s')
      rw [getD_at ex] at this
      exact this
    intro Hi eD2 si
    rw [awh.ln] at eD2
    have els : (List.range ws.length).map (fun j => V.str (Txt.join (" " : Str) (fnW (ws.getD j ([], 0))))) = ((List.range ws.length).map fun j => Txt.join (" " : Str) (fnW (ws.getD j ([], 0)))).map V.str := by
      rw [List.map_map]
      rfl
    rw [els] at eD1 eD2
    have okj : ∀ x ∈ (List.range ws.length).map fun j => Txt.join (" " : Str) (fnW (ws.getD j ([], 0))), PyData.strOk x = true := by
      intro x hx
      obtain ⟨j, hj, rfl⟩ := List.mem_map.mp hx
      rw [List.mem_range] at hj
      have e := List.getElem?_eq_getElem hj
      rw [getD_at e]
      exact fn_ok (lw.w _ (List.getElem_mem hj)).1
    refine ⟨_, _, dlS_dp (si _ _ eD1), dlS_dp eD2, dlS_ok okj, dlS_ok okj, ?_⟩
    rw [dlS_eq]
    exact q _ (bc.trans (But.same ((sf.trans sg).trans (sh.trans si))))
end
/-! ### the law -/
theorem kbn_meet_2_after : Kdn "meet" s_meet 1 2 ["after"] ["wheels", "wants", "after"] gOd :=
  ⟨fun _ _ _ _ _ _ _ us its ws hu hi hw => match us, hu, its, hi, ws, hw with | [_, _], _, [_], _, [_], _ => ⟨_, rfl, rfl⟩, gOd_rel⟩
theorem me_nil {C CM CY lw lx : Addr} {H : Hp} {a : Int} {Q : VK} (e1 : H lw = some (.lst [])) (e2 : H lx = some (.lst [])) (q : ∀ H', Same H H' → Q (.int a) H') : spMeX C CM CY [.ref lw, .ref lx, .int a] H Q E0 := by
  refine ⟨lw, lx, [], [], [], a, rfl, ⟨e1, rfl, fun j p x h => by simp at h⟩, ⟨(fun x h => by cases h), (show 0 ≤ 60 by decide)⟩, (fun x h => by cases h), e2, rfl, (fun x h => by cases h), fun wn => ⟨fun ok v H' s mt => ?_, fun i j fp => ?_⟩, fun i x n h => by simp at h⟩
  · have h1 := mt.lo
    have h2 : v < a + ((1 : Nat) : Int) := mt.hi
    have : v = a := by omega
    rw [this]
    exact q H' s
  · have := fp.jn
    exact absurd this (by simp)
section
variable {P : Program} {w : World} {K : PySem.W.Frag} {mg : Str → Option Value} {base : Heap} {C CM CY : Addr}
theorem ok_law (D : Df K mg "law" s_law []) (f_l_draws : Ca P w K mg base CX0 1 "_law_draws" s_l_draws [] ["_law_cell"] spDraws) (f_l_right : Ca P w K mg base CX0 8 "_law_right" s_l_right [] ["_law_draws_here"] spR63) (f_meet : Ca P w K mg base (L2.CX P w) 5 "meet" s_meet [.int 0] ["wheels", "wants", "after"] (spMeX C CM CY)) (f_meet_round : Ca P w K mg base CX0 3 "meet_round" s_meet_round [] ["wheels"] (spMr C)) : Ca P w K mg base CX0 13 "law" s_law [] ["_law_script"] (spLaw K) := by
  refine ca0 (k := 12) D c_law (fun vs H Q E h => ?_) fun f cdv A outer s H vs Q E hr h => ?_
  · obtain ⟨a, ns, rfl, _⟩ := h
    rfl
  · obtain ⟨a, ns, rfl, hS, hlen, q⟩ := h
    refine ⟨_, (pss_cons (ps_if (PW.pt (pw_or (pt_cmpR op_ne (pe_caD f_meet bd_meet2 (by decide) rfl hr (by decide) pass0X rfl (pa_cons (pe_lst pa_nil) (pa_cons (pe_lst pa_nil) pa_nil))) pe_int (nomark _)) (pw_or (pt_cmpR op_ne (pe_caDk f_meet kbn_meet_2_after (by decide) hr (by decide) pass0X rfl (pa_cons (pe_lst pa_nil) (pa_cons (pe_lst pa_nil) pa_nil)) (pk_cons (pe_un un_neg pe_int) pk_nil)) (pe_un un_neg pe_int) (nomark _)) (pw_or1 (pt_cmpR op_ne (pe_ca f_meet_round b_meet_round hr (by decide) pass0 rfl (pa_cons (pe_lst pa_nil) pa_nil)) pe_int (nomark _)))))) (pss_one (ps_ret pe_bl)) pss_nil)
      (pss_cons (ps_for PassesOwn.never rfl (pi_list (pe_op op_cat (pe_slice sl_list (pv 0) po_none (po_some pe_int)) (pe_lst (pa_cons pe_int pa_nil)))) (pg_name (i := 1) c_law.nd rfl (.inl rfl)) (pss_one (ps_if (pt_not (pt_val (pe_ca f_l_right b_l_right hr (by decide) pass0 rfl (pa_cons (pe_ca f_l_draws b_l_draws hr (by decide) pass0 rfl (pa_cons (pv 1) pa_nil)) pa_nil)))) (pss_one (ps_ret pe_bl)) pss_nil)))
      (pss_one (ps_ret pe_bl)))), ?_⟩
    refine ⟨(by show 0 ≤ sizeLine; decide), fun l1 n1 => ⟨(by show 0 ≤ sizeLine; decide), fun l2 n2 => ?_⟩⟩
    have s1 := (Same.new (o := .lst []) n1).trans (Same.new (o := .lst []) n2)
    dsimp only [tNil]
    refine me_nil (a := 0) (Same.new (o := .lst []) n2 _ _ upd_same) upd_same fun H1 s2 => ?_
    refine ⟨rfl, _, rfl, no' (by decide) ?_⟩
    have s12 := s1.trans s2
    clear s1 s2
    refine ⟨(by show 0 ≤ sizeLine; decide), fun l3 n3 => ⟨(by show 0 ≤ sizeLine; decide), fun l4 n4 => ?_⟩⟩
    have s3 := (Same.new (o := .lst []) n3).trans (Same.new (o := .lst []) n4)
    dsimp only [tNil]
    refine ⟨_, rfl, rfl, rfl, me_nil (a := -7) (Same.new (o := .lst []) n4 _ _ upd_same) upd_same fun H2 s4 => ?_⟩
    refine ⟨_, rfl, rfl, _, rfl, no' (by decide) ?_⟩
    have s34 := s12.trans (s3.trans s4)
    clear s3 s4 s12
    refine ⟨(by show 0 ≤ sizeLine; decide), fun l5 n5 => ?_⟩
    refine ⟨l5, [], [], rfl, ⟨upd_same, rfl, fun j p x h => by simp at h⟩, ⟨(fun x h => by cases h), (show 0 ≤ 60 by decide)⟩, rfl, _, rfl, no' (by decide) ?_⟩
    have s5 := s34.trans (Same.new (o := .lst []) n5)
    generalize L2.upd H2 l5 _ = H5 at *
    have hS : SqL K H5 a (ns.map V.int) := by
      rcases hS with (h | ⟨o, h⟩) | h
      · exact .inl (.inl (s5 _ _ h))
      · exact .inl (.inr ⟨o, s5 _ _ h⟩)
      · exact .inr h
    refine ⟨_, rfl, _, rfl, a, _, rfl, hS, fun p1 n1 => ?_⟩
    refine ⟨(by show 1 ≤ sizeLine; decide), fun p2 n2 => ?_⟩
    have ne12 : p1 ≠ p2 := ne_of_none upd_same n2
    refine ⟨p1, p2, _, _, rfl, rfl, (by rw [upd_ne ne12]; exact upd_same), upd_same, cut_len hlen, fun l3 n3 => ?_⟩
    generalize hH0 : L2.upd _ l3 (.lst (cutV (ns.map V.int) none (some 3) ++ [V.int 0])) = H0
    have hl3 : H0 l3 = some (.lst (cutV (ns.map V.int) none (some 3) ++ [V.int 0])) := by rw [← hH0]; exact upd_same
    refine ⟨l3, rfl, ⟨_, SqL.of hl3⟩, for_list (K := K) (a := l3) (xs := cutV (ns.map V.int) none (some 3) ++ [V.int 0]) (fun i σ H' => ∃ v1 : Option V, σ = [some (.ref a), v1] ∧ H' l3 = some (.lst (cutV (ns.map V.int) none (some 3) ++ [V.int 0])))
      ⟨_, rfl, hl3⟩ (fun i σ H' _ ⟨_, _, e⟩ => SqL.of e) ?_ (fun σ H' ⟨_, e, _⟩ => by subst e; exact q H')⟩
    rintro i x σ H1 hi ⟨v1, rfl, e3⟩
    obtain ⟨c, rfl⟩ := cut_ints hi
    refine ⟨_, rfl, c, rfl, fun l H2 nl s2 d2 => ?_⟩
    have nel : l3 ≠ l := ne_of_none e3 nl
    exact ⟨l, rfl, d2, fun H3 b3 => ⟨_, rfl, no' rfl ⟨_, rfl, b3 _ _ nel (s2 _ _ e3)⟩⟩⟩
end
/-! ### makers of facts -/
theorem dx_mk {K : PySem.W.Frag} {qual : Str} {st : Stmt} {f C : Addr} {oc kV doc pm cdv ct : Value} {od an : Option Addr} {osl : Array (Option Value)} (a : PySem.W.findIn K (.ref C) "__init__" = some (some (.ref f)))
    (l : K.lookup f = some ⟨oc, od, .func (PySem.W.fnOf "__init__" qual (defArgs st) (defBody st) (defScope st) .none kV doc pm an cdv ct), osl⟩) (c : PySem.W.codeIn K cdv qual = true) (k : PySem.W.keepIn K (.ref f) = true) (t : PySem.W.typeIn K (.ref f) = some (.type "function")) : Dx K C qual st :=
  ⟨f, _, ⟨⟨oc, od, .none, kV, doc, pm, an, cdv, ct, osl, rfl, l, c, .inl ⟨rfl, rfl⟩, .inl rfl⟩, k⟩, a, t⟩
theorem oxl_mk {K : PySem.W.Frag} {C : Addr} {nm q N bs sn sub ab col dd k0 k1 k2 k3 k5} (l : K.lookup C = some (excClassObj nm q C N bs bmL true sn sub ab col dd k0 k1 k2 k3 k5 "LookupError.__new__")) (sa : PySem.W.findIn K (.ref C) "__setattr__" = some (some (.builtin "object.__setattr__")))
    (exC : PySem.W.subIn K (.ref C) (.type "BaseException") = some true) (tyC : PySem.W.typeIn K (.ref C) = some (.type "type")) (kC : PySem.W.keepIn K (.ref C) = true) : OxL K C := ⟨PySem.F.excBase_LookupError, PySem.F.store_LookupError, by decide +kernel, ⟨_, _, _, _, _, _, _, _, _, _, _, _, _, _, l⟩, sa, exC, tyC, kC⟩
theorem net_mk {K : PySem.W.Frag} {C : Addr} {nm q N bs hd sn sub ab col dd k0 k1 k2 k3 k5 nw} (ne : PySem.W.findIn K (.ref C) "__ne__" = some (some (.builtin "object.__ne__"))) (l : K.lookup C = some (excClassObj nm q C N bs [.type "object"] hd sn sub ab col dd k0 k1 k2 k3 k5 nw)) : NeT K C := ⟨ne, ⟨_, _, _, _, _, _, _, _, _, _, _, _, _, _, _, _, l⟩⟩
theorem any_exm {K : PySem.W.Frag} {D : Addr} {cs : List Value} (h : ∀ c ∈ cs, ∃ b, PySem.W.exmOne K (.ref D) c = some b) {c : Value} (hc : c ∈ cs) (h1 : PySem.W.exmOne K (.ref D) c = some true) : ∃ B : Value → Bool, (∀ c ∈ cs, PySem.W.exmOne K (.ref D) c = some (B c)) ∧ cs.any B = true := by
  refine ⟨fun c => (PySem.W.exmOne K (.ref D) c).getD false, fun c hc => ?_, List.any_eq_true.mpr ⟨c, hc, by rw [h1]; rfl⟩⟩
  obtain ⟨b, hb⟩ := h c hc
  show _ = some ((PySem.W.exmOne K (.ref D) c).getD false)
  rw [hb]
  rfl
theorem df_mkD {K : PySem.W.Frag} {h : Heap} {mg : Str → Option Value} {x : Str} {st : Stmt} {f T : Addr} {oc kV doc pm cdv ct : Value} {od an : Option Addr} {osl : Array (Option Value)} {nT : Nat} {its : List Value} {dvs : List V} (X : K.In h) (G : h.Ns mainGlobals mg) (a : PySem.W.nsIn K mainGlobals x = some (some (.ref f)))
    (l : K.lookup f = some ⟨oc, od, .func (PySem.W.fnOf x x (defArgs st) (defBody st) (defScope st) (.ref T) kV doc pm an cdv ct), osl⟩) (c : PySem.W.codeIn K cdv x = true) (k : PySem.W.keepIn K (.ref f) = true) {oT : Obj} (lT : K.lookup T = some oT) (eT : oT.data = .seq its.toArray nT) (r : Vals dvs its) (ne : dvs ≠ []) : Df K mg x st dvs :=
  ⟨f, _, ⟨⟨oc, od, .ref T, kV, doc, pm, an, cdv, ct, osl, rfl, l, c, .inr ⟨ne, T, _, its, nT, rfl, lT, eT, r⟩, .inl rfl⟩, k⟩, PySem.W.mg_of X G a⟩
/-! ### what the top has written -/
theorem fin {P : Program} {w : World} {K : PySem.W.Frag} {mg : Str → Option Value} {fa C CM CY C_NoShare C_NoCalendar C_NoDate C_NoWheel C_Taken C_NoText C_NoNote C_NoDeed : Addr} (hfa : mg "law" = some (.ref fa))
    (clw : Cls K C) (wn1 : PySem.W.findIn K (.ref C) "names" = some none) (wn2 : PySem.W.findIn K (.ref C) "first" = some none) (hWheel : mg "Wheel" = some (.ref C)) (dWheel : Di K mg "Wheel" C "Wheel.__init__" s_Wheel_init [.int 0])
    (dLen : Dm K C "__len__" "Wheel.__len__" s_Wheel_len)
    (dStr : Dm K C "__str__" "Wheel.__str__" s_Wheel_str)
    (mo_NoShare : Oc K mg CM "NoShare" C_NoShare false) (mo_NoCalendar : Oc K mg CM "NoCalendar" C_NoCalendar false) (mo_NoDate : Oc K mg CM "NoDate" C_NoDate false) (mo_NoWheel : Oc K mg CM "NoWheel" C_NoWheel false) (mo_NoName : Oc K mg CM "NoName" CM true) (mo_NoDay : Oc K mg CM "NoDay" CY false) (mo_Taken : Oc K mg CM "Taken" C_Taken false) (mo_NoText : Oc K mg CM "NoText" C_NoText false) (mo_NoNote : Oc K mg CM "NoNote" C_NoNote false) (mo_NoDeed : Oc K mg CM "NoDeed" C_NoDeed false)
    (mr_NoShare : CM ≠ C_NoShare) (mr_NoCalendar : CM ≠ C_NoCalendar) (mr_NoDate : CM ≠ C_NoDate) (mr_NoWheel : CM ≠ C_NoWheel) (mr_NoDay : CM ≠ CY) (mr_Taken : CM ≠ C_Taken) (mr_NoText : CM ≠ C_NoText) (mr_NoNote : CM ≠ C_NoNote) (mr_NoDeed : CM ≠ C_NoDeed)
    (mt_ZeroDivisionError : PySem.W.subIn K (.ref CM) (.type "ZeroDivisionError") = some false) (mt_LookupError : PySem.W.subIn K (.ref CM) (.type "LookupError") = some true) (mt_ValueError : PySem.W.subIn K (.ref CM) (.type "ValueError") = some false) (mt_KeyError : PySem.W.subIn K (.ref CM) (.type "KeyError") = some true) (mt_IndexError : PySem.W.subIn K (.ref CM) (.type "IndexError") = some false) (mt_RuntimeError : PySem.W.subIn K (.ref CM) (.type "RuntimeError") = some false)
    (mxc : XcF K CM) (mox : OxK K CM) (mno_name : PySem.W.findIn K (.ref CM) "name" = some none) (mvV : PySem.W.findCls K (.type "KeyError") (.type "type") "__init__" = some (.val (.builtin "KeyError.__init__")))
    (mdEx : Dx K CM "NoName.__init__" s_NoName_init)
    (yo_NoShare : Oc K mg CY "NoShare" C_NoShare false) (yo_NoCalendar : Oc K mg CY "NoCalendar" C_NoCalendar false) (yo_NoDate : Oc K mg CY "NoDate" C_NoDate false) (yo_NoWheel : Oc K mg CY "NoWheel" C_NoWheel false) (yo_NoName : Oc K mg CY "NoName" CM false) (yo_NoDay : Oc K mg CY "NoDay" CY true) (yo_Taken : Oc K mg CY "Taken" C_Taken false) (yo_NoText : Oc K mg CY "NoText" C_NoText false) (yo_NoNote : Oc K mg CY "NoNote" C_NoNote false) (yo_NoDeed : Oc K mg CY "NoDeed" C_NoDeed false)
    (yr_NoShare : CY ≠ C_NoShare) (yr_NoCalendar : CY ≠ C_NoCalendar) (yr_NoDate : CY ≠ C_NoDate) (yr_NoWheel : CY ≠ C_NoWheel) (yr_NoName : CY ≠ CM) (yr_Taken : CY ≠ C_Taken) (yr_NoText : CY ≠ C_NoText) (yr_NoNote : CY ≠ C_NoNote) (yr_NoDeed : CY ≠ C_NoDeed)
    (yt_ZeroDivisionError : PySem.W.subIn K (.ref CY) (.type "ZeroDivisionError") = some false) (yt_LookupError : PySem.W.subIn K (.ref CY) (.type "LookupError") = some true) (yt_ValueError : PySem.W.subIn K (.ref CY) (.type "ValueError") = some false) (yt_KeyError : PySem.W.subIn K (.ref CY) (.type "KeyError") = some false) (yt_IndexError : PySem.W.subIn K (.ref CY) (.type "IndexError") = some false) (yt_RuntimeError : PySem.W.subIn K (.ref CY) (.type "RuntimeError") = some false)
    (yxc : XcF K CY) (yox : OxL K CY) (yno_one : PySem.W.findIn K (.ref CY) "one" = some none) (yno_two : PySem.W.findIn K (.ref CY) "two" = some none) (yvV : PySem.W.findCls K (.type "LookupError") (.type "type") "__init__" = some (.val (.builtin "LookupError.__init__")))
    (ydEx : Dx K CY "NoDay.__init__" s_NoDay_init)
    (g_abs : mg "abs" = none) (g_range : mg "range" = none) (g_len : mg "len" = none) (g_set : mg "set" = none) (g_list : mg "list" = none) (g_tuple : mg "tuple" = none) (g_str : mg "str" = none) (g_int : mg "int" = none) (g_bool : mg "bool" = none) (g_zip : mg "zip" = none) (g_isinstance : mg "isinstance" = none) (g_LookupError : mg "LookupError" = none) (g_KeyError : mg "KeyError" = none)
    (d_meet : Df K mg "meet" s_meet [.int 0])
    (d_common_divisor : Df K mg "common_divisor" s_common_divisor []) (d_common_multiple : Df K mg "common_multiple" s_common_multiple []) (d_names_from_nought : Df K mg "names_from_nought" s_names_from_nought []) (d_named_day : Df K mg "named_day" s_named_day []) (d_first_alike : Df K mg "first_alike" s_first_alike []) (d_refuse_apart : Df K mg "refuse_apart" s_refuse_apart []) (d_meeting_day : Df K mg "meeting_day" s_meeting_day []) (d_inverse : Df K mg "inverse" s_inverse []) (d_meet_round : Df K mg "meet_round" s_meet_round []) (d_l_draws : Df K mg "_law_draws" s_l_draws []) (d_l_next : Df K mg "_law_next" s_l_next []) (d_l_whole : Df K mg "_law_whole" s_l_whole []) (d_l_far : Df K mg "_law_far" s_l_far []) (d_l_day : Df K mg "_law_day" s_l_day []) (d_l_kinds : Df K mg "_law_kinds" s_l_kinds []) (d_l_round : Df K mg "_law_round" s_l_round []) (d_l_sizes : Df K mg "_law_sizes" s_l_sizes []) (d_l_met : Df K mg "_law_met" s_l_met []) (d_l_first_met : Df K mg "_law_first_met" s_l_first_met []) (d_l_due : Df K mg "_law_due" s_l_due []) (d_l_asked : Df K mg "_law_asked" s_l_asked []) (d_l_right : Df K mg "_law_right" s_l_right []) (d_law : Df K mg "law" s_law []) :
    ∃ fd : FuncData, (∀ (s : Shared) (u : Value), BindsTo s fd ⟨[u], []⟩ [("_law_script", u)]) ∧ ∀ base : Heap, K.In base → base.Ns mainGlobals mg → FnOk P w K mg base CX0 13 fa fd ["_law_script"] (spLaw K) := by
  refine fin_of hfa d_law b_law fun base => ?_
  have mKD : KdF K mg CM false false false false true false false false false false false true false true false false C_NoShare C_NoCalendar C_NoDate C_NoWheel CM CY C_Taken C_NoText C_NoNote C_NoDeed :=
    { xc := mxc, m0 := mo_NoShare.m, m1 := mo_NoCalendar.m, m2 := mo_NoDate.m, m3 := mo_NoWheel.m, m4 := mo_NoName.m, m5 := mo_NoDay.m, m6 := mo_Taken.m, m7 := mo_NoText.m, m8 := mo_NoNote.m, m9 := mo_NoDeed.m, k0 := mo_NoShare.kit fun z => absurd z mr_NoShare, k1 := mo_NoCalendar.kit fun z => absurd z mr_NoCalendar, k2 := mo_NoDate.kit fun z => absurd z mr_NoDate, k3 := mo_NoWheel.kit fun z => absurd z mr_NoWheel, k4 := mo_NoName.kit fun _ => rfl, k5 := mo_NoDay.kit fun z => absurd z mr_NoDay, k6 := mo_Taken.kit fun z => absurd z mr_Taken, k7 := mo_NoText.kit fun z => absurd z mr_NoText, k8 := mo_NoNote.kit fun z => absurd z mr_NoNote, k9 := mo_NoDeed.kit fun z => absurd z mr_NoDeed, t0 := kit_typ (by decide +kernel) mt_ZeroDivisionError, t1 := kit_typ (by decide +kernel) mt_LookupError, t2 := kit_typ (by decide +kernel) mt_ValueError, t3 := kit_typ (by decide +kernel) mt_KeyError, t4 := kit_typ (by decide +kernel) mt_IndexError, t5 := kit_typ (by decide +kernel) mt_RuntimeError }
  have mXA := any_exm (K := K) (D := CM) (cs := [Value.ref C_NoCalendar, .ref C_NoDate, .ref CY, .ref C_NoDeed, .ref CM, .ref C_NoNote, .ref C_NoShare, .ref C_NoText, .ref C_NoWheel, .ref C_Taken]) (by
    intro c hc
    simp only [List.mem_cons, List.not_mem_nil, or_false] at hc
    rcases hc with rfl | rfl | rfl | rfl | rfl | rfl | rfl | rfl | rfl | rfl
    · exact ⟨_, mo_NoCalendar.exm⟩
    · exact ⟨_, mo_NoDate.exm⟩
    · exact ⟨_, mo_NoDay.exm⟩
    · exact ⟨_, mo_NoDeed.exm⟩
    · exact ⟨_, mo_NoName.exm⟩
    · exact ⟨_, mo_NoNote.exm⟩
    · exact ⟨_, mo_NoShare.exm⟩
    · exact ⟨_, mo_NoText.exm⟩
    · exact ⟨_, mo_NoWheel.exm⟩
    · exact ⟨_, mo_Taken.exm⟩) (c := .ref CM) (by simp) mo_NoName.exm
  have yKD : KdF K mg CY false false false false false true false false false false false true false false false false C_NoShare C_NoCalendar C_NoDate C_NoWheel CM CY C_Taken C_NoText C_NoNote C_NoDeed :=
    { xc := yxc, m0 := yo_NoShare.m, m1 := yo_NoCalendar.m, m2 := yo_NoDate.m, m3 := yo_NoWheel.m, m4 := yo_NoName.m, m5 := yo_NoDay.m, m6 := yo_Taken.m, m7 := yo_NoText.m, m8 := yo_NoNote.m, m9 := yo_NoDeed.m, k0 := yo_NoShare.kit fun z => absurd z yr_NoShare, k1 := yo_NoCalendar.kit fun z => absurd z yr_NoCalendar, k2 := yo_NoDate.kit fun z => absurd z yr_NoDate, k3 := yo_NoWheel.kit fun z => absurd z yr_NoWheel, k4 := yo_NoName.kit fun z => absurd z yr_NoName, k5 := yo_NoDay.kit fun _ => rfl, k6 := yo_Taken.kit fun z => absurd z yr_Taken, k7 := yo_NoText.kit fun z => absurd z yr_NoText, k8 := yo_NoNote.kit fun z => absurd z yr_NoNote, k9 := yo_NoDeed.kit fun z => absurd z yr_NoDeed, t0 := kit_typ (by decide +kernel) yt_ZeroDivisionError, t1 := kit_typ (by decide +kernel) yt_LookupError, t2 := kit_typ (by decide +kernel) yt_ValueError, t3 := kit_typ (by decide +kernel) yt_KeyError, t4 := kit_typ (by decide +kernel) yt_IndexError, t5 := kit_typ (by decide +kernel) yt_RuntimeError }
  have yXA := any_exm (K := K) (D := CY) (cs := [Value.ref C_NoCalendar, .ref C_NoDate, .ref CY, .ref C_NoDeed, .ref CM, .ref C_NoNote, .ref C_NoShare, .ref C_NoText, .ref C_NoWheel, .ref C_Taken]) (by
    intro c hc
    simp only [List.mem_cons, List.not_mem_nil, or_false] at hc
    rcases hc with rfl | rfl | rfl | rfl | rfl | rfl | rfl | rfl | rfl | rfl
    · exact ⟨_, yo_NoCalendar.exm⟩
    · exact ⟨_, yo_NoDate.exm⟩
    · exact ⟨_, yo_NoDay.exm⟩
    · exact ⟨_, yo_NoDeed.exm⟩
    · exact ⟨_, yo_NoName.exm⟩
    · exact ⟨_, yo_NoNote.exm⟩
    · exact ⟨_, yo_NoShare.exm⟩
    · exact ⟨_, yo_NoText.exm⟩
    · exact ⟨_, yo_NoWheel.exm⟩
    · exact ⟨_, yo_Taken.exm⟩) (c := .ref CY) (by simp) yo_NoDay.exm
  have W : WhT K C := ⟨clw, wn1, wn2⟩
  have NM : NnT K mg CM := ⟨mox, mno_name, mvV, g_KeyError, mo_NoName.m⟩
  have NY : NyT K mg CY := ⟨yox, yno_one, yno_two, yvV, g_LookupError, yo_NoDay.m⟩
  have cm := ok_nn (P := P) (w := w) (base := base) mdEx NM
  have cy := ok_ny (P := P) (w := w) (base := base) ydEx NY
  have gc := ok_gcd (P := P) (w := w) (base := base) d_common_divisor g_abs
  have cmu := ok_cm d_common_multiple gc
  have wI := ok_wzI (P := P) (w := w) (base := base) dWheel W g_len g_set g_tuple
  have wL := ok_wln (P := P) (w := w) (base := base) dLen W g_len
  have nd := ok_naX d_named_day W NM cm
  have al := ok_alk (P := P) (w := w) (base := base) d_first_alike
  have iv := ok_inv (P := P) (w := w) (base := base) d_inverse
  have md := ok_md d_meeting_day gc iv
  have mr := ok_mr d_meet_round cmu wL g_len
  have rf := ok_rf d_refuse_apart NY cy gc wL g_len g_range
  have me := ok_meX d_meet nd rf md cmu al wL g_len g_zip
  have nx := ok_next (P := P) (w := w) (base := base) d_l_next
  have dr := ok_draws (P := P) (w := w) (base := base) d_l_draws g_range
  have fr := ok_lfar62 d_l_far nx
  have dy := ok_lday d_l_day nx
  have ro := ok_lround (P := P) (w := w) (base := base) d_l_round
  have sz := ok_lsizes d_l_sizes nx g_range ro
  have mt := ok_lmetA (P := P) (w := w) (base := base) d_l_met g_len g_zip
  have fm := ok_lfmA d_l_first_met g_len g_range mt ro
  have du := ok_ldue d_l_due g_len g_range g_zip fm
  have kd := ok_kinds63 (P := P) (w := w) (base := base) d_l_kinds mKD yKD g_isinstance
  have as' := ok_lasked63 d_l_asked mKD yKD mXA yXA mno_name yno_one yno_two g_isinstance g_KeyError g_LookupError me kd
  have fnw := ok_frW (P := P) (w := w) (base := base) d_names_from_nought W g_len
  have wS := ok_wfS dStr fnw
  have wh := ok_lwhole (P := P) (w := w) (base := base) d_l_whole g_isinstance g_int g_bool
  have rg := ok_lright63 d_l_right nx g_len g_range g_str g_int g_list fr dy wI wS sz ro fm du as' wh me mr
  exact ok_law d_law dr rg me mr
theorem walk {l : PySem.W.OpenLaw} {q : Program} {loose : List Str} {XP : (Str → Option Value) → Heap → Prop} {YP : World → Heap → Prop} {d : DefRec} {K : Params → PySem.W.Frag} (hn : l.most = some 63) (hdf : d.params.defaults = [])
    (hY : ∀ (w : World) (h : Heap), YP w h → (K w.params).In h)
    (F : ∀ (w : World) (mg : Str → Option Value) (fa : Addr) (h : Heap), (K w.params).In h → h.Ns mainGlobals mg → mg d.name = some (.ref fa) →
      ∃ fd : FuncData, (∀ (s : Shared) (u : Value), BindsTo s fd ⟨[u], []⟩ [("_law_script", u)]) ∧ ∀ base : Heap, (K w.params).In base → base.Ns mainGlobals mg → FnOk l.prog w (K w.params) mg base CX0 13 fa fd ["_law_script"] (spLaw (K w.params))) :
    PySem.W.WalkO q loose XP YP l.row.toRowW d [] (fun f vs => PySem.call f vs) :=
  L2.walk_of (n := 63) (k := 13) (x := "_law_script") (CX := fun _ => CX0) (sp := fun w => spLaw (K w.params)) hn (by decide) hdf ⟨rfl, by decide, by decide⟩ hY F (fun _ _ a ns hl _ hS => ⟨a, ns, rfl, hS, hl, fun _ => rfl⟩) fun _ _ _ _ _ z => z
end MM
open PySem PySem.W PyProof.Rows in
set_option maxRecDepth 100000 in
set_option maxHeartbeats 0 in
theorem PySem.Challenge.cw_meanmoon_k63_days_on_which_wheels_meet_holds : PySem.Challenge.rw_meanmoon_k63_days_on_which_wheels_meet.Holds := by
  w_on; o_law; k_head; (case hw => w_witness2)
  k_fill
  refine MM.walk (l := PySem.Challenge.rw_meanmoon_k63_days_on_which_wheels_meet) rfl rfl (fun w h Y => PySem.W.kIn_of Y) ?F
  case F =>
    intro w mg fa h KX G hmg
    refine' MM.fin hmg
      ⟨?pgd, ?hdd, ?pod, ?sad⟩ ?dy1 ?dy2 (PySem.W.mg_of KX G ?aE)
      (MM.di_mk (its := [_]) (PySem.W.mg_of KX G ?aE) ?t1 ?t2 ?t3 ?t4 ?t5 ?t6 ?t7 ?t8 ?t9 ?t0 (by decide))
      (MM.dm_mk ⟨?pgd, ?hdd, ?pod, ?sad⟩ ?mdLena ?mdLeni ?mdLenl ?mdLenc ?mdLenk)
      (MM.dm_mk ⟨?pgd, ?hdd, ?pod, ?sad⟩ ?mdStra ?mdStri ?mdStrl ?mdStrc ?mdStrk)
      ⟨PySem.W.mg_of KX G ?mx_NoShare, ?mxi_NoShare, ?mxt_NoShare, ?mxe_NoShare, ?mxs_NoShare⟩
      ⟨PySem.W.mg_of KX G ?mx_NoCalendar, ?mxi_NoCalendar, ?mxt_NoCalendar, ?mxe_NoCalendar, ?mxs_NoCalendar⟩
      ⟨PySem.W.mg_of KX G ?mx_NoDate, ?mxi_NoDate, ?mxt_NoDate, ?mxe_NoDate, ?mxs_NoDate⟩
      ⟨PySem.W.mg_of KX G ?mx_NoWheel, ?mxi_NoWheel, ?mxt_NoWheel, ?mxe_NoWheel, ?mxs_NoWheel⟩
      ⟨PySem.W.mg_of KX G ?mx_NoName, ?mxi_NoName, ?mxt_NoName, ?mxe_NoName, ?mxs_NoName⟩
      ⟨PySem.W.mg_of KX G ?mx_NoDay, ?mxi_NoDay, ?mxt_NoDay, ?mxe_NoDay, ?mxs_NoDay⟩
      ⟨PySem.W.mg_of KX G ?mx_Taken, ?mxi_Taken, ?mxt_Taken, ?mxe_Taken, ?mxs_Taken⟩
      ⟨PySem.W.mg_of KX G ?mx_NoText, ?mxi_NoText, ?mxt_NoText, ?mxe_NoText, ?mxs_NoText⟩
      ⟨PySem.W.mg_of KX G ?mx_NoNote, ?mxi_NoNote, ?mxt_NoNote, ?mxe_NoNote, ?mxs_NoNote⟩
      ⟨PySem.W.mg_of KX G ?mx_NoDeed, ?mxi_NoDeed, ?mxt_NoDeed, ?mxe_NoDeed, ?mxs_NoDeed⟩
      ?mxr_NoShare ?mxr_NoCalendar ?mxr_NoDate ?mxr_NoWheel ?mxr_NoDay ?mxr_Taken ?mxr_NoText ?mxr_NoNote ?mxr_NoDeed
      ?mty_ZeroDivisionError ?mty_LookupError ?mty_ValueError ?mty_KeyError ?mty_IndexError ?mty_RuntimeError
      ⟨?mxc_0, ?mxc_1, ?mxc_2, ?mxc_3, ?mxc_4, ?mxc_5, ?mxc_6, ?mxc_7⟩
      (MM.oxk_mk ?mol ?mosa ?moex ?moty ?mokp) ?mnoname ?mvV
      (MM.dx_mk ?mda ?mdl ?mdc ?mdk ?mdt)
      ⟨PySem.W.mg_of KX G ?yx_NoShare, ?yxi_NoShare, ?yxt_NoShare, ?yxe_NoShare, ?yxs_NoShare⟩
      ⟨PySem.W.mg_of KX G ?yx_NoCalendar, ?yxi_NoCalendar, ?yxt_NoCalendar, ?yxe_NoCalendar, ?yxs_NoCalendar⟩
      ⟨PySem.W.mg_of KX G ?yx_NoDate, ?yxi_NoDate, ?yxt_NoDate, ?yxe_NoDate, ?yxs_NoDate⟩
      ⟨PySem.W.mg_of KX G ?yx_NoWheel, ?yxi_NoWheel, ?yxt_NoWheel, ?yxe_NoWheel, ?yxs_NoWheel⟩
      ⟨PySem.W.mg_of KX G ?yx_NoName, ?yxi_NoName, ?yxt_NoName, ?yxe_NoName, ?yxs_NoName⟩
      ⟨PySem.W.mg_of KX G ?yx_NoDay, ?yxi_NoDay, ?yxt_NoDay, ?yxe_NoDay, ?yxs_NoDay⟩
      ⟨PySem.W.mg_of KX G ?yx_Taken, ?yxi_Taken, ?yxt_Taken, ?yxe_Taken, ?yxs_Taken⟩
      ⟨PySem.W.mg_of KX G ?yx_NoText, ?yxi_NoText, ?yxt_NoText, ?yxe_NoText, ?yxs_NoText⟩
      ⟨PySem.W.mg_of KX G ?yx_NoNote, ?yxi_NoNote, ?yxt_NoNote, ?yxe_NoNote, ?yxs_NoNote⟩
      ⟨PySem.W.mg_of KX G ?yx_NoDeed, ?yxi_NoDeed, ?yxt_NoDeed, ?yxe_NoDeed, ?yxs_NoDeed⟩
      ?yxr_NoShare ?yxr_NoCalendar ?yxr_NoDate ?yxr_NoWheel ?yxr_NoName ?yxr_Taken ?yxr_NoText ?yxr_NoNote ?yxr_NoDeed
      ?yty_ZeroDivisionError ?yty_LookupError ?yty_ValueError ?yty_KeyError ?yty_IndexError ?yty_RuntimeError
      ⟨?yxc_0, ?yxc_1, ?yxc_2, ?yxc_3, ?yxc_4, ?yxc_5, ?yxc_6, ?yxc_7⟩
      (MM.oxl_mk ?yol ?yosa ?yoex ?yoty ?yokp) ?ynoone ?ynotwo ?yvV
      (MM.dx_mk ?yda ?ydl ?ydc ?ydk ?ydt)
      (PySem.W.mg_none_of KX G ?z0)
      (PySem.W.mg_none_of KX G ?z1)
      (PySem.W.mg_none_of KX G ?z2)
      (PySem.W.mg_none_of KX G ?z3)
      (PySem.W.mg_none_of KX G ?z4)
      (PySem.W.mg_none_of KX G ?z5)
      (PySem.W.mg_none_of KX G ?z6)
      (PySem.W.mg_none_of KX G ?z7)
      (PySem.W.mg_none_of KX G ?z8)
      (PySem.W.mg_none_of KX G ?z9)
      (PySem.W.mg_none_of KX G ?z10)
      (PySem.W.mg_none_of KX G ?z11)
      (PySem.W.mg_none_of KX G ?z12)
      (MM.df_mkD (its := [_]) KX G ?q1_meet ?q2_meet ?q3_meet ?q4_meet ?q5_meet ?q6_meet ?q7_meet (by decide))
      (MM.df_mk KX G ?a_common_divisor ?l_common_divisor ?c_common_divisor ?k_common_divisor)
      (MM.df_mk KX G ?a_common_multiple ?l_common_multiple ?c_common_multiple ?k_common_multiple)
      (MM.df_mk KX G ?a_names_from_nought ?l_names_from_nought ?c_names_from_nought ?k_names_from_nought)
      (MM.df_mk KX G ?a_named_day ?l_named_day ?c_named_day ?k_named_day)
      (MM.df_mk KX G ?a_first_alike ?l_first_alike ?c_first_alike ?k_first_alike)
      (MM.df_mk KX G ?a_refuse_apart ?l_refuse_apart ?c_refuse_apart ?k_refuse_apart)
      (MM.df_mk KX G ?a_meeting_day ?l_meeting_day ?c_meeting_day ?k_meeting_day)
      (MM.df_mk KX G ?a_inverse ?l_inverse ?c_inverse ?k_inverse)
      (MM.df_mk KX G ?a_meet_round ?l_meet_round ?c_meet_round ?k_meet_round)
      (MM.df_mk KX G ?a_l_draws ?l_l_draws ?c_l_draws ?k_l_draws)
      (MM.df_mk KX G ?a_l_next ?l_l_next ?c_l_next ?k_l_next)
      (MM.df_mk KX G ?a_l_whole ?l_l_whole ?c_l_whole ?k_l_whole)
      (MM.df_mk KX G ?a_l_far ?l_l_far ?c_l_far ?k_l_far)
      (MM.df_mk KX G ?a_l_day ?l_l_day ?c_l_day ?k_l_day)
      (MM.df_mk KX G ?a_l_kinds ?l_l_kinds ?c_l_kinds ?k_l_kinds)
      (MM.df_mk KX G ?a_l_round ?l_l_round ?c_l_round ?k_l_round)
      (MM.df_mk KX G ?a_l_sizes ?l_l_sizes ?c_l_sizes ?k_l_sizes)
      (MM.df_mk KX G ?a_l_met ?l_l_met ?c_l_met ?k_l_met)
      (MM.df_mk KX G ?a_l_first_met ?l_l_first_met ?c_l_first_met ?k_l_first_met)
      (MM.df_mk KX G ?a_l_due ?l_l_due ?c_l_due ?k_l_due)
      (MM.df_mk KX G ?a_l_asked ?l_l_asked ?c_l_asked ?k_l_asked)
      (MM.df_mk KX G ?a_l_right ?l_l_right ?c_l_right ?k_l_right)
      (MM.df_mk KX G ?a_law ?l_law ?c_law ?k_law)
    (case aE => k_is)
    (case pgd => k_is)
    (case hdd => k_is)
    (case pod => k_is)
    (case sad => k_is)
    (case dy1 => k_is)
    (case dy2 => k_is)
    (case t1 => k_is)
    (case t2 => k_is)
    (case t3 => k_is)
    (case t4 => k_is)
    (case t5 => k_is)
    (case t6 => k_is)
    (case t7 => k_is)
    (case t8 => k_is)
    (case mdLena => k_is)
    (case mdLeni => k_is)
    (case mdLenl => k_is)
    (case mdLenc => k_is)
    (case mdLenk => k_is)
    (case mdStra => k_is)
    (case mdStri => k_is)
    (case mdStrl => k_is)
    (case mdStrc => k_is)
    (case mdStrk => k_is)
    (case mx_NoName => k_is)
    (case mx_NoShare => k_is)
    (case mxi_NoShare => k_is)
    (case mxt_NoShare => k_is)
    (case mxe_NoShare => k_is)
    (case mxs_NoShare => k_is)
    (case mx_NoCalendar => k_is)
    (case mxi_NoCalendar => k_is)
    (case mxt_NoCalendar => k_is)
    (case mxe_NoCalendar => k_is)
    (case mxs_NoCalendar => k_is)
    (case mx_NoDate => k_is)
    (case mxi_NoDate => k_is)
    (case mxt_NoDate => k_is)
    (case mxe_NoDate => k_is)
    (case mxs_NoDate => k_is)
    (case mx_NoWheel => k_is)
    (case mxi_NoWheel => k_is)
    (case mxt_NoWheel => k_is)
    (case mxe_NoWheel => k_is)
    (case mxs_NoWheel => k_is)
    (case mxi_NoName => k_is)
    (case mxt_NoName => k_is)
    (case mxe_NoName => k_is)
    (case mxs_NoName => k_is)
    (case mx_NoDay => k_is)
    (case mxi_NoDay => k_is)
    (case mxt_NoDay => k_is)
    (case mxe_NoDay => k_is)
    (case mxs_NoDay => k_is)
    (case mx_Taken => k_is)
    (case mxi_Taken => k_is)
    (case mxt_Taken => k_is)
    (case mxe_Taken => k_is)
    (case mxs_Taken => k_is)
    (case mx_NoText => k_is)
    (case mxi_NoText => k_is)
    (case mxt_NoText => k_is)
    (case mxe_NoText => k_is)
    (case mxs_NoText => k_is)
    (case mx_NoNote => k_is)
    (case mxi_NoNote => k_is)
    (case mxt_NoNote => k_is)
    (case mxe_NoNote => k_is)
    (case mxs_NoNote => k_is)
    (case mx_NoDeed => k_is)
    (case mxi_NoDeed => k_is)
    (case mxt_NoDeed => k_is)
    (case mxe_NoDeed => k_is)
    (case mxs_NoDeed => k_is)
    (case mty_ZeroDivisionError => k_is)
    (case mty_LookupError => k_is)
    (case mty_ValueError => k_is)
    (case mty_KeyError => k_is)
    (case mty_IndexError => k_is)
    (case mty_RuntimeError => k_is)
    (case mxc_0 => k_is)
    (case mxc_1 => k_is)
    (case mxc_2 => k_is)
    (case mxc_3 => k_is)
    (case mxc_4 => k_is)
    (case mxc_5 => k_is)
    (case mxc_6 => k_is)
    (case mxc_7 => k_is)
    (case mol => k_is)
    (case mosa => k_is)
    (case moex => k_is)
    (case moty => k_is)
    (case mokp => k_is)
    (case mnoname => k_is)
    (case mvV => k_is)
    (case mda => k_is)
    (case mdl => k_is)
    (case mdc => k_is)
    (case mdk => k_is)
    (case mdt => k_is)
    (case yx_NoDay => k_is)
    (case yx_NoShare => k_is)
    (case yxi_NoShare => k_is)
    (case yxt_NoShare => k_is)
    (case yxe_NoShare => k_is)
    (case yxs_NoShare => k_is)
    (case yx_NoCalendar => k_is)
    (case yxi_NoCalendar => k_is)
    (case yxt_NoCalendar => k_is)
    (case yxe_NoCalendar => k_is)
    (case yxs_NoCalendar => k_is)
    (case yx_NoDate => k_is)
    (case yxi_NoDate => k_is)
    (case yxt_NoDate => k_is)
    (case yxe_NoDate => k_is)
    (case yxs_NoDate => k_is)
    (case yx_NoWheel => k_is)
    (case yxi_NoWheel => k_is)
    (case yxt_NoWheel => k_is)
    (case yxe_NoWheel => k_is)
    (case yxs_NoWheel => k_is)
    (case yx_NoName => k_is)
    (case yxi_NoName => k_is)
    (case yxt_NoName => k_is)
    (case yxe_NoName => k_is)
    (case yxs_NoName => k_is)
    (case yxi_NoDay => k_is)
    (case yxt_NoDay => k_is)
    (case yxe_NoDay => k_is)
    (case yxs_NoDay => k_is)
    (case yx_Taken => k_is)
    (case yxi_Taken => k_is)
    (case yxt_Taken => k_is)
    (case yxe_Taken => k_is)
    (case yxs_Taken => k_is)
    (case yx_NoText => k_is)
    (case yxi_NoText => k_is)
    (case yxt_NoText => k_is)
    (case yxe_NoText => k_is)
    (case yxs_NoText => k_is)
    (case yx_NoNote => k_is)
    (case yxi_NoNote => k_is)
    (case yxt_NoNote => k_is)
    (case yxe_NoNote => k_is)
    (case yxs_NoNote => k_is)
    (case yx_NoDeed => k_is)
    (case yxi_NoDeed => k_is)
    (case yxt_NoDeed => k_is)
    (case yxe_NoDeed => k_is)
    (case yxs_NoDeed => k_is)
    (case yty_ZeroDivisionError => k_is)
    (case yty_LookupError => k_is)
    (case yty_ValueError => k_is)
    (case yty_KeyError => k_is)
    (case yty_IndexError => k_is)
    (case yty_RuntimeError => k_is)
    (case yxc_0 => k_is)
    (case yxc_1 => k_is)
    (case yxc_2 => k_is)
    (case yxc_3 => k_is)
    (case yxc_4 => k_is)
    (case yxc_5 => k_is)
    (case yxc_6 => k_is)
    (case yxc_7 => k_is)
    (case yol => k_is)
    (case yosa => k_is)
    (case yoex => k_is)
    (case yoty => k_is)
    (case yokp => k_is)
    (case ynoone => k_is)
    (case ynotwo => k_is)
    (case yvV => k_is)
    (case yda => k_is)
    (case ydl => k_is)
    (case ydc => k_is)
    (case ydk => k_is)
    (case ydt => k_is)
    (case z0 => k_is)
    (case z1 => k_is)
    (case z2 => k_is)
    (case z3 => k_is)
    (case z4 => k_is)
    (case z5 => k_is)
    (case z6 => k_is)
    (case z7 => k_is)
    (case z8 => k_is)
    (case z9 => k_is)
    (case z10 => k_is)
    (case z11 => k_is)
    (case z12 => k_is)
    (case q1_meet => k_is)
    (case q2_meet => k_is)
    (case q3_meet => k_is)
    (case q4_meet => k_is)
    (case q5_meet => k_is)
    (case a_common_divisor => k_is)
    (case l_common_divisor => k_is)
    (case c_common_divisor => k_is)
    (case k_common_divisor => k_is)
    (case a_common_multiple => k_is)
    (case l_common_multiple => k_is)
    (case c_common_multiple => k_is)
    (case k_common_multiple => k_is)
    (case a_names_from_nought => k_is)
    (case l_names_from_nought => k_is)
    (case c_names_from_nought => k_is)
    (case k_names_from_nought => k_is)
    (case a_named_day => k_is)
    (case l_named_day => k_is)
    (case c_named_day => k_is)
    (case k_named_day => k_is)
    (case a_first_alike => k_is)
    (case l_first_alike => k_is)
    (case c_first_alike => k_is)
    (case k_first_alike => k_is)
    (case a_refuse_apart => k_is)
    (case l_refuse_apart => k_is)
    (case c_refuse_apart => k_is)
    (case k_refuse_apart => k_is)
    (case a_meeting_day => k_is)
    (case l_meeting_day => k_is)
    (case c_meeting_day => k_is)
    (case k_meeting_day => k_is)
    (case a_inverse => k_is)
    (case l_inverse => k_is)
    (case c_inverse => k_is)
    (case k_inverse => k_is)
    (case a_meet_round => k_is)
    (case l_meet_round => k_is)
    (case c_meet_round => k_is)
    (case k_meet_round => k_is)
    (case a_l_draws => k_is)
    (case l_l_draws => k_is)
    (case c_l_draws => k_is)
    (case k_l_draws => k_is)
    (case a_l_next => k_is)
    (case l_l_next => k_is)
    (case c_l_next => k_is)
    (case k_l_next => k_is)
    (case a_l_whole => k_is)
    (case l_l_whole => k_is)
    (case c_l_whole => k_is)
    (case k_l_whole => k_is)
    (case a_l_far => k_is)
    (case l_l_far => k_is)
    (case c_l_far => k_is)
    (case k_l_far => k_is)
    (case a_l_day => k_is)
    (case l_l_day => k_is)
    (case c_l_day => k_is)
    (case k_l_day => k_is)
    (case a_l_kinds => k_is)
    (case l_l_kinds => k_is)
    (case c_l_kinds => k_is)
    (case k_l_kinds => k_is)
    (case a_l_round => k_is)
    (case l_l_round => k_is)
    (case c_l_round => k_is)
    (case k_l_round => k_is)
    (case a_l_sizes => k_is)
    (case l_l_sizes => k_is)
    (case c_l_sizes => k_is)
    (case k_l_sizes => k_is)
    (case a_l_met => k_is)
    (case l_l_met => k_is)
    (case c_l_met => k_is)
    (case k_l_met => k_is)
    (case a_l_first_met => k_is)
    (case l_l_first_met => k_is)
    (case c_l_first_met => k_is)
    (case k_l_first_met => k_is)
    (case a_l_due => k_is)
    (case l_l_due => k_is)
    (case c_l_due => k_is)
    (case k_l_due => k_is)
    (case a_l_asked => k_is)
    (case l_l_asked => k_is)
    (case c_l_asked => k_is)
    (case k_l_asked => k_is)
    (case a_l_right => k_is)
    (case l_l_right => k_is)
    (case c_l_right => k_is)
    (case k_l_right => k_is)
    (case a_law => k_is)
    (case l_law => k_is)
    (case c_law => k_is)
    (case k_law => k_is)
    (case t9 => rfl)
    (case t0 => exact .cons ⟨_, rfl⟩ .nil)
    (case mxr_NoShare => decide)
    (case mxr_NoCalendar => decide)
    (case mxr_NoDate => decide)
    (case mxr_NoWheel => decide)
    (case mxr_NoDay => decide)
    (case mxr_Taken => decide)
    (case mxr_NoText => decide)
    (case mxr_NoNote => decide)
    (case mxr_NoDeed => decide)
    (case yxr_NoShare => decide)
    (case yxr_NoCalendar => decide)
    (case yxr_NoDate => decide)
    (case yxr_NoWheel => decide)
    (case yxr_NoName => decide)
    (case yxr_Taken => decide)
    (case yxr_NoText => decide)
    (case yxr_NoNote => decide)
    (case yxr_NoDeed => decide)
    (case q6_meet => rfl)
    (case q7_meet => exact (.cons ⟨_, rfl⟩ .nil))
#print axioms PySem.Challenge.cw_meanmoon_k63_days_on_which_wheels_meet_holds
