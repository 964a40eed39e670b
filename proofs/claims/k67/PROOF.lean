import PyProof.Rows.All
import Wide.All
import OpenK.AllK
import Wide.FinOn
import KE.KStateDown
import PyProof.NoPylong
import HandS.ForMost
import HandS.Wide
import HandS.Defaults
import HandS.MakeKw
import HandS.MakeKwOnly
import HandS.Exc
import HandS.WordsExc
import HandS.IsInst
import HandS.FStr
import HandS.Style
import HandS.Codes
import HandS.NoneIn
import PyProof.LongRange
import KE.KTryMore
import KE.KIsAll
import HandS.ExcIs
import HandS.ExcField
import HandS.ExcInit
import KE.KExcInit
import HandS.ExcBuiltin
import KE.KCallOwn
import HandS.OwnEq
import HandS.MapJoin
import HandS.Rev
import HandS.RevTup
import HandS.Walk
import HandS.Zip
import PyProof.P3Eq
import PyProof.EqLayable
import PyProof.InstNe
import KE.KTupSum
import HandS.SortInts
import HandS.Deep
import HandS.StrMore
import HandS.Text
import HandS.Call
import OpenK.KOps
import PyProof.EqAt
import PyProof.FString2
import HandS.SortRule
import HandS.Conv
import PyProof.FactsLen
import PyProof.InstSpecial
import PyProof.Rows.FactsExc_KeyError
import KE.DataMinKey
import KE.DatumOrd
import HandS.Iter
import HandS.SortKw
import KE.SortData
import PyProof.ExcBaseAll.IndexError
import PyProof.ExcBaseAll.RuntimeError
import HandS.WordsDict
import HandS.List
import HandS.Head0
import HandS.Head1
import HandS.Head2
import HandS.HeadEnd
import HandS.HeadHook1
import HandS.HeadHook2
import HandS.Dict
import HandS.More
import PySem.Challenge.RW_meanmoon_k67_books_of_feasts
set_option Elab.async false
set_option linter.all false
set_option maxRecDepth 100000
set_option maxHeartbeats 4000000
namespace MM
/-! fractions as Rat: the program's and the law's lowest terms are num and den -/
theorem gcd_fmod (a b : Int) : Int.gcd b (a.fmod b) = Int.gcd a b := by
  have h : a.fmod b = a - b * a.fdiv b := by have := Int.mul_fdiv_add_fmod a b; omega
  rw [h, Int.gcd_comm a b]
  rw [Int.sub_eq_add_neg, ← Int.mul_neg, Int.gcd_add_mul_left_right]
theorem gcd_emod' (a b : Int) : Int.gcd b (a % b) = Int.gcd a b := by
  have h : a % b = a - b * (a / b) := by have := Int.mul_ediv_add_emod a b; omega
  rw [h, Int.gcd_comm a b]
  rw [Int.sub_eq_add_neg, ← Int.mul_neg, Int.gcd_add_mul_left_right]
theorem fmod_lt (a : Int) {b : Int} (h : b ≠ 0) : (a.fmod b).natAbs < b.natAbs := by
  rcases Int.lt_or_gt_of_ne h with hb | hb
  · have e : a.fmod b = -((-a).fmod (-b)) := by rw [Int.neg_fmod_neg, Int.neg_neg]
    have h1 := Int.fmod_nonneg_of_pos (-a) (show (0 : Int) < -b by omega)
    have h2 := Int.fmod_lt_of_pos (-a) (show (0 : Int) < -b by omega)
    rw [e]
    omega
  · have h1 := Int.fmod_nonneg_of_pos a hb
    have h2 := Int.fmod_lt_of_pos a hb
    omega
theorem gcd_pos {t b : Int} (h : b ≠ 0) : 0 < Int.gcd t b := Int.gcd_pos_of_ne_zero_right t h
/-- the divisor that makes lowest terms -/
def gs (t b : Int) : Int := if b < 0 then -(Int.gcd t b : Int) else (Int.gcd t b : Int)
theorem gs_ne {t b : Int} (h : b ≠ 0) : gs t b ≠ 0 := by
  have := gcd_pos (t := t) h
  unfold gs
  split <;> omega
theorem low_num {t b : Int} (h : b ≠ 0) : t.fdiv (gs t b) = (Rat.divInt t b).num := by
  have hg := gcd_pos (t := t) h
  rw [Rat.num_divInt, Int.gcd_comm b t]
  unfold gs
  split
  · rename_i hb
    rw [Int.sign_eq_neg_one_of_neg hb, Int.neg_one_mul]
    rw [← Int.neg_fdiv_neg, Int.neg_neg, Int.fdiv_eq_ediv_of_nonneg _ (by omega)]
  · rw [Int.sign_eq_one_of_pos (by omega), Int.one_mul, Int.fdiv_eq_ediv_of_nonneg _ (by omega)]
theorem low_den {t b : Int} (h : b ≠ 0) : b.fdiv (gs t b) = ((Rat.divInt t b).den : Int) := by
  have hg := gcd_pos (t := t) h
  rw [Rat.den_divInt, if_neg h, Int.gcd_comm b t, Int.natCast_ediv]
  unfold gs
  split
  · rename_i hb
    rw [← Int.neg_fdiv_neg, Int.neg_neg, Int.fdiv_eq_ediv_of_nonneg _ (by omega)]
    congr 1
    omega
  · rw [Int.fdiv_eq_ediv_of_nonneg _ (by omega)]
    congr 1
    omega
theorem den_pos (q : Rat) : (0 : Int) < (q.den : Int) := by
  have := q.den_pos
  omega
/-- sizes -/
def Sz (n : Nat) (i : Int) : Prop := i.natAbs < 2 ^ n
def Rz (n : Nat) (q : Rat) : Prop := Sz n q.num ∧ Sz n q.den
theorem Sz.mono {n m : Nat} {i : Int} (h : Sz n i) (l : n ≤ m) : Sz m i := Nat.lt_of_lt_of_le h (Nat.pow_le_pow_right (by decide) l)
theorem Rz.mono {n m : Nat} {q : Rat} (h : Rz n q) (l : n ≤ m) : Rz m q := ⟨h.1.mono l, h.2.mono l⟩
theorem Sz.mul {n m : Nat} {i j : Int} (h : Sz n i) (k : Sz m j) : Sz (n + m) (i * j) := by
  unfold Sz
  rw [Int.natAbs_mul, Nat.pow_add]
  exact Nat.mul_lt_mul'' h k
theorem Sz.add {n m : Nat} {i j : Int} (h : Sz n i) (k : Sz n j) (l : n < m) : Sz m (i + j) := by
  have h' : i.natAbs < 2 ^ n := h
  have k' : j.natAbs < 2 ^ n := k
  have e : 2 ^ (n + 1) ≤ 2 ^ m := Nat.pow_le_pow_right (by decide) l
  rw [Nat.pow_succ] at e
  have z := Int.natAbs_add_le i j
  unfold Sz
  omega
theorem Sz.neg {n : Nat} {i : Int} (h : Sz n i) : Sz n (-i) := by
  unfold Sz
  rw [Int.natAbs_neg]
  exact h
theorem Sz.sub {n m : Nat} {i j : Int} (h : Sz n i) (k : Sz n j) (l : n < m) : Sz m (i - j) := by
  rw [Int.sub_eq_add_neg]
  exact h.add k.neg l
theorem natAbs_ediv_le (a : Int) {b : Nat} : (a / (b : Int)).natAbs ≤ a.natAbs := Int.natAbs_ediv_le_natAbs _ _
theorem Rz.divInt {n : Nat} {t b : Int} (h : Sz n t) (k : Sz n b) (h0 : 0 < n) : Rz n (Rat.divInt t b) := by
  refine ⟨?_, ?_⟩
  · unfold Sz
    rw [Rat.num_divInt]
    refine Nat.lt_of_le_of_lt (Int.natAbs_ediv_le_natAbs _ _) ?_
    rw [Int.natAbs_mul]
    refine Nat.lt_of_le_of_lt ?_ h
    have : b.sign.natAbs ≤ 1 := by
      rcases Int.lt_trichotomy b 0 with z | z | z
      · rw [Int.sign_eq_neg_one_of_neg z]; decide
      · rw [z]; decide
      · rw [Int.sign_eq_one_of_pos z]; decide
    calc b.sign.natAbs * t.natAbs ≤ 1 * t.natAbs := Nat.mul_le_mul_right _ this
      _ = t.natAbs := Nat.one_mul _
  · unfold Sz
    rw [Rat.den_divInt]
    split
    · show 1 < 2 ^ n
      exact Nat.one_lt_two_pow (by omega)
    · rw [Int.natAbs_natCast]
      exact Nat.lt_of_le_of_lt (Nat.div_le_self _ _) k
theorem add_eq (p q : Rat) : p + q = Rat.divInt (p.num * q.den + q.num * p.den) ((p.den : Int) * q.den) := by
  have := Rat.divInt_add_divInt p.num q.num (d₁ := p.den) (d₂ := q.den) (by have := den_pos p; omega) (by have := den_pos q; omega)
  rw [Rat.num_divInt_den, Rat.num_divInt_den] at this
  exact this
theorem sub_eq (p q : Rat) : p - q = Rat.divInt (p.num * q.den - q.num * p.den) ((p.den : Int) * q.den) := by
  rw [Rat.sub_eq_add_neg, add_eq]
  rw [Rat.neg_num, Rat.neg_den, Int.neg_mul, ← Int.sub_eq_add_neg]
theorem mul_eq (p q : Rat) : p * q = Rat.divInt (p.num * q.num) ((p.den : Int) * q.den) := by
  have := Rat.divInt_mul_divInt p.num q.num (d₁ := p.den) (d₂ := q.den)
  rw [Rat.num_divInt_den, Rat.num_divInt_den] at this
  exact this
theorem div_eq (p q : Rat) (h : q ≠ 0) : p / q = Rat.divInt (p.num * q.den) ((p.den : Int) * q.num) := by
  rw [Rat.div_def, mul_eq]
  have hq : q.num ≠ 0 := fun z => h (Rat.num_eq_zero.mp z)
  have e : q⁻¹ = Rat.divInt q.den q.num := by
    have := Rat.inv_divInt q.num q.den
    rw [Rat.num_divInt_den] at this
    exact this
  rw [← mul_eq, e]
  have := Rat.divInt_mul_divInt p.num q.den (d₁ := p.den) (d₂ := q.num)
  rw [Rat.num_divInt_den] at this
  exact this
theorem lt_iff' (p q : Rat) : p < q ↔ p.num * q.den < q.num * p.den := Rat.lt_iff p q
theorem Rz.add {n l m : Nat} {p q : Rat} (h : Rz n p) (k : Rz l q) (hl : n + l < m) : Rz m (p + q) := by
  rw [add_eq]
  exact Rz.divInt (Sz.add (n := n + l) ((h.1.mul k.2).mono (by omega)) ((k.1.mul h.2).mono (by omega)) hl) ((h.2.mul k.2).mono (by omega)) (by omega)
theorem Rz.sub {n l m : Nat} {p q : Rat} (h : Rz n p) (k : Rz l q) (hl : n + l < m) : Rz m (p - q) := by
  rw [sub_eq]
  exact Rz.divInt (Sz.sub (n := n + l) ((h.1.mul k.2).mono (by omega)) ((k.1.mul h.2).mono (by omega)) hl) ((h.2.mul k.2).mono (by omega)) (by omega)
theorem Rz.mul {n l m : Nat} {p q : Rat} (h : Rz n p) (k : Rz l q) (hl : n + l < m) : Rz m (p * q) := by
  rw [mul_eq]
  exact Rz.divInt ((h.1.mul k.1).mono (by omega)) ((h.2.mul k.2).mono (by omega)) (by omega)
theorem Rz.div {n l m : Nat} {p q : Rat} (h : Rz n p) (k : Rz l q) (z : q ≠ 0) (hl : n + l < m) : Rz m (p / q) := by
  rw [div_eq p q z]
  exact Rz.divInt ((h.1.mul k.2).mono (by omega)) ((h.2.mul k.1).mono (by omega)) (by omega)
theorem Rz.int {n : Nat} {i : Int} (h : Sz n i) (h0 : 0 < n) : Rz n (i : Rat) := ⟨h, (by show 1 < 2 ^ n; exact Nat.one_lt_two_pow (by omega))⟩
theorem Sz.floor {n : Nat} {q : Rat} (h : Rz n q) : Sz n q.floor := by
  unfold Sz
  rw [Rat.floor_def]
  exact Nat.lt_of_le_of_lt (Int.natAbs_ediv_le_natAbs _ _) h.1
theorem neg_div_ceil (q : Rat) : -(-q.num / (q.den : Int)) = q.ceil := by
  have := Rat.ceil_eq_neg_floor_neg q
  rw [this, Rat.floor_def, Rat.neg_num, Rat.neg_den]
theorem Rz.neg {n : Nat} {q : Rat} (h : Rz n q) : Rz n (-q) := ⟨by rw [Rat.neg_num]; exact h.1.neg, by rw [Rat.neg_den]; exact h.2⟩
theorem Sz.ceil {n : Nat} {q : Rat} (h : Rz n q) : Sz n q.ceil := by
  rw [Rat.ceil_eq_neg_floor_neg]
  exact (Sz.floor h.neg).neg
theorem Sz.of {n : Nat} {i : Int} (h1 : -(2 ^ n) < i) (h2 : i < 2 ^ n) : Sz n i := by
  unfold Sz
  have e : ((2 ^ n : Nat) : Int) = (2 : Int) ^ n := by simp
  omega
end MM
namespace MM
/-! the calendar's mathematics: floor, ceil, and the steps of months and marks -/
structure Fit (m y : Rat) : Prop where
  one : 1 ≤ m
  between : (m.ceil : Rat) ≤ y / 12
  thirteen : y + 1 ≤ 13 * m
theorem Fit.pos {m y : Rat} (f : Fit m y) : 0 < m := by
  have := f.one
  grind
theorem Fit.ypos {m y : Rat} (f : Fit m y) : 0 < y / 12 := by
  have h1 := f.one
  have h2 := f.between
  have h3 : m ≤ (m.ceil : Rat) := Rat.le_ceil
  grind
def stF (m o : Rat) (k : Int) : Int := (o + k * m).floor
def mdF (y k : Rat) (j : Int) : Int := (k + j * (y / 12)).floor
def maF (m o : Rat) (d : Int) : Int := ((((d + 1 : Int) : Rat) - o) / m).ceil - 1
def jF (y k : Rat) (d : Int) : Int := (((d : Rat) - k) / (y / 12)).ceil
theorem lt_ceil_iff {q : Rat} {i : Int} : i < q.ceil ↔ (i : Rat) < q := by
  have h : q.ceil ≤ i ↔ q ≤ (i : Rat) := Rat.ceil_le_iff
  constructor
  · intro hi
    have : ¬ q.ceil ≤ i := by omega
    rw [h] at this
    exact Rat.not_le.mp this
  · intro hi
    have : ¬ q ≤ (i : Rat) := Rat.not_le.mpr hi
    rw [← h] at this
    omega
theorem floor_le_iff {q : Rat} {i : Int} : q.floor ≤ i ↔ q < ((i + 1 : Int) : Rat) := by
  have h := Rat.floor_lt_iff (a := q) (x := i + 1)
  rw [← h]
  omega
/-- the months up to K begin by the day d -/
theorem st_le {m o : Rat} (hm : 0 < m) {k d : Int} : stF m o k ≤ d ↔ k ≤ maF m o d := by
  unfold stF maF
  rw [floor_le_iff]
  have e : k ≤ ((((d + 1 : Int) : Rat) - o) / m).ceil - 1 ↔ k < ((((d + 1 : Int) : Rat) - o) / m).ceil := by omega
  rw [e, lt_ceil_iff, Rat.lt_div_iff hm]
  constructor <;> intro h <;> grind
theorem ma_of {m o : Rat} (hm : 0 < m) {k d : Int} (h1 : stF m o k ≤ d) (h2 : d < stF m o (k + 1)) : maF m o d = k := by
  have a := (st_le hm).mp h1
  have b : ¬ k + 1 ≤ maF m o d := fun z => by
    have := (st_le hm).mpr z
    omega
  omega
theorem st_ma {m o : Rat} (hm : 0 < m) (d : Int) : stF m o (maF m o d) ≤ d := (st_le hm).mpr (Int.le_refl _)
theorem ma_st {m o : Rat} (hm : 0 < m) (d : Int) : d < stF m o (maF m o d + 1) := by
  have : ¬ stF m o (maF m o d + 1) ≤ d := fun z => by
    have := (st_le hm).mp z
    omega
  omega
theorem cast_add1 (k : Int) : ((k + 1 : Int) : Rat) = (k : Rat) + 1 := by
  rw [Rat.intCast_add]
  rfl
theorem st_step {m o : Rat} (hm : 1 ≤ m) (k : Int) : stF m o k + 1 ≤ stF m o (k + 1) := by
  unfold stF
  rw [Rat.le_floor_iff, cast_add1, cast_add1]
  have h := Rat.floor_le (o + (k : Rat) * m)
  grind
theorem md_lt {y k : Rat} (hy : 0 < y / 12) {j d : Int} : mdF y k j < d ↔ j < jF y k d := by
  unfold mdF jF
  rw [Rat.floor_lt_iff, lt_ceil_iff, Rat.lt_div_iff hy]
  constructor <;> intro h <;> grind
theorem md_ge {y k : Rat} (hy : 0 < y / 12) (d : Int) : d ≤ mdF y k (jF y k d) := by
  have : ¬ mdF y k (jF y k d) < d := fun z => by
    have := (md_lt hy).mp z
    omega
  omega
/-- of two months in a row one has a mark -/
theorem two_months {m y o k : Rat} (f : Fit m y) (i : Int) : mdF y k (jF y k (stF m o (i - 1))) < stF m o (i + 1) := by
  have hy := f.ypos
  have h1 : mdF y k (jF y k (stF m o (i - 1)) - 1) < stF m o (i - 1) := (md_lt hy).mpr (by omega)
  unfold mdF at h1 ⊢
  rw [Rat.floor_lt_iff] at h1 ⊢
  have e1 : ((jF y k (stF m o (i - 1)) - 1 : Int) : Rat) = (jF y k (stF m o (i - 1)) : Rat) - 1 := by rw [Rat.intCast_sub]; rfl
  rw [e1] at h1
  have h2 : ((stF m o (i - 1) : Int) : Rat) ≤ o + ((i - 1 : Int) : Rat) * m := Rat.floor_le _
  have h3 : o + ((i + 1 : Int) : Rat) * m - 1 < ((stF m o (i + 1) : Int) : Rat) := Rat.lt_floor
  have e2 : ((i - 1 : Int) : Rat) = (i : Rat) - 1 := by rw [Rat.intCast_sub]; rfl
  rw [e2] at h2
  rw [cast_add1] at h3
  have a := f.one
  have b := f.thirteen
  have c : y / 12 ≤ 2 * m - 1 := by grind
  grind
theorem k0_le {m o : Rat} (hm : 0 < m) (d : Int) : (((d : Rat) - o) / m).floor - 1 ≤ maF m o d := by
  have h : ((((d : Rat) - o) / m).floor - 1) < ((((d + 1 : Int) : Rat) - o) / m).ceil := by
    rw [lt_ceil_iff, Rat.intCast_sub]
    have h1 := Rat.floor_le (((d : Rat) - o) / m)
    have h2 : ((d : Rat) - o) / m < (((d + 1 : Int) : Rat) - o) / m := by
      rw [cast_add1, Rat.lt_div_iff hm, Rat.div_mul_cancel (by grind)]
      grind
    have h3 : ((1 : Int) : Rat) = 1 := rfl
    grind
  unfold maF
  omega
theorem j0_le {y k : Rat} (d : Int) : (((d : Rat) - k) / (y / 12)).floor - 1 ≤ jF y k d := by
  have h : (((d : Rat) - k) / (y / 12)).floor ≤ (((d : Rat) - k) / (y / 12)).ceil := Rat.intCast_le_intCast.mp (Rat.le_trans (Rat.floor_le _) Rat.le_ceil)
  unfold jF
  omega
end MM
namespace MM
theorem floor_divInt {t b : Int} (hb : 0 < b) : (Rat.divInt t b).floor = t / b := by
  rw [Rat.floor_def]
  have h := Rat.num_divInt_den (Rat.divInt t b)
  have hd := den_pos (Rat.divInt t b)
  rw [Rat.divInt_eq_divInt_iff (by omega) (by omega)] at h
  have e1 : t / b = (t * ((Rat.divInt t b).den : Int)) / (b * ((Rat.divInt t b).den : Int)) := (Int.mul_ediv_mul_of_pos_left _ _ hd).symm
  rw [e1, ← h, Int.mul_comm b, Int.mul_ediv_mul_of_pos_left _ _ hb]
theorem inv_eq (q : Rat) : q⁻¹ = Rat.divInt q.den q.num := by
  have := Rat.inv_divInt q.num q.den
  rw [Rat.num_divInt_den] at this
  exact this
theorem div12 (x y : Rat) (hy : y ≠ 0) : Rat.divInt (x.num * 12 * y.den) ((x.den : Int) * y.num) = x / (y / 12) := by
  have e : x / (y / 12) = x * 12 * y⁻¹ := by grind
  rw [e, inv_eq]
  have h1 : x * 12 = Rat.divInt (x.num * 12) ((x.den : Int) * 1) := by
    have h := Rat.divInt_mul_divInt x.num 12 (d₁ := x.den) (d₂ := 1)
    rw [Rat.num_divInt_den] at h
    exact h
  rw [h1, Rat.divInt_mul_divInt, Int.mul_one]
theorem Sz.between {n : Nat} {a x b : Int} (ha : Sz n a) (hb : Sz n b) (h1 : a ≤ x) (h2 : x ≤ b) : Sz n x := by
  unfold Sz at *
  omega
theorem Fit.ypos' {m y : Rat} (f : Fit m y) : 0 < y := by
  have := f.ypos
  grind
theorem num_pos {q : Rat} (h : 0 < q) : 0 < q.num := by
  have := (lt_iff' 0 q).mp h
  rw [show (0 : Rat).num = 0 from rfl, show (0 : Rat).den = 1 from rfl] at this
  omega
end MM
namespace MM
theorem unit_divInt {t b : Int} (h0 : 0 ≤ t) (h1 : t ≤ b) (hb : 0 < b) : 0 ≤ Rat.divInt t b ∧ Rat.divInt t b ≤ 1 := by
  have hb' : (0 : Rat) < (b : Rat) := Rat.intCast_lt_intCast.mpr hb
  have h0' : (0 : Rat) ≤ (t : Rat) := Rat.intCast_le_intCast.mpr h0
  have h1' : (t : Rat) ≤ (b : Rat) := Rat.intCast_le_intCast.mpr h1
  rw [Rat.divInt_eq_div]
  have e : (t : Rat) / (b : Rat) * (b : Rat) = t := Rat.div_mul_cancel (by grind)
  refine ⟨?_, ?_⟩
  · apply Rat.not_lt.mp
    intro z
    have := Rat.mul_lt_mul_of_pos_right z hb'
    grind
  · apply Rat.not_lt.mp
    intro z
    have := Rat.mul_lt_mul_of_pos_right z hb'
    grind
theorem cast_sub1 (w : Int) : ((w - 1 : Int) : Rat) = (w : Rat) - 1 := by
  rw [Rat.intCast_sub]
  rfl
theorem cast_12 (w : Int) : ((12 * w : Int) : Rat) = 12 * (w : Rat) := by
  rw [Rat.intCast_mul]
  rfl
/-- the law's drawn month and year make a calendar -/
theorem fit_drawn {w : Int} (hw : 1 ≤ w) {s r : Rat} (s0 : 0 ≤ s) (s1 : s ≤ 1) (r0 : 0 ≤ r) (r1 : r ≤ 1) :
    Fit ((((12 * w + 1 : Int) : Rat) + s * ((w - 1 : Int) : Rat)) * Rat.divInt 1 13) (((12 * w : Int) : Rat) + r * s * ((w - 1 : Int) : Rat)) := by
  have hW : (1 : Rat) ≤ (w : Rat) := Rat.intCast_le_intCast.mpr hw
  rw [cast_add1, cast_12, cast_sub1, Rat.divInt_eq_div]
  have a0 : 0 ≤ s * ((w : Rat) - 1) := Rat.mul_nonneg s0 (by grind)
  have a1 : s * ((w : Rat) - 1) ≤ 1 * ((w : Rat) - 1) := Rat.mul_le_mul_of_nonneg_right s1 (by grind)
  have b0 : 0 ≤ r * (s * ((w : Rat) - 1)) := Rat.mul_nonneg r0 a0
  have b1 : r * (s * ((w : Rat) - 1)) ≤ 1 * (s * ((w : Rat) - 1)) := Rat.mul_le_mul_of_nonneg_right r1 a0
  have e : r * s * ((w : Rat) - 1) = r * (s * ((w : Rat) - 1)) := Rat.mul_assoc _ _ _
  rw [e]
  have c1 : ((1 : Int) : Rat) = 1 := rfl
  have c13 : ((13 : Int) : Rat) = 13 := rfl
  rw [c1, c13]
  generalize s * ((w : Rat) - 1) = z at *
  generalize r * z = u at *
  refine ⟨by grind, ?_, by grind⟩
  have h : ((12 * (w : Rat) + 1 + z) * (1 / 13)).ceil ≤ w := Rat.ceil_le_iff.mpr (by grind)
  have h' : (((12 * (w : Rat) + 1 + z) * (1 / 13)).ceil : Rat) ≤ (w : Rat) := Rat.intCast_le_intCast.mpr h
  grind
end MM
namespace MM
open PySem PySem.Spec PyProof.Rows L2
/-! ### defs and their calls -/
/-- a def of the module under its name, with its defaults -/
structure Df (K : PySem.W.Frag) (mg : Str → Option Value) (x : Str) (st : Stmt) (dvs : List V) : Prop where
  ex : ∃ (f : Addr) (fd : FuncData), FunD K x x (defArgs st) (defBody st) (defScope st) dvs [] f fd ∧ mg x = some (.ref f)
/-- what is known of a def that is called: its promise, how it is bound -/
structure Ca (P : Program) (w : World) (K : PySem.W.Frag) (mg : Str → Option Value) (base : Heap) (CX : CXT) (k : Nat) (x : Str) (st : Stmt) (dvs : List V) (ps : List Str) (sp : Sp) : Prop where
  ex : ∃ (f : Addr) (fd : FuncData), FunD K x x (defArgs st) (defBody st) (defScope st) dvs [] f fd ∧ mg x = some (.ref f) ∧ FnOk P w K mg base CX k f fd ps sp
/-- the parameters of a def, all given by place -/
def Bd (x qual : Str) (st : Stmt) (ps : List Str) : Prop := ∀ (kV doc pm : Value) (an : Option Addr) (cdv ct : Value) (us : List Value), us.length = ps.length →
  bindArgs (PySem.W.fnOf x qual (defArgs st) (defBody st) (defScope st) .none kV doc pm an cdv ct) ⟨us, []⟩ = pure (ps.zip us)
section
variable {P : Program} {w : World} {K : PySem.W.Frag} {mg : Str → Option Value} {base : Heap} {x : Str} {st : Stmt} {dvs : List V} {N ps : List Str} {k : Nat} {sp : Sp}
theorem ca0 (D : Df K mg x st dvs) (S : FnScope N ps (defScope st)) (len : ∀ vs H Q E, sp vs H Q E → vs.length = ps.length)
    (body : ∀ (f : Addr) (cdv : Value) (A : Around) (outer : List Env) (s : Shared) (H : Hp) (vs : List V) (Q : VK) (E : XK), Room k (A.deeper (envOfC x (defScope st) s.heap.objs.size f cdv)) → sp vs H Q E →
      ∃ t, PSs (cxOf CX0 P w K mg base N x (defScope st) f cdv A outer s H E).nox (defBody st) t ∧ t { nx := fun _ H' => Q .non H', rt := Q } (start N vs) H) : Ca P w K mg base CX0 (k + 1) x st dvs ps sp := by
  obtain ⟨f, fd, F, hm⟩ := D.ex
  refine ⟨f, fd, F, hm, F.ok S len fun cdv A outer s H vs Q E hr h => ?_⟩
  obtain ⟨t, h1, h2⟩ := body f cdv A outer s H vs Q E hr h
  exact ⟨t, h1.nox, h2⟩
theorem caX (D : Df K mg x st dvs) (S : FnScope N ps (defScope st)) (len : ∀ vs H Q E, sp vs H Q E → vs.length = ps.length)
    (body : ∀ (f : Addr) (cdv : Value) (A : Around) (outer : List Env) (s : Shared) (H : Hp) (vs : List V) (Q : VK) (E : XK), Room k (A.deeper (envOfC x (defScope st) s.heap.objs.size f cdv)) → sp vs H Q E →
      ∃ t, PSs (cxOf (L2.CX P w) P w K mg base N x (defScope st) f cdv A outer s H E) (defBody st) t ∧ t { nx := fun _ H' => Q .non H', rt := Q } (start N vs) H) : Ca P w K mg base (L2.CX P w) (k + 1) x st dvs ps sp := by
  obtain ⟨f, fd, F, hm⟩ := D.ex
  exact ⟨f, fd, F, hm, F.ok S len fun cdv A outer s H vs Q E hr h => body f cdv A outer s H vs Q E hr h⟩
theorem FunD.none {qual : Str} {params : Arguments} {bodyS : List Stmt} {scope : Scope} {f : Addr} {fd : FuncData} (F : FunD K x qual params bodyS scope [] [] f fd) :
    ∃ (kV doc pm : Value) (an : Option Addr) (cdv ct : Value), fd = PySem.W.fnOf x qual params bodyS scope .none kV doc pm an cdv ct := by
  obtain ⟨oc, od, dV, kV, doc, pm, an, cdv, ct, osl, rfl, lk, hcd, hD, hK⟩ := F.ex
  rcases hD with ⟨_, rfl⟩ | ⟨e, _⟩
  · exact ⟨kV, doc, pm, an, cdv, ct, rfl⟩
  · exact absurd rfl e
end
section
variable {X : Cx} {CX : CXT} {k j n : Nat} {C : Addr} {x m : Str} {st : Stmt} {sp : Sp} {ps ks : List Str} {dvs : List V} {E : XK} {p pos apos : Pos} {e o : Expr} {es : List Expr} {kws : List Keyword} {ta : TE} {t tk : TA}
/-- f(e, ..), all parameters by place -/
theorem pe_ca (c : Ca X.prog X.w X.K X.mg X.base CX k x st [] ps sp) (b : Bd x x st ps) (hr : Room j X.A) (hk : k ≤ j) (hx : Passes CX X E) (hg : Gl X x) (ha : PA X (e :: es) t)
    (hdb : (x == ("__debug__" : Str)) = false := by decide) (he : starEach (e :: es) X.env = (false, eval e X.env) :: starEach es X.env := by rfl) (hpl : (backTo pos (starEach es X.env)).any (·.1) = false := by rfl) :
    PE X (.Call (.Name x p) (e :: es) [] pos) (tCall sp [] E t) := by
  obtain ⟨f, fd, F, hm, G⟩ := c.ex
  exact pe_call G (hr.mono hk) hg hm F.kp (F.bindsN b) .nil hx ha hdb he hpl
/-- how keywords bind where there is no default: g puts the places' values and the keywords' in order -/
structure Kb (x : Str) (st : Stmt) (n : Nat) (ks ps : List Str) (g : {α : Type} → List α → List α → List α) : Prop where
  bind : ∀ (kV doc pm : Value) (an : Option Addr) (cdv ct : Value) (us ws : List Value), us.length = n → ws.length = ks.length →
    bindArgs (PySem.W.fnOf x x (defArgs st) (defBody st) (defScope st) .none kV doc pm an cdv ct) ⟨us, ks.zip ws⟩ = pure (ps.zip (g us ws))
  rel : ∀ {vs zs : List V} {us ws : List Value}, vs.length = n → zs.length = ks.length → Vals vs us → Vals zs ws → Vals (g vs zs) (g us ws)
/-- f(k = v, ..) of a def without defaults -/
theorem pe_caK {g : {α : Type} → List α → List α → List α} (c : Ca X.prog X.w X.K X.mg X.base CX k x st [] ps sp) (b : Kb x st 0 ks ps g) (hr : Room j X.A) (hk : k ≤ j) (hx : Passes CX X E) (hg : Gl X x) (hkw : PK X kws tk)
    (hall : (backToKw pos (keywordEach kws X.env)).all (·.1.isSome) = true := by rfl) (hks : (backToKw pos (keywordEach kws X.env)).filterMap (·.1) = ks := by rfl) (hdb : (x == ("__debug__" : Str)) = false := by decide)
    (hpl : ((backTo pos (starEach [] X.env)).any (·.1) || (backToKw pos (keywordEach kws X.env)).any (·.1.isNone)) = false := by rfl) :
    PE X (.Call (.Name x p) [] kws pos) (fun σ H Q => tk σ H fun zs H2 => zs.length = ks.length ∧ sp (g [] zs) H2 Q E) := by
  obtain ⟨f, fd, F, hm, G⟩ := c.ex
  obtain ⟨kV, doc, pm, an, cdv, ct, rfl⟩ := FunD.none F
  refine ⟨fun pins s σ H Q I h => ?_⟩
  refine wpAny_Call_Name_kw (ld_glob I hg hm ?_ hdb)
  refine PySem.W.callWith_KW0 (h₀ := X.base) I.ok.mod.kin F.kp hall ?_ hpl
  refine thn (hkw.run pos pins s σ H _ I h) fun ws s2 ⟨zs, H2, I2, rz, l2, q2⟩ => ⟨I2.kIn, ?_⟩
  rw [hks]
  have r2 : Vals (g [] zs) (g [] ws) := b.rel rfl l2 .nil rz
  refine wpAny_call (codeAny_mono (G.run X.A X.stack s2 H2 ⟨[], ks.zip ws⟩ (g [] ws) (g [] zs) Q E (hr.mono hk) I2.env0 (.of_eq (b.bind kV doc pm an cdv ct [] ws rfl (rz.length.symm.trans l2))) r2 q2) fun r s' hq => ?_)
  match r, hq with
  | .error e, hq => exact hx pins σ H2 s2 e s' I2 hq
  | .ok (.ret u), hq => exact I2.after hq
  | .ok .next, hq => exact False.elim hq
  | .ok .brk, hq => exact False.elim hq
  | .ok .cont, hq => exact False.elim hq
end
/-! ### whole numbers -/
section
variable {X : Cx}
/-- // by any divisor but 0 -/
def CDivA (_ j : Int) : Prop := j ≠ 0 ∧ Sz 8900 j
theorem op_fdivA : OpR X (binaryOp .FloorDiv) (rI CDivA fun i j => .int (i.fdiv j)) := opI fun i j _ _ _ _ _ hc q =>
  PyProof.Rows.floordiv_int hc.1 q (.inl (PyProof.noPylong_of_log2 (Nat.lt_of_lt_of_le (PySem.Flt.log2_lt_of (by decide) hc.2) (by decide))))
/-- * of two numbers of some thousand bits -/
def CMulA (i j : Int) : Prop := Sz 100000 i ∧ Sz 100000 j
theorem op_mulA : OpR X (binaryOp .Mult) (rI CMulA fun i j => .int (i * j)) := opI fun i j _ _ _ _ _ hc q =>
  PyProof.Rows.mul_int q (CMulW.ok (wide_mul hc.1 hc.2 (by decide) (by decide) (by decide)))
end
/-! ### a pick out of a written list -/
theorem pick {α : Type} {xs : List α} {z : Int} {P : α → Prop} (h0 : 0 ≤ z) (h1 : z < xs.length) (h : ∀ x ∈ xs, P x) : ∃ v, atI xs z = some v ∧ P v := by
  have hl : z.toNat < xs.length := by omega
  refine ⟨xs[z.toNat], ?_, h _ (List.getElem_mem hl)⟩
  unfold atI ixN
  rw [if_pos h0, if_pos h1]
  exact List.getElem?_eq_getElem hl
end MM
namespace MM
open PySem PySem.Spec PyProof.Rows L2
/-- what binds where some parameters have defaults: n given by place, the defaults from the j-th on fill up -/
def Bd1 (x qual : Str) (st : Stmt) (ps : List Str) (n j m : Nat) : Prop := ∀ (T : Addr) (kV doc pm : Value) (an : Option Addr) (cdv ct : Value) (us its : List Value), us.length = n → its.length = m →
  ∃ k, bindArgs (PySem.W.fnOf x qual (defArgs st) (defBody st) (defScope st) (.ref T) kV doc pm an cdv ct) ⟨us, []⟩ = seqItems? (.ref T) >>= k ∧ k (some its.toArray) = pure (ps.zip (us ++ its.drop j))
/-- the __init__ of a class -/
structure Di (K : PySem.W.Frag) (mg : Str → Option Value) (x : Str) (C : Addr) (qual : Str) (st : Stmt) (dvs : List V) : Prop where
  ex : ∃ (f : Addr) (fd : FuncData), FunD K "__init__" qual (defArgs st) (defBody st) (defScope st) dvs [] f fd ∧ Mk K C f ∧ mg x = some (.ref C)
structure Ci (P : Program) (w : World) (K : PySem.W.Frag) (mg : Str → Option Value) (base : Heap) (CX : CXT) (k : Nat) (x : Str) (C : Addr) (qual : Str) (st : Stmt) (dvs : List V) (ps : List Str) (sp : Sp) : Prop where
  ex : ∃ (f : Addr) (fd : FuncData), FunD K "__init__" qual (defArgs st) (defBody st) (defScope st) dvs [] f fd ∧ Mk K C f ∧ mg x = some (.ref C) ∧ FnOk P w K mg base CX k f fd ps sp
/-- a method of a class -/
structure Dm (K : PySem.W.Frag) (C : Addr) (m qual : Str) (st : Stmt) : Prop where
  ex : ∃ (f : Addr) (fd : FuncData), FunD K m qual (defArgs st) (defBody st) (defScope st) [] [] f fd ∧ Meth K C m f ∧ Cls K C
structure Cm (P : Program) (w : World) (K : PySem.W.Frag) (mg : Str → Option Value) (base : Heap) (CX : CXT) (k : Nat) (C : Addr) (m qual : Str) (st : Stmt) (ps : List Str) (sp : Sp) : Prop where
  ex : ∃ (f : Addr) (fd : FuncData), FunD K m qual (defArgs st) (defBody st) (defScope st) [] [] f fd ∧ Meth K C m f ∧ Cls K C ∧ FnOk P w K mg base CX k f fd ps sp
section
variable {P : Program} {w : World} {K : PySem.W.Frag} {mg : Str → Option Value} {base : Heap} {x m qual : Str} {C : Addr} {st : Stmt} {dvs : List V} {N ps : List Str} {k : Nat} {sp : Sp}
theorem ci0 (D : Di K mg x C qual st dvs) (S : FnScope N ps (defScope st)) (len : ∀ vs H Q E, sp vs H Q E → vs.length = ps.length)
    (body : ∀ (f : Addr) (cdv : Value) (A : Around) (outer : List Env) (s : Shared) (H : Hp) (vs : List V) (Q : VK) (E : XK), Room k (A.deeper (envOfC qual (defScope st) s.heap.objs.size f cdv)) → sp vs H Q E →
      ∃ t, PSs (cxOf CX0 P w K mg base N qual (defScope st) f cdv A outer s H E).nox (defBody st) t ∧ t { nx := fun _ H' => Q .non H', rt := Q } (start N vs) H) : Ci P w K mg base CX0 (k + 1) x C qual st dvs ps sp := by
  obtain ⟨f, fd, F, M, hm⟩ := D.ex
  refine ⟨f, fd, F, M, hm, F.ok S len fun cdv A outer s H vs Q E hr h => ?_⟩
  obtain ⟨t, h1, h2⟩ := body f cdv A outer s H vs Q E hr h
  exact ⟨t, h1.nox, h2⟩
theorem ciX (D : Di K mg x C qual st dvs) (S : FnScope N ps (defScope st)) (len : ∀ vs H Q E, sp vs H Q E → vs.length = ps.length)
    (body : ∀ (f : Addr) (cdv : Value) (A : Around) (outer : List Env) (s : Shared) (H : Hp) (vs : List V) (Q : VK) (E : XK), Room k (A.deeper (envOfC qual (defScope st) s.heap.objs.size f cdv)) → sp vs H Q E →
      ∃ t, PSs (cxOf (L2.CX P w) P w K mg base N qual (defScope st) f cdv A outer s H E) (defBody st) t ∧ t { nx := fun _ H' => Q .non H', rt := Q } (start N vs) H) : Ci P w K mg base (L2.CX P w) (k + 1) x C qual st dvs ps sp := by
  obtain ⟨f, fd, F, M, hm⟩ := D.ex
  exact ⟨f, fd, F, M, hm, F.ok S len fun cdv A outer s H vs Q E hr h => body f cdv A outer s H vs Q E hr h⟩
theorem cm0 (D : Dm K C m qual st) (S : FnScope N ps (defScope st)) (len : ∀ vs H Q E, sp vs H Q E → vs.length = ps.length)
    (body : ∀ (f : Addr) (cdv : Value) (A : Around) (outer : List Env) (s : Shared) (H : Hp) (vs : List V) (Q : VK) (E : XK), Room k (A.deeper (envOfC qual (defScope st) s.heap.objs.size f cdv)) → sp vs H Q E →
      ∃ t, PSs (cxOf CX0 P w K mg base N qual (defScope st) f cdv A outer s H E).nox (defBody st) t ∧ t { nx := fun _ H' => Q .non H', rt := Q } (start N vs) H) : Cm P w K mg base CX0 (k + 1) C m qual st ps sp := by
  obtain ⟨f, fd, F, M, hc⟩ := D.ex
  refine ⟨f, fd, F, M, hc, F.ok S len fun cdv A outer s H vs Q E hr h => ?_⟩
  obtain ⟨t, h1, h2⟩ := body f cdv A outer s H vs Q E hr h
  exact ⟨t, h1.nox, h2⟩
end
section
variable {X : Cx} {CX : CXT} {k j n d : Nat} {C : Addr} {x m qual : Str} {st : Stmt} {sp : Sp} {ps ks : List Str} {dvs : List V} {E : XK} {p pos apos : Pos} {e o : Expr} {es : List Expr} {kws : List Keyword} {ta : TE} {t tk : TA}
/-- C(e, ..): n values, then the defaults from the d-th on; n counts self too -/
theorem pe_ci (c : Ci X.prog X.w X.K X.mg X.base CX k x C qual st dvs ps sp) (b : Bd1 "__init__" qual st ps n d dvs.length) (hd : dvs ≠ []) (hn : n + (dvs.length - d) = ps.length) (hr : Room j X.A) (hk : k + 1 ≤ j) (hx : Passes CX X E) (hg : Gl X x) (ha : PA X (e :: es) t)
    (hdb : (x == ("__debug__" : Str)) = false := by decide) (he : starEach (e :: es) X.env = (false, eval e X.env) :: starEach es X.env := by rfl) (hpl : (backTo pos (starEach es X.env)).any (·.1) = false := by rfl) :
    PE X (.Call (.Name x p) (e :: es) [] pos) (tMake C sp (dvs.drop d) E t) := by
  obtain ⟨f, fd, F, M, hm, G⟩ := c.ex
  obtain ⟨ds, r, bb⟩ := F.binds1 n d hd hn b
  exact pe_make M G (hr.mono hk) hg hm bb r hx ha hdb he hpl
/-- o.m(e, ..) -/
theorem pe_cm {pl : Sem Bool} (c : Cm X.prog X.w X.K X.mg X.base CX k C m qual st ps sp) (b : Bd m qual st ps) (hr : Room j X.A) (hk : k ≤ j) (hx : Passes CX X E) (he : PE X o ta) (ha : PA X (e :: es) t)
    (hst : starEach (e :: es) X.env = (false, eval e X.env) :: starEach es X.env := by rfl) (hpl : (backTo pos (starEach es X.env)).any (·.1) = false := by rfl)
    (ht : eval (.Call (.Attribute o m apos) (e :: es) [] pos) X.env = (eval o X.env >>= fun ov => standAt apos.atName >>= fun _ => holding [ov] (getMethod ov m pl) >>= fun q => callWith pos q.1 q.2 (backTo pos (starEach (e :: es) X.env)) (backToKw pos (keywordEach [] X.env))) := by rfl) :
    PE X (.Call (.Attribute o m apos) (e :: es) [] pos) (tMeth C m sp [] E ta t) := by
  obtain ⟨f, fd, F, M, hc, G⟩ := c.ex
  exact pe_meth (pl := pl) he hc M G (hr.mono hk) (F.bindsN b) .nil hx ha hst hpl ht
/-- how keywords bind in a method, or a def, without defaults -/
structure Kbm (x qual : Str) (st : Stmt) (n : Nat) (ks ps : List Str) (g : {α : Type} → List α → List α → List α) : Prop where
  bind : ∀ (kV doc pm : Value) (an : Option Addr) (cdv ct : Value) (us ws : List Value), us.length = n → ws.length = ks.length →
    bindArgs (PySem.W.fnOf x qual (defArgs st) (defBody st) (defScope st) .none kV doc pm an cdv ct) ⟨us, ks.zip ws⟩ = pure (ps.zip (g us ws))
  rel : ∀ {vs zs : List V} {us ws : List Value}, vs.length = n → zs.length = ks.length → Vals vs us → Vals zs ws → Vals (g vs zs) (g us ws)
/-- o.m(k = v, ..) -/
theorem pe_cmK {pl : Sem Bool} {g : {α : Type} → List α → List α → List α} (c : Cm X.prog X.w X.K X.mg X.base CX k C m qual st ps sp) (b : Kbm m qual st 1 ks ps g) (hr : Room j X.A) (hk : k ≤ j) (hx : Passes CX X E) (he : PE X o ta) (hkw : PK X kws tk)
    (hall : (backToKw pos (keywordEach kws X.env)).all (·.1.isSome) = true := by rfl) (hks : (backToKw pos (keywordEach kws X.env)).filterMap (·.1) = ks := by rfl)
    (hpl : ((backTo pos (starEach [] X.env)).any (·.1) || (backToKw pos (keywordEach kws X.env)).any (·.1.isNone)) = false := by rfl)
    (ht : eval (.Call (.Attribute o m apos) [] kws pos) X.env = (eval o X.env >>= fun ov => standAt apos.atName >>= fun _ => holding [ov] (getMethod ov m pl) >>= fun q => callWith pos q.1 q.2 (backTo pos (starEach [] X.env)) (backToKw pos (keywordEach kws X.env))) := by rfl) :
    PE X (.Call (.Attribute o m apos) [] kws pos) (fun σ H Q => ta σ H fun x H1 => ∃ a dx fs, x = .ref a ∧ H1 a = some (.ins C dx fs) ∧ fs.lookup m = none ∧ tk σ H1 fun zs H2 => zs.length = ks.length ∧ sp (g [.ref a] zs) H2 Q E) := by
  obtain ⟨f, fd, F, M, hc, G⟩ := c.ex
  obtain ⟨kV, doc, pm, an, cdv, ct, rfl⟩ := FunD.none F
  refine ⟨fun pins s σ H Q I h => ?_⟩
  refine PySem.W.methodCall_KW (pl := pl) (thn (he.run pins s σ H _ I h) fun u s1 ⟨y, H1, I1, ry, a, dx, fs, ey, ea, l, q⟩ => ?_) ht
  subst ey
  obtain rfl : u = Value.ref a := ry
  refine getmeth_ok I1 ea hc M l ?_
  refine PySem.W.callWith_KW0 (first := [.ref a]) (h₀ := X.base) I.ok.mod.kin M.kp hall ?_ hpl
  refine thn (hkw.run pos pins s1 σ H1 _ I1 q) fun ws s2 ⟨zs, H2, I2, rz, l2, q2⟩ => ⟨I2.kIn, ?_⟩
  rw [hks]
  have r2 : Vals (g [V.ref a] zs) (g [Value.ref a] ws) := b.rel rfl l2 (.cons rfl .nil) rz
  refine wpAny_call (codeAny_mono (G.run X.A X.stack s2 H2 ⟨[.ref a], ks.zip ws⟩ (g [.ref a] ws) (g [.ref a] zs) Q E (hr.mono hk) I2.env0 (.of_eq (b.bind kV doc pm an cdv ct [.ref a] ws rfl (rz.length.symm.trans l2))) r2 q2) fun r s' hq => ?_)
  match r, hq with
  | .error e, hq => exact hx pins σ H2 s2 e s' I2 hq
  | .ok (.ret u), hq => exact I2.after hq
  | .ok .next, hq => exact False.elim hq
  | .ok .brk, hq => exact False.elim hq
  | .ok .cont, hq => exact False.elim hq
end
/-- the keywords take their places: one self, the keywords in the parameters' order -/
def g1 {α : Type} : List α → List α → List α := fun us ws => us ++ ws
theorem g1_rel {n m : Nat} {vs zs : List V} {us ws : List Value} (_ : vs.length = n) (_ : zs.length = m) (h : Vals vs us) (k : Vals zs ws) : Vals (g1 vs zs) (g1 us ws) := h.append k
/-- how C(.., k = v, ..) binds where __init__ has defaults -/
structure Kd (qual : Str) (st : Stmt) (dn n : Nat) (ks ps : List Str) (g : {α : Type} → List α → List α → List α → List α) : Prop where
  bind : ∀ (T : Addr) (kV doc pm : Value) (an : Option Addr) (cdv ct : Value) (us its ws : List Value), us.length = n → its.length = dn → ws.length = ks.length →
    ∃ k, bindArgs (PySem.W.fnOf "__init__" qual (defArgs st) (defBody st) (defScope st) (.ref T) kV doc pm an cdv ct) ⟨us, ks.zip ws⟩ = seqItems? (.ref T) >>= k ∧ k (some its.toArray) = pure (ps.zip (g us its ws))
  rel : ∀ {vs ds zs : List V} {us its ws : List Value}, Vals vs us → Vals ds its → Vals zs ws → Vals (g vs ds zs) (g us its ws)
section
variable {X : Cx} {CX : CXT} {k j n d : Nat} {C : Addr} {x m qual : Str} {st : Stmt} {sp : Sp} {ps ks : List Str} {dvs : List V} {E : XK} {p pos apos : Pos} {e o : Expr} {es : List Expr} {kws : List Keyword} {ta : TE} {t tk : TA}
theorem pe_ciK0 {g : {α : Type} → List α → List α → List α → List α} (c : Ci X.prog X.w X.K X.mg X.base CX k x C qual st dvs ps sp) (b : Kd qual st dvs.length 1 ks ps g) (hd : dvs ≠ []) (hr : Room j X.A) (hk : k + 1 ≤ j) (hx : Passes CX X E) (hg : Gl X x) (hkw : PK X kws tk)
    (hall : (backToKw pos (keywordEach kws X.env)).all (·.1.isSome) = true := by rfl) (hks : (backToKw pos (keywordEach kws X.env)).filterMap (·.1) = ks := by rfl) (hdb : (x == ("__debug__" : Str)) = false := by decide)
    (hpl : ((backTo pos (starEach [] X.env)).any (·.1) || (backToKw pos (keywordEach kws X.env)).any (·.1.isNone)) = false := by rfl) :
    PE X (.Call (.Name x p) [] kws pos) (tMakeK C 0 ks.length sp (fun vs zs => g vs dvs zs) E tNil tk) := by
  obtain ⟨f, fd, F, M, hm, G⟩ := c.ex
  obtain ⟨its, hb⟩ := F.kbindsD 1 ks g hd b.rel b.bind
  exact pe_makeK0 M G (hr.mono hk) hg hm hb hx hkw hall hks hdb hpl
theorem pe_ciK {g : {α : Type} → List α → List α → List α → List α} (c : Ci X.prog X.w X.K X.mg X.base CX k x C qual st dvs ps sp) (b : Kd qual st dvs.length (n + 1) ks ps g) (hd : dvs ≠ []) (hr : Room j X.A) (hk : k + 1 ≤ j) (hx : Passes CX X E) (hg : Gl X x) (ha : PA X (e :: es) t) (hkw : PK X kws tk)
    (hall : (backToKw pos (keywordEach kws X.env)).all (·.1.isSome) = true := by rfl) (hks : (backToKw pos (keywordEach kws X.env)).filterMap (·.1) = ks := by rfl) (hdb : (x == ("__debug__" : Str)) = false := by decide)
    (he : starEach (e :: es) X.env = (false, eval e X.env) :: starEach es X.env := by rfl) (hpl : ((backTo pos (starEach (e :: es) X.env)).any (·.1) || (backToKw pos (keywordEach kws X.env)).any (·.1.isNone)) = false := by rfl) :
    PE X (.Call (.Name x p) (e :: es) kws pos) (tMakeK C n ks.length sp (fun vs zs => g vs dvs zs) E t tk) := by
  obtain ⟨f, fd, F, M, hm, G⟩ := c.ex
  obtain ⟨its, hb⟩ := F.kbindsD (n + 1) ks g hd b.rel b.bind
  exact pe_makeK M G (hr.mono hk) hg hm hb hx ha hkw hall hks hdb he hpl
end
end MM
namespace MM
open PySem PySem.Spec PyProof.Rows L2
/-! ### range(a, b) of numbers of any size -/
theorem turn_long {P : Program} {w : World} {K : PySem.W.Frag} {tg : Expr} (it : Addr) (lo : Int) (n : Nat) : Turn P w K tg (Itr lo n) [it] it (fun i h => IsLongIter h it (lo + (i : Nat) * 1) ((n : Int) - (i : Nat)) 1) := by
  refine { mem := List.mem_singleton.mpr rfl, obj := fun i h st b hb => ?_, keep := fun i h h' st k => k it (List.mem_singleton.mpr rfl) _ st, item := ?_, done := ?_, self := fun _ _ _ _ _ st h => wpAny_pyIter_longiter st h }
  · cases List.mem_singleton.mp hb
    exact ⟨_, st, fun v z => nomatch (show Data.fields _ = Data.cell v from z)⟩
  · intro X hP hw hK hc i pins s σ H E I hf st hg
    subst hP; subst hw; subst hK
    obtain ⟨f0, f1, f2, f3, f4, f5⟩ := hf it (List.mem_singleton.mpr rfl)
    refine (Walks.longrange (prog := X.prog) (w := X.w) (I.ok.hd hc) it lo 1 n).item i s _ _ hg st fun v h' tk hv st' kk => ?_
    obtain ⟨t, rfl⟩ := hv
    have J : Inv X pins σ H { s with heap := h', toks := tk } := I.turned (fun b o hb e => kk b o (fun z => hb (List.mem_singleton.mp z)) e) f0 f1 f3 f4 f5
    refine ⟨_, rfl, go_of (s := { s with heap := h', toks := tk }) (n := "longrange_iterator") st' rfl rfl (by decide) ⟨.int (lo + i), H, J, ⟨t, ?_⟩, ⟨rfl, rfl⟩, st', fun b hb => (hf b hb).1⟩⟩
    rw [Int.mul_one]
  · intro X hP hw hK hc i pins s σ H E I hf st hg
    subst hP; subst hw; subst hK
    obtain ⟨f0, f1, f2, f3, f4, f5⟩ := hf it (List.mem_singleton.mpr rfl)
    have hl : n ≤ i := hg
    exact wpAny_pyNext_long_end (I.ok.hd hc) st (by omega) fun h' eb => ⟨rfl, I.turned (t' := s.toks) (fun b o hb e => eb b o hb e) f0 f1 f3 f4 f5⟩
section
variable {X : Cx} {tg : Expr}
theorem long_it {pins : List (Addr × Obj)} {σ : L2.St} {H : Hp} {s : Shared} {R : It → Hp → Prop} {E : Value → Shared → Prop} {lo hi : Int} {t u v : Tok} {tk : Nat} (I : Inv X pins σ H s) (q : R (Itr lo (hi - lo).toNat) H) :
    wpAny (model X.prog X.w) X.A (pyIter (.ref s.heap.objs.size)) (PIE X pins σ tg R) E { s with heap := s.heap.push { cls := .type "range", data := .fields #[.int lo t, .int hi u, .int 1 v] }, toks := tk } := by
  have J : Inv X pins σ H { s with heap := s.heap.push { cls := .type "range", data := .fields #[.int lo t, .int hi u, .int 1 v] }, toks := tk } := I.kept fun b o e => Heap.get?_push_of_some _ e
  have e0 : lo + ((0 : Nat) : Int) * 1 = lo := by simp
  have e1 : (((hi - lo).toNat : Nat) : Int) - ((0 : Nat) : Int) = Builtin.Range.rangeSize lo hi 1 := by
    rw [rangeSize_one]
    split <;> omega
  cases hsm : Builtin.Range.small lo hi 1 with
  | true =>
    refine wpAny_pyIter_range (IsRange.new ..) hsm ⟨_, [_], _, _, H, rfl, J.kept (t' := tk) fun b o e => Heap.get?_push_of_some _ e, turn_range _ lo (hi - lo).toNat, ?_, fun b hb => ?_, q⟩
    · show IsRangeIter _ _ (lo + ((0 : Nat) : Int) * 1) ((((hi - lo).toNat : Nat) : Int) - ((0 : Nat) : Int)) 1
      rw [e0, e1]
      exact Heap.get?_push_size _ rfl
    · cases List.mem_singleton.mp hb
      exact J.fpOk (Nat.le_refl _) (J.hok.fresh (Nat.le_refl _))
  | false =>
    refine wpAny_pyIter_longrange (IsRange.new ..) hsm ⟨_, [_], _, _, H, rfl, J.kept (t' := tk) fun b o e => Heap.get?_push_of_some _ e, turn_long _ lo (hi - lo).toNat, ?_, fun b hb => ?_, q⟩
    · show IsLongIter _ _ (lo + ((0 : Nat) : Int) * 1) ((((hi - lo).toNat : Nat) : Int) - ((0 : Nat) : Int)) 1
      rw [e0, e1]
      exact Heap.get?_push_size _ rfl
    · cases List.mem_singleton.mp hb
      exact J.fpOk (Nat.le_refl _) (J.hok.fresh (Nat.le_refl _))
def iRngA (ta : TA) : TI := fun σ H R => ta σ H fun vs H1 => ∃ i j : Int, vs = [.int i, .int j] ∧ R (Itr i (j - i).toNat) H1
theorem pi_rangeA {a b : Expr} {ta : TA} {p pos : Pos} (hg : Gl X "range") (hm : X.mg "range" = none) (ha : PA X [a, b] ta) (hs : starEach [a, b] X.env = [(false, eval a X.env), (false, eval b X.env)] := by rfl) (hs2 : starEach [b] X.env = [(false, eval b X.env)] := by rfl) :
    PI X tg (.Call (.Name "range" p) [a, b] [] pos) (iRngA ta) := by
  refine ⟨fun pins s σ H R I h => Call_ (ld_blt I hg hm boot_range (PyProof.Rows.callWith_type1 (thn (ha.run pos pins s σ H _ I h) fun us s1 ⟨vs, H1, I1, r1, q1⟩ => ?_) (by rw [hs, hs2]) (by rw [hs2]; rfl)))⟩
  obtain ⟨i, j, e, q⟩ := q1
  subst e
  obtain ⟨u1, u2, rfl, ⟨t, rfl⟩, ⟨t', rfl⟩⟩ := vals2 r1
  exact call_range_2 (long_it I1 q)
end
end MM
namespace MM
open PySem PySem.Spec PyProof.Rows L2
section
variable {K : PySem.W.Frag} {h : Heap} {mg : Str → Option Value} {x m qual : Str} {st : Stmt} {f C T : Addr} {oc kV doc pm cdv ct cT : Value} {od an dT : Option Addr} {osl sT : Array (Option Value)} {nT : Nat}
theorem df_mk (X : K.In h) (G : h.Ns mainGlobals mg) (a : PySem.W.nsIn K mainGlobals x = some (some (.ref f))) (l : K.lookup f = some ⟨oc, od, .func (PySem.W.fnOf x x (defArgs st) (defBody st) (defScope st) .none kV doc pm an cdv ct), osl⟩)
    (c : PySem.W.codeIn K cdv x = true) (k : PySem.W.keepIn K (.ref f) = true) : Df K mg x st [] :=
  ⟨f, _, ⟨⟨oc, od, .none, kV, doc, pm, an, cdv, ct, osl, rfl, l, c, .inl ⟨rfl, rfl⟩, .inl rfl⟩, k⟩, PySem.W.mg_of X G a⟩
theorem dm_mk (cl : Cls K C) (a : PySem.W.findIn K (.ref C) m = some (some (.ref f))) (i : PySem.W.isFn K (.ref f) = true) (l : K.lookup f = some ⟨oc, od, .func (PySem.W.fnOf m qual (defArgs st) (defBody st) (defScope st) .none kV doc pm an cdv ct), osl⟩)
    (c : PySem.W.codeIn K cdv qual = true) (k : PySem.W.keepIn K (.ref f) = true) : Dm K C m qual st :=
  ⟨f, _, ⟨⟨oc, od, .none, kV, doc, pm, an, cdv, ct, osl, rfl, l, c, .inl ⟨rfl, rfl⟩, .inl rfl⟩, k⟩, ⟨a, i, k⟩, cl⟩
theorem di_mk {its : List Value} {dvs : List V} (hC : mg x = some (.ref C)) (a : PySem.W.findIn K (.ref C) "__init__" = some (some (.ref f))) (i : PySem.W.isFn K (.ref f) = true)
    (l : K.lookup f = some ⟨oc, od, .func (PySem.W.fnOf "__init__" qual (defArgs st) (defBody st) (defScope st) (.ref T) kV doc pm an cdv ct), osl⟩) (c : PySem.W.codeIn K cdv qual = true) (k : PySem.W.keepIn K (.ref f) = true)
    (mk : PySem.W.makesIn K C = true) (kc : PySem.W.keepIn K (.ref C) = true) {oT : Obj} (lT : K.lookup T = some oT) (eT : oT.data = .seq its.toArray nT) (r : Vals dvs its) (ne : dvs ≠ []) : Di K mg x C qual st dvs :=
  ⟨f, _, ⟨⟨oc, od, .ref T, kV, doc, pm, an, cdv, ct, osl, rfl, l, c, .inr ⟨ne, T, _, its, nT, rfl, lT, eT, r⟩, .inl rfl⟩, k⟩, ⟨mk, a, i, kc⟩, hC⟩
theorem kit_no {t : Value} (iC : PySem.W.isClsIn K C = true) (tC : PySem.W.typeIn K (.ref C) = some (.type "type")) (ht : (t == Value.ref C) = false) (sI : PySem.W.subIn K t (.ref C) = some false) : PySem.W.kitOne K t (.ref C) = some false := by
  unfold PySem.W.kitOne PySem.W.kitCls
  have iC' : (PySem.W.clsIn K C).isSome = true := iC
  rw [ht, if_neg Bool.false_ne_true]
  show (if ((PySem.W.clsIn K C).isSome && PySem.W.typeIn K (.ref C) == some (.type "type")) = true then PySem.W.subIn K t (.ref C) else none) = some false
  rw [iC', tC, if_pos (by simp)]
  exact sI
theorem fund_inj {params : Arguments} {body : List Stmt} {scope : Scope} {dvs : List V} {kws : List (Str × V)} {fd fd' : FuncData} (F : FunD K x qual params body scope dvs kws f fd) (F' : FunD K x qual params body scope dvs kws f fd') : fd = fd' := by
  obtain ⟨oc, od, dV, kV, doc, pm, an, cdv, ct, osl, e, lk, _⟩ := F.ex
  obtain ⟨oc', od', dV', kV', doc', pm', an', cdv', ct', osl', e', lk', _⟩ := F'.ex
  rw [lk] at lk'
  injection lk' with z
  injection z with z1 z2 z3 z4
  injection z3
end
/-- from the law's promise to what the end of the walk asks -/
theorem fin_of {P : Program} {w : World} {K : PySem.W.Frag} {mg : Str → Option Value} {st : Stmt} {k : Nat} {x : Str} {sp : Sp} {fa : Addr} (hfa : mg "law" = some (.ref fa)) (D : Df K mg "law" st []) (b : Bd "law" "law" st [x])
    (h : ∀ base : Heap, Ca P w K mg base CX0 k "law" st [] [x] sp) :
    ∃ fd : FuncData, (∀ (s : Shared) (u : Value), BindsTo s fd ⟨[u], []⟩ [(x, u)]) ∧ ∀ base : Heap, K.In base → base.Ns mainGlobals mg → FnOk P w K mg base CX0 k fa fd [x] sp := by
  obtain ⟨f, fd, F, hm⟩ := D.ex
  have e := hfa.symm.trans hm
  cases e
  refine ⟨fd, fun s u => ?_, fun base _ _ => ?_⟩
  · obtain ⟨kV, doc, pm, an, cdv, ct, rfl⟩ := FunD.none F
    exact .of_eq (b kV doc pm an cdv ct [u] rfl)
  · obtain ⟨f', fd', F', hm', G⟩ := (h base).ex
    have e' := hm.symm.trans hm'
    cases e'
    have e2 := fund_inj F F'
    subst e2
    exact G
end MM
namespace MM
open PySem PySem.Spec PyProof.Rows L2
/-! ### an except clause with a tuple of classes -/
theorem for_true {M : Model} {A : Around} {E : Value → Shared → Prop} {s : Shared} {Q : PUnit → Shared → Prop} {f : Value → PUnit → Sem (ForInStep PUnit)} : ∀ (cs : List Value),
    (∀ c ∈ cs, ∀ Q' : ForInStep PUnit → Shared → Prop, Q' (.yield .unit) s → wpAny M A (f c .unit) Q' E s) → Q .unit s → wpAny M A (forIn cs PUnit.unit f) Q E s
  | [], _, q => by
    rw [List.forIn_nil]
    exact wpAny_pure q
  | c :: cs, h, q => by
    rw [List.forIn_cons]
    exact wpAny_bind (h c List.mem_cons_self _ (for_true cs (fun d hd => h d (List.mem_cons_of_mem _ hd)) q))
theorem for_first {M : Model} {A : Around} {E : Value → Shared → Prop} {s : Shared} {Q : Option Bool × Unit → Shared → Prop} {f : Value → Option Bool × Unit → Sem (ForInStep (Option Bool × Unit))} {B : Value → Bool} : ∀ (cs : List Value),
    (∀ c ∈ cs, ∀ Q' : ForInStep (Option Bool × Unit) → Shared → Prop, Q' (if B c then .done (some true, ()) else .yield (none, ())) s → wpAny M A (f c (none, ())) Q' E s) →
    Q (if cs.any B then (some true, ()) else (none, ())) s → wpAny M A (forIn cs ((none, ()) : Option Bool × Unit) f) Q E s
  | [], _, q => by
    rw [List.forIn_nil]
    exact wpAny_pure q
  | c :: cs, h, q => by
    rw [List.forIn_cons]
    refine wpAny_bind (h c List.mem_cons_self _ ?_)
    cases hb : B c with
    | true =>
      rw [List.any_cons, hb, Bool.true_or] at q
      exact wpAny_pure q
    | false =>
      rw [List.any_cons, hb, Bool.false_or] at q
      exact for_first cs (fun d hd => h d (List.mem_cons_of_mem _ hd)) q
theorem exm_tups {M : Model} {K : PySem.W.Frag} {cls : Value} {cs : List Value} {tp e : Addr} {h : Heap} {o : Obj} {n : Nat} {B : Value → Bool} (X : K.In h) (LT : PySem.W.Looks M h (typeOf (.ref e)) cls) (hp : h.get? tp = some o) (hc : o.cls = .type "tuple") (hd : o.data = .seq cs.toArray n)
    (hx : ∀ c ∈ cs, PySem.W.exmOne K cls c = some (B c)) : PySem.W.Looks M h (excMatches (.ref e) (.ref tp)) (cs.any B) := by
  intro A Q E s k q
  have LT0 : PySem.W.Looks M h (isInstance (.ref tp) (.type "tuple")) true := by
    refine PySem.W.Looks.andThen (a := .type "tuple") (fun A Q E s k q => wpAny_typeOf_ref (k _ _ hp) (by rw [hc]; exact q)) (PySem.W.Looks.of_pure isSubtype_tuple_tuple)
  unfold excMatches
  refine wpAny_bind ((LT0.keeps k).here ?_)
  dsimp only
  rw [if_pos rfl]
  refine wpAny_bind (wpAny_seqItems (k _ _ hp) hd (wpAny_bind (wpAny_pure ?_)))
  show wpAny M A (forIn cs PUnit.unit _ >>= _) _ _ _
  refine wpAny_bind (for_true cs (fun c hcm Q' q' => ?_) ?_)
  · refine wpAny_bind (((PySem.W.exm_cls (M := M) X (hx c hcm)).1.keeps k).here ?_)
    rw [if_neg (by decide)]
    exact wpAny_pure q'
  · refine wpAny_bind ((LT.keeps k).here (wpAny_bind (for_first (B := B) cs (fun c hcm Q' q' => ?_) ?_)))
    · refine wpAny_bind (((PySem.W.exm_cls (M := M) X (hx c hcm)).2.keeps k).here ?_)
      cases hb : B c with
      | true =>
        rw [hb] at q'
        rw [if_pos rfl]
        exact wpAny_pure q'
      | false =>
        rw [hb] at q'
        rw [if_neg (by decide)]
        exact wpAny_pure q'
    · cases hb : cs.any B with
      | true =>
        rw [hb] at q
        exact wpAny_pure q
      | false =>
        rw [hb] at q
        exact wpAny_pure q
/-! ### a caught exception that is kept -/
/-- at a: an exception of the class cls, its own dict at d -/
def KX (a : Addr) (cls : Value) (d : Option Addr) : HO := .ext fun h => ∃ (oe : Obj) (vs : Array Value), h.get? a = some oe ∧ Zc cls d oe ∧ oe.data = .fields vs
theorem kx_ok {P : Program} {w : World} {H : Hp} {h : Heap} {a : Addr} {cls : Value} {d : Option Addr} {oe : Obj} {vs : Array Value} (e : h.get? a = some oe) (z : Zc cls d oe) (hd : oe.data = .fields vs) : ObjOk P w H h a (KX a cls d) :=
  ⟨⟨oe, vs, e, z, hd⟩, ⟨oe, e⟩, fun h1 h2 ⟨o, v, e1, z1, d1⟩ k => ⟨o, v, k _ e1, z1, d1⟩⟩
section
variable {X : Cx} {pins : List (Addr × Obj)} {σ : L2.St} {H : Hp} {s : Shared} {a : Addr} {oe : Obj} {vs : Array Value} {cls : Value} {d : Option Addr}
theorem Inv.track (I : Inv X pins σ H s) (ha : s.heap.get? a = some oe) (hz : Zc cls d oe) (hd : oe.data = .fields vs) (na : H a = none) (n0 : X.s_0.heap.get? a = none) (nL : a ≠ X.env.locals) (nC : ∀ x c, X.env.cells.lookup x = some c → c ≠ a)
    (nP : ∀ p ∈ X.pn ++ pins, p.1 ≠ a) : Inv X pins σ (L2.upd H a (KX a cls d)) s := by
  have neA : ∀ {b : Addr} {o : HO}, H b = some o → b ≠ a := fun e => ne_of_none e na
  have ne0 : ∀ {b : Addr} {o : Obj}, X.s_0.heap.get? b = some o → b ≠ a := fun e z => by
    rw [z, n0] at e
    cases e
  refine ⟨I.ok, I.os, I.bare, ⟨I.base.keep, I.base.slot, fun b o e n hx => ?_, I.base.there, fun b xs e => ?_, fun b o u e => ?_, fun b ps e => ?_⟩, I.loc, I.cell, ?_, fun x c e => ?_, fun p hp => ?_, fun b u e => ?_, I.len⟩
  · rw [upd_ne (ne0 e)]
    exact I.base.free b o e n hx
  · have q := I.base.tups b xs e
    rw [upd_ne (neA q)]
    exact q
  · have q := I.base.frzs b o u e
    rw [upd_ne (neA q)]
    exact q
  · obtain ⟨m, q⟩ := I.base.tbls b ps e
    exact ⟨m, by rw [upd_ne (neA q)]; exact q⟩
  · rw [upd_ne nL.symm]
    exact I.free
  · rw [upd_ne (nC x c e)]
    exact I.freeC x c e
  · obtain ⟨q1, q2, q3⟩ := I.pin p hp
    exact ⟨q1, by rw [upd_ne (nP p hp)]; exact q2, q3⟩
  · by_cases hb : b = a
    · subst hb
      rw [upd_same] at e
      cases e
      exact kx_ok ha hz hd
    · rw [upd_ne hb] at e
      exact (I.hok b u e).stay (fun c v _ q => q) (fun c q => by rw [upd_ne (neA q)]; exact q) fun c xs q => by rw [upd_ne (neA q)]; exact q
end
theorem flying_more {B h h' : Heap} {l : List Env} {e : Addr} {Z : Obj → Prop} (x : HandSPX.FlyingZ B l e Z h) (k : ∀ b o, h.get? b = some o → h'.get? b = some o) : HandSPX.FlyingZ B l e Z h' := by
  obtain ⟨f1, f2, f3, oe, vs, T, oT, ts, he, hz, hd, h1, hnT, hTe, hT, hdT, h3⟩ := x
  exact ⟨fun b o q => k b o (f1 b o q), f2, f3.of_keeps fun b o hb _ => ⟨o, k b o hb, rfl⟩, oe, vs, T, oT, ts, k _ _ he, hz, hd, h1, hnT, hTe, k _ _ hT, hdT, h3⟩
/-- the names of a tuple of classes -/
inductive Nms (X : Cx) : List Expr → List Value → Prop
  | nil : Nms X [] []
  | cons {x : Str} {p : Pos} {c : Value} {es : List Expr} {cs : List Value} (g : Gl X x) (d : (x == ("__debug__" : Str)) = false) (m : X.mg x = some c) (r : Nms X es cs) : Nms X (.Name x p :: es) (c :: cs)
/-- what try .. except (..) as n: m = n wishes of an exception of the body: i is n's slot, j m's -/
def wKeep (K : PySem.W.Frag) (cs : List Value) (i j : Nat) (D : Ends) : WX := fun cls d σ H =>
  (∃ B : Value → Bool, (∀ c ∈ cs, PySem.W.exmOne K cls c = some (B c)) ∧ cs.any B = true) ∧ ∀ a, H a = none → D.nx (((σ.set i (some (.ref a))).set j (some (.ref a))).set i none) (L2.upd H a (KX a cls d))
section
variable {X : Cx} {cs : List Value} {es : List Expr} {n m : Str} {i j : Nat} {body : List Stmt} {kt : Nat} {tpos np mp apos pos pos' : Pos} {tb : WX → TS}
theorem nms_run {Y : Cx} {pins : List (Addr × Obj)} {σ : L2.St} {H : Hp} {s : Shared} (I : Inv Y pins σ H s) {es : List Expr} {cs : List Value} (h : Nms Y es cs) : ∀ {Q : List Value → Shared → Prop} {E : Value → Shared → Prop} {pos : Pos}, Q cs s →
    wpAny (model Y.prog Y.w) Y.A (spliced (backTo pos (starEach es Y.env))) Q E s := by
  induction h with
  | nil => exact fun q => wpAny_items_nil q
  | cons g d m r ih => exact fun q => wpAny_items_cons (ld_glob I g m (ih q) d)
theorem Nms.to {X Y : Cx} (he : Y.env = X.env) (hm : Y.mg = X.mg) {es : List Expr} {cs : List Value} (h : Nms X es cs) : Nms Y es cs := by
  induction h with
  | nil => exact .nil
  | cons g d m r ih => exact .cons (by unfold Gl; rw [he]; exact g) d (by rw [hm]; exact m) ih
/-- try: body / except (..) as n: m = n; nothing else leaves the body -/
theorem ps_try_keep (hs : X.stack = X.env :: X.outer) (hf : X.env.frame = some X.env.locals) (hex : X.ex = []) (hN : X.N.Nodup) (hi : X.N[i]? = some n) (hln : X.env.kindOf n = some .local) (hj : X.N[j]? = some m) (hlm : X.env.kindOf m = some .local) (hc : Nms X es cs) (hz : cs.length ≤ 100)
    (hdb : (n == ("__debug__" : Str)) = false := by decide) (hcd : (n == ("__classdict__" : Str)) = false := by decide)
    (hb : ∀ (W : WX) (pn : List (Addr × Obj)) (xe : Value → Shared → Prop), Takes (X.tr pn xe) W → PassesOwn (model X.prog X.w) X.A X.env xe → PSs (X.tr pn xe) body (tb W))
    (hsw : swapsWith (.Name n np) (some (.Name m mp)) apos.line X.env = pure false := by rfl) :
    PS X (.Try body [.ExceptHandler (some (.Tuple es kt tpos)) (some n) [.Assign [.Name m mp] (.Name n np) apos] pos'] [] [] pos) (fun D σ H => tb (wKeep X.K cs i j D) D σ H) := by
  refine ⟨fun pins s σ H D I h => ?_⟩
  have ok := I.ok
  have hfr : X.A.frames = some (X.env :: X.outer) := by rw [ok.frames, hs]
  refine wpAny_Try_except ?_
  refine wpAny_mono ((hb (wKeep X.K cs i j D) (X.pn ++ pins) (fun e s₁ => wpAny (model X.prog X.w) X.A (noteFrame e X.env) (fun _ s₂ => wpAny (model X.prog X.w) X.A (setFlight e none) (fun _ s₃ =>
    wpAny (model X.prog X.w) X.A (handleBy e X.env [.ExceptHandler (some (.Tuple es kt tpos)) (some n) [.Assign [.Name m mp] (.Name n np) apos] pos']) (SP X pins D) X.xe s₃) X.xe s₂) X.xe s₁) (fun u s' xx => ?_) PassesOwn.looking).run [] s σ H D (I.toTry _) h) (fun f s1 hsp => ?_) (fun e s1 he => he)
  · obtain ⟨a, B, sI, pins', σ', H', cls, d, rfl, J', nb, up, sky, na, os, ag, ⟨Bc, hB, hany⟩, wish⟩ := xx
    have J : Inv X pins σ' H' sI := J'.ofTry ok
    have sky' : Sky B (X.env :: X.outer) a (Zc cls d) X.env.locals s'.heap := by rw [← hs]; exact sky
    show wpAny (model X.prog X.w) X.A (noteFrame (.ref a) X.env) _ _ _
    refine Sky.land Zc.steady hfr hf sky' fun h3 fl3 up3 => ?_
    have J3 : Inv X pins σ' H' { s' with heap := h3 } := J.landed nb fl3.1 (up.trans up3) os ag
    obtain ⟨oe3, vs3, he3, hz3, hd3⟩ := fl3.there
    have nfr : a ∉ frs (X.env :: X.outer) := fun hm => by
      obtain ⟨_, o', e', hnf⟩ := fl3.2.2.1.mem hm
      rw [he3] at e'
      cases e'
      exact hnf _ hd3
    have nL : a ≠ X.env.locals := fun z => nfr (List.mem_filterMap.mpr ⟨X.env, List.mem_cons_self, by rw [hf, z]⟩)
    have nF : a ∉ X.fs := fun hm => by
      obtain ⟨e, he, q⟩ := List.mem_filterMap.mp hm
      exact nfr (List.mem_filterMap.mpr ⟨e, List.mem_cons_of_mem _ he, q⟩)
    have nI : sI.heap.get? a = none := by
      cases q : sI.heap.get? a with
      | none => rfl
      | some o =>
        have z := nb a o q (by rw [hs]; exact nfr)
        rw [fl3.2.1] at z
        cases z
    have n0 : X.s_0.heap.get? a = none := by
      cases q : X.s_0.heap.get? a with
      | none => rfl
      | some o =>
        obtain ⟨o', z⟩ := J.base.there a o q (by rw [hex]; exact fun y => nomatch y)
        rw [nI] at z
        cases z
    have nC : ∀ x c, X.env.cells.lookup x = some c → c ≠ a := fun x c e z => by
      obtain ⟨v, o, ho, _⟩ := J.cell x c e
      rw [z, nI] at ho
      cases ho
    have nP : ∀ p ∈ X.pn ++ pins, p.1 ≠ a := fun p hp z => by
      have q := (J.pin p hp).1
      rw [z, nI] at q
      cases q
    have S3 := J3.suite he3 hd3 na nL nF
    refine wpAny_handleBy_cons (codeAny_handlers_test ?_) (by intro q; cases q)
    refine wpAny_Tuple (nms_run (Y := X.suite a ((a, oe3) :: (X.pn ++ pins))) S3 (Nms.to (X := X) (Y := X.suite a ((a, oe3) :: (X.pn ++ pins))) rfl rfl hc) ⟨Nat.le_trans hz (by decide), ?_⟩)
    have kp : ∀ b o, h3.get? b = some o → (h3.push { cls := .type "tuple", data := .seq cs.toArray }).get? b = some o := fun b o e => Heap.get?_push_of_some _ e
    have LT : PySem.W.Looks (model X.prog X.w) (h3.push { cls := .type "tuple", data := .seq cs.toArray }) (typeOf (.ref a)) cls := fun A Q E s k q => wpAny_typeOf_ref (k _ _ (kp _ _ he3)) (by rw [hz3.1]; exact q)
    have LM := exm_tups (M := model X.prog X.w) (J3.kIn.keeps kp) LT (Heap.get?_push_size h3 rfl) rfl rfl hB
    rw [hany] at LM
    refine LM.here ?_
    refine codeAny_handlers_suite_as ?_
    have fl3' := flying_more fl3 kp
    refine HandSPX.lands_againZ fl3' fun h4 fl4 up4 => ?_
    have upp : h3.UpToSlots (h3.push { cls := .type "tuple", data := .seq cs.toArray }) := fun b o hb _ => ⟨o.slots, kp b o hb⟩
    have J4 : Inv X pins σ' H' { s' with heap := h4 } := J.landed nb fl4.1 (((up.trans up3).trans upp).trans up4) os ag
    obtain ⟨oe4, vs4, he4, hz4, hd4⟩ := fl4.there
    have S4 := J4.suite he4 hd4 na nL nF
    refine store_ok (X := X.suite a ((a, oe4) :: (X.pn ++ pins))) (v := .ref a) S4 hN hi (.inl hln) rfl (fun s5 S5 => ?_) (.inr hln)
    have rd : PSs (X.suite a ((a, oe4) :: (X.pn ++ pins))) [.Assign [.Name m mp] (.Name n np) apos] (tAsg (tVar i) (gName j)) := pss_one (ps_set hN hj (.inl hlm) (pe_var hi (.inl hln) hdb hcd) hsw (.inr hlm))
    refine wpAny_mono (rd.run [] s5 _ H' { nx := fun σ6 H6 => σ6 = (σ'.set i (some (.ref a))).set j (some (.ref a)) ∧ H6 = H', rt := fun _ _ => False } S5 ⟨_, ?_, rfl, rfl⟩) (fun f s6 hsp => ?_) (fun _ _ z => False.elim z)
    · exact List.getElem?_set_self (by rw [J.len]; exact (List.getElem?_eq_some_iff.mp hi).1)
    · cases f with
      | next =>
        obtain ⟨σ6, H6, S6, rfl, rfl⟩ := hsp
        obtain ⟨p1, p2, _⟩ := S6.pin (a, oe4) (List.mem_append_left _ List.mem_cons_self)
        have J6 := Inv.track (S6.unsuite ok) p1 hz4 hd4 na n0 nL nC nP
        exact gone_ok J6 hN hi hln fun s7 J7 => ⟨_, _, J7, wish a na⟩
      | brk =>
        obtain ⟨_, _, _, z⟩ := hsp
        exact z.elim
      | cont =>
        obtain ⟨_, _, _, z⟩ := hsp
        exact z.elim
      | ret u =>
        obtain ⟨_, _, _, _, _, z⟩ := hsp
        exact z.elim
  · cases f with
    | next =>
      obtain ⟨σ1, H1, J1, q⟩ := hsp
      exact wpAny_execs_nil ⟨σ1, H1, J1.ofTry ok, q⟩
    | brk =>
      obtain ⟨σ1, H1, J1, q⟩ := hsp
      exact ⟨σ1, H1, J1.ofTry ok, q⟩
    | cont =>
      obtain ⟨σ1, H1, J1, q⟩ := hsp
      exact ⟨σ1, H1, J1.ofTry ok, q⟩
    | ret u =>
      obtain ⟨v1, σ1, H1, J1, r1, q⟩ := hsp
      exact ⟨v1, σ1, H1, J1.ofTry ok, r1, q⟩
end
end MM
namespace MM
open PySem PySem.Spec PySem.Calls PyProof.Rows L2
/-! ### a kept exception is asked for its class -/
/-- what the class D says, so that its instances may be asked -/
structure XcF (K : PySem.W.Frag) (D : Addr) : Prop where
  ga : PySem.W.findIn K (.ref D) "__getattribute__" = some (some (.builtin "BaseException.__getattribute__"))
  gg : PySem.W.findIn K (.ref D) "__getattr__" = some none
  sub : PySem.W.subIn K (.ref D) (.type "BaseException") = some true
  hd : PySem.W.hasDictIn K D = true
  ca : PySem.W.findIn K (.ref D) "__class__" = some (some (.builtin "object.__class__"))
  gn : PySem.W.specialIn K (.builtin "object.__class__") "__get__" = some (some (.builtin "getset_descriptor.__get__"))
  tk : PySem.W.takesIn K (.builtin "object.__class__") = some true
  mo : PySem.W.mroIn K D (.type "object") = some true
section
open PySem.W
variable {prog : Program} {w : World} {A : Around} {E : Value → Shared → Prop} {s : Shared} {K : Frag} {x D : Addr} {ox : Obj} {od : Option Obj}
theorem found_class (C : XcF K D) : findObj K D od "__class__" = some (.bind (.builtin "getset_descriptor.__get__") (.builtin "object.__class__")) := by
  obtain ⟨cd, hc, _⟩ := any_some C.hd
  unfold findObj
  rw [hc, Option.bind_some, C.ca, Option.bind_some]
  simp [C.gn, C.tk]
theorem class_exc {Q : Option Value → Shared → Prop} (C : XcF K D) (X : K.In s.heap) (I : InstAt s.heap x ox D od) (h : Q (some (.ref D)) { s with toks := s.toks + 1 }) : wpAny (model prog w) A (getAttr? (.ref x) "__class__") Q E s := by
  obtain ⟨hp, g, d, t, os⟩ := s
  have l0 := I.type (M := model prog w)
  have l1 := looks_findIn (M := model prog w) X C.ga
  have l2 := looks_findIn (M := model prog w) X C.gg
  have l3 := looks_find (M := model prog w) X I (found_class C)
  have isB : Looks (model prog w) hp (isInstance (.ref x) (.type "BaseException")) true := l0.andThen (looks_subIn X C.sub)
  have n2 : (Value.builtin "BaseException.__getattribute__" == Value.builtin "object.__getattribute__") = false := by decide +kernel
  unfold getAttr? getAttrBy? getAttrBy
  refine wpAny_bind (wpAny_mkText (wpAny_bind (wpAny_attempt (wpAny_holding (wpAny_bind (l0.at (wpAny_bind (l1.at (?_ : wpAny _ _ (if (onTheHeap (Value.ref D) && Value.builtin "BaseException.__getattribute__" == Value.builtin "object.__getattribute__") = true then _ else _) _ _ _)))))))))
  rw [show (onTheHeap (Value.ref D) && Value.builtin "BaseException.__getattribute__" == Value.builtin "object.__getattribute__") = false by rw [n2]; rfl, if_neg Bool.false_ne_true]
  unfold getAttrByItsOwn hookBefore
  refine wpAny_bind ?_
  rw [if_pos (show onTheHeap (Value.ref D) = true from rfl)]
  refine l2.at (wpAny_bind (wpAny_attempt (wpAny_holding ?_)))
  unfold callGetattribute
  rw [show (false && onTheHeap (Value.builtin "BaseException.__getattribute__")) = false from rfl, if_neg Bool.false_ne_true]
  unfold boundAndCalled
  rw [PySem.F.excAttr_ValueError.ga.bind (.ref x)]
  refine wpAny_bind (wpAny_pure (?_ : wpAny _ _ (call (.builtin "BaseException.__getattribute__") [.ref x, .str "__class__" t]) _ _ _))
  refine wpAny_call (codeAny_call_builtin PySem.F.excAttr_ValueError.ga.plain PySem.F.entry_bexc_ga (@check_slot (model prog w) _ _ ⟨hp, g, d, t + 1, os⟩ "BaseException.__getattribute__" "BaseException" "__getattribute__" (.ref x) [.str "__class__" t] [] _ (by decide +kernel) (by decide +kernel) isB (PySem.F.args_bexc_ga (.ref x) (.str "__class__" t)) ?_))
  unfold Builtin.«object.__getattribute__»
  refine wpAny_bind (wpAny_of_eq (a := ((Value.ref x : Value), [Value.str "__class__" t])) (by first | rfl | (simp only [slotArgs]; rfl)) (wpAny_bind (wpAny_pure (wpAny_bind (l0.at (wpAny_bind (l3.at
    (?_ : wpAny _ _ (holding [Value.builtin "object.__class__"] (call (.builtin "getset_descriptor.__get__") [.builtin "object.__class__", .ref x, .ref D]) >>= ret) _ _ _))))))))
  refine wpAny_bind (wpAny_holding (wpAny_call (class_get (s := ⟨hp, g, d, t + 1, os⟩) (ox := ox) (od := od) X I C.mo (wpAny_pure (?_ : wpAny _ _ (handedOut (.ref D)) _ _ _)))))
  rw [handedOut_of (v := .ref D) rfl]
  first
    | exact wpAny_pure (wpAny_pure h)
    | exact wpAny_pure h
    | exact wpAny_pure (wpAny_bind (wpAny_pure (wpAny_pure h)))
theorem kitx_kept (C : XcF K D) : KitX K (.ref x) (.ref D) (fun h => ∃ (ox : Obj) (od : Option Obj), InstAt h x ox D od) := by
  obtain ⟨cd, hc, _⟩ := any_some C.hd
  unfold clsIn at hc
  split at hc
  · rename_i c' d' cd' sl' ho
    refine { ty := fun _ _ _ ⟨_, _, I⟩ => I.type, it := fun _ _ X _ A' Q' E' s' k q => ?_, ne := fun h tp dd its n sl X htp => Bool.eq_false_iff.mpr fun q => ?_, ca := fun X ⟨_, _, I⟩ k => class_exc C X I k }
    · unfold isType loadHead
      exact wpAny_bind (wpAny_loadPart (k _ _ (X _ _ ho)) (wpAny_pure q))
    · have e : D = tp := Value.ref.inj (beq_iff_eq.mp q)
      subst e
      cases (X _ _ ho).symm.trans htp
  · cases hc
end
section
variable {X : Cx} {a D : Addr} {d : Option Addr} {oD : Addr}
theorem kept_inst {pins : List (Addr × Obj)} {σ : L2.St} {H : Hp} {s : Shared} {fs : List (Str × V)} (I : Inv X pins σ H s) (ha : H a = some (KX a (.ref D) (some oD))) (hd : H oD = some (.xd fs)) :
    ∃ (ox : Obj) (od : Obj) (mA : Str → Option Value), PySem.W.InstAt s.heap a ox D (some od) ∧ s.heap.Ns1 oD mA ∧ (∀ f, RelO (fs.lookup f) (mA f)) ∧ ∀ n, PySem.W.lookIn n od = some (mA n) := by
  have x1 : ObjOk X.prog X.w H s.heap a (KX a (.ref D) (some oD)) := I.hok a _ ha
  obtain ⟨⟨ox, vs, e, z, dd⟩, _, _⟩ := x1
  have x2 : ObjOk X.prog X.w H s.heap oD (.xd fs) := I.hok oD _ hd
  obtain ⟨mA, hns, hr⟩ := x2
  obtain ⟨od, ho, hl⟩ := lookIn_ns hns
  exact ⟨ox, od, mA, ⟨e, z.1, by unfold PySem.W.notCls; rw [dd], by rw [z.2]; exact ho⟩, hns, hr, hl⟩
/-- isinstance(x, c), x a kept exception -/
def rIsK (K : PySem.W.Frag) (D : Addr) : List V → Hp → VK → Prop := fun xs H Q => ∃ (a oD : Addr) (fs : List (Str × V)) (c : V) (u : Value) (b : Bool), xs = [.ref a, c] ∧ H a = some (KX a (.ref D) (some oD)) ∧ H oD = some (.xd fs) ∧ ClsV c u ∧ PySem.W.kitOne K (.ref D) u = some b ∧ Q (.bl b) H
theorem call_isK (C : XcF X.K D) : CallR X (.builtin "isinstance") (rIsK X.K D) := by
  intro pins s σ H xs us Q I r h
  obtain ⟨a, oD, fs, c, u, b, rfl, ha, hd, hc, e, q⟩ := h
  obtain ⟨u1, u2, rfl, r1, r2⟩ := vals2 r
  cases (show u1 = Value.ref a from r1)
  have ec := hc.eq r2
  subst ec
  obtain ⟨ox, od, _, J, _⟩ := kept_inst I ha hd
  exact PySem.W.kia_one (kitx_kept C) I.kIn ⟨ox, _, J⟩ e (fun z => nomatch z) fun tk => ⟨.bl b, H, I.kept (t' := tk) fun _ _ z => z, rfl, q⟩
/-- x.f, x a kept exception -/
def tKf (D : Addr) (f : Str) (te : TE) : TE := fun σ H Q => te σ H fun x H1 => ∃ (a oD : Addr) (fs : List (Str × V)) (v : V), x = .ref a ∧ H1 a = some (KX a (.ref D) (some oD)) ∧ H1 oD = some (.xd fs) ∧ fs.lookup f = some v ∧ Q v H1
theorem pe_kf {e : Expr} {te : TE} {pos : Pos} {n : Str} (C : XcF X.K D) (hno : PySem.W.findIn X.K (.ref D) n = some none) (he : PE X e te) (hb : attributeBase e n X.env (eval e X.env) = eval e X.env := by rfl) : PE X (.Attribute e n pos) (tKf D n te) := by
  refine ⟨fun pins s σ H Q I h => attr_of hb (thn (he.run pins s σ H _ I h) fun u s1 hh => ?_)⟩
  obtain ⟨x, H1, I1, rx, a, oD, fs, v, rfl, ha, hd, l, q⟩ := hh
  cases (show u = Value.ref a from rx)
  obtain ⟨ox, od, mA, J, _, hr, hl⟩ := kept_inst I1 ha hd
  obtain ⟨u1, hu, ru⟩ := RelO.some_of (v := v) (o := mA n) (by rw [← l]; exact hr n)
  exact HandSPX.exc_get I1.kIn J C.ga C.gg C.sub (PySem.W.findObj_own C.hd hno rfl (by rw [hl, hu])) (handed_of ru) ⟨v, H1, I1.tok _, ru, q⟩
end
end MM
namespace MM
open PySem PySem.Spec PyProof.Rows L2
section
variable {K : PySem.W.Frag} {h : Heap} {mg : Str → Option Value} {x m qual : Str} {st : Stmt} {f C D CN : Addr} {b : Bool} {oc kV doc pm cdv ct : Value} {od an : Option Addr} {osl : Array (Option Value)}
/-- another class of errors, beside the class CN -/
structure Oc (K : PySem.W.Frag) (mg : Str → Option Value) (CN : Addr) (x : Str) (D : Addr) (b : Bool) : Prop where
  m : mg x = some (.ref D)
  i : PySem.W.isClsIn K D = true
  t : PySem.W.typeIn K (.ref D) = some (.type "type")
  e : PySem.W.subIn K (.ref D) (.type "BaseException") = some true
  s : PySem.W.subIn K (.ref CN) (.ref D) = some b
theorem Oc.cls (o : Oc K mg CN x D b) : PySem.W.kitCls K (.ref CN) (.ref D) = some b := by
  have iC' : (PySem.W.clsIn K D).isSome = true := o.i
  show (if ((PySem.W.clsIn K D).isSome && PySem.W.typeIn K (.ref D) == some (.type "type")) = true then PySem.W.subIn K (.ref CN) (.ref D) else none) = some b
  rw [iC', o.t, if_pos (by simp)]
  exact o.s
theorem Oc.kit (o : Oc K mg CN x D b) (hn : CN = D → b = true) : PySem.W.kitOne K (.ref CN) (.ref D) = some b := by
  unfold PySem.W.kitOne
  by_cases he : CN = D
  · rw [if_pos (by rw [he]; simp), hn he]
  · rw [if_neg (by simp [he])]
    exact o.cls
theorem Oc.exm (o : Oc K mg CN x D b) : PySem.W.exmOne K (.ref CN) (.ref D) = some b := by
  unfold PySem.W.exmOne
  rw [o.e, if_pos (by simp)]
  exact o.cls
theorem kit_typ {T : String} (m : PySem.W.kitMeta T = true) (s : PySem.W.subIn K (.ref CN) (.type T) = some b) : PySem.W.kitOne K (.ref CN) (.type T) = some b := by
  unfold PySem.W.kitOne
  rw [if_neg (by simp)]
  show (if PySem.W.kitMeta T = true then PySem.W.subIn K (.ref CN) (.type T) else none) = some b
  rw [if_pos m]
  exact s
end
end MM
namespace MM
open PySem PySem.Spec PySem.Calls PyProof.Rows L2
/-! ### own classes of errors right over a built-in one, their __init__ walked as a def -/
/-- what the written part says of the class at C, which stands right over the built-in B -/
structure OxG (K : PySem.W.Frag) (C : Addr) (B newId initId : String) (bm : List Value) : Prop where
  bf : ExcBaseFacts B newId initId bm
  sf : StoreFacts B bm "object.__setattr__" "object"
  tl : PySem.W.excTail bm bm = true
  cls : ∃ nm q N bs sn sub ab col dd k0 k1 k2 k3 k5, K.lookup C = some (excClassObj nm q C N bs bm true sn sub ab col dd k0 k1 k2 k3 k5 newId)
  sa : PySem.W.findIn K (.ref C) "__setattr__" = some (some (.builtin "object.__setattr__"))
  exC : PySem.W.subIn K (.ref C) (.type "BaseException") = some true
  tyC : PySem.W.typeIn K (.ref C) = some (.type "type")
  kC : PySem.W.keepIn K (.ref C) = true
section
variable {K : PySem.W.Frag} {C : Addr} {B newId initId : String} {bm : List Value}
theorem OxG.dat (T : OxG K C B newId initId bm) : ∃ cd, PySem.W.clsIn K C = some cd ∧ cd.mro = .ref C :: bm ∧ cd.hasDict = true := by
  obtain ⟨nm, q, N, bs, sn, sub, ab, col, dd, k0, k1, k2, k3, k5, hC⟩ := T.cls
  exact ⟨_, (by unfold PySem.W.clsIn; rw [hC] <;> rfl), rfl, rfl⟩
theorem OxG.over (T : OxG K C B newId initId bm) : PySem.W.excOver K C bm = true := by
  obtain ⟨cd, hc, hm, _⟩ := T.dat
  unfold PySem.W.excOver
  rw [hc]
  show (match cd.mro with | .ref C' :: b => C' == C && PySem.W.excTail bm b | _ => false) = true
  rw [hm]
  show (C == C && PySem.W.excTail bm bm) = true
  rw [T.tl]
  simp
theorem OxG.taker (T : OxG K C B newId initId bm) {f : Str} (hno : PySem.W.findIn K (.ref C) f = some none) : PySem.W.takerIn K C f = some none := by
  unfold PySem.W.takerIn
  rw [hno]
  rfl
end
section
variable {X : Cx} {pins : List (Addr × Obj)} {σ : L2.St} {H : Hp} {s : Shared} {a C dx : Addr} {f : Str} {y : V} {u : Value} {fs : List (Str × V)} {Q : Unit → Shared → Prop} {E : Value → Shared → Prop} {A : Around} {B newId initId : String} {bm : List Value}
/-- the first field -/
theorem gx_new (T : OxG X.K C B newId initId bm) (I : Inv X pins σ H s) (e : H a = some (exo a C none)) (hno : PySem.W.findIn X.K (.ref C) f = some none) (ry : RelV y u)
    (h : ∀ dx s', H dx = none → dx ≠ a → Inv X pins σ (L2.upd (L2.upd H dx (exd dx [(f, y)])) a (exo a C (some dx))) s' → Q () s') : wpAny (model X.prog X.w) A (setAttr (.ref a) f u) Q E s := by
  obtain ⟨cd, hcd, hmr, hhd⟩ := T.dat
  obtain ⟨t1, ho⟩ := exo_at I.hok e
  obtain ⟨hp, g, dn, t, os⟩ := s
  have key : ∀ (h' : Heap) (tk' : Nat), (∀ b o, b ≠ a → hp.get? b = some o → h'.get? b = some o) → h'.get? a = some ({ cls := .ref C, dict := some hp.objs.size, data := .fields #[.ref t1, .none, .none, .none, .bool false, .none] } : Obj) →
      h'.Ns1 hp.objs.size (fun z => if z = f then some u else none) → Q () ⟨h', g, dn, tk', os⟩ := by
    intro h' tk' k hx hn
    have nlt : ∀ {b : Addr} {o : Obj}, hp.get? b = some o → b ≠ hp.objs.size := fun q => Nat.ne_of_lt (Heap.lt_size q)
    have hnd : H hp.objs.size = none := I.hok.fresh (Nat.le_refl _)
    have dne : hp.objs.size ≠ a := (nlt ho).symm
    have na : ∀ {b : Addr}, H b = none → b ≠ a := fun n z => by
      subst z
      cases e.symm.trans n
    refine h hp.objs.size _ hnd dne (I.un (t' := tk') ⟨fun b o q n _ _ => k b o (na n) q, fun b o q n _ _ => ⟨o.slots, k b o (na n) q⟩, fun b o q n _ => ?_, fun b o q _ => ?_, fun b xs q => ?_, fun b o v q => ?_, fun b ps q => ⟨#[], ?_⟩⟩ fun b o q => ?_)
    · rw [upd_ne (na n), upd_ne (nlt q)]
      exact n
    · by_cases hb : b = a
      · exact ⟨_, by rw [hb]; exact hx⟩
      · exact ⟨o, k b o hb q⟩
    · rw [upd_ne (at_ne e q exo_tup), upd_ne (ne_of_none q hnd)]
      exact q
    · rw [upd_ne (at_ne e q exo_frz), upd_ne (ne_of_none q hnd)]
      exact q
    · rw [upd_ne (at_ne e q exo_tbl), upd_ne (ne_of_none q hnd), q]
      simp
    · by_cases hb : b = a
      · subst hb
        cases upd_same.symm.trans q
        exact exo_ok hx
      rw [upd_ne hb] at q
      by_cases hd : b = hp.objs.size
      · subst hd
        cases upd_same.symm.trans q
        exact exd_ok hn (relO_put (fs := []) ry fun g => True.intro)
      rw [upd_ne hd] at q
      refine (I.hok b o q).stay (fun c v hc z => k c v ?_ z) (fun c hc => ?_) (fun c xs hc => ?_)
      · rcases hc with hc | hc
        · exact fun z => hb (hc ▸ z)
        · exact at_ne e hc exo_own
      · rw [upd_ne (at_ne e hc exo_own), upd_ne (ne_of_none hc hnd)]
        exact hc
      · rw [upd_ne (at_ne e hc exo_tup), upd_ne (ne_of_none hc hnd)]
        exact hc
  have J : PySem.W.InstAt hp a ({ cls := .ref C, dict := none, data := .fields #[.ref t1, .none, .none, .none, .bool false, .none] } : Obj) C none := ⟨ho, rfl, rfl, trivial⟩
  refine PySem.W.set_plain I.kIn J T.sa (PySem.W.osa_openX T.sf I.kIn J T.over (T.taker hno) fun b => ?_)
  have hs : a ≠ hp.objs.size := Nat.ne_of_lt (Heap.lt_size ho)
  refine wpAny_bind (wpAny_pure (wpAny_bind (PySem.W.instanceDict_exc (t := t1) (c2 := .none) ho (PySem.W.looks_clsIn I.kIn hcd) hhd ?_)))
  refine PySem.HandSPX.store_in_new ?_ fun h' tk' hn' hsb => ?_
  · exact ⟨_, #[], _, (Heap.get?_update_ne _ _ _ _ hs.symm).trans (Heap.get?_push_at rfl rfl), rfl, fun e he => absurd he (by simp), fun _ => rfl⟩
  · refine key h' _ (fun b o hb hq => ?_) ?_ hn'
    · exact (hsb.2 b (Nat.ne_of_lt (Heap.lt_size hq))).trans ((Heap.get?_update_ne _ _ _ _ hb).trans (Heap.get?_push_of_some _ hq))
    · exact (hsb.2 a hs).trans (Heap.get?_update_self _ (Heap.get?_push_of_some _ ho) rfl)
/-- a further field -/
theorem gx_old (T : OxG X.K C B newId initId bm) (I : Inv X pins σ H s) (e : H a = some (exo a C (some dx))) (ed : H dx = some (exd dx fs)) (hl : fs.length ≤ 900) (hno : PySem.W.findIn X.K (.ref C) f = some none) (ry : RelV y u)
    (h : ∀ s', Inv X pins σ (L2.upd H dx (exd dx ((f, y) :: fs))) s' → Q () s') : wpAny (model X.prog X.w) A (setAttr (.ref a) f u) Q E s := by
  obtain ⟨t1, ho⟩ := exo_at I.hok e
  obtain ⟨mA, hns, rel⟩ := exd_at I.hok ed
  obtain ⟨hp, g, dn, t, os⟩ := s
  obtain ⟨oD, _, _, hoD, _, _⟩ := hns.count (within_of rel)
  have J : PySem.W.InstAt hp a ({ cls := .ref C, dict := some dx, data := .fields #[.ref t1, .none, .none, .none, .bool false, .none] } : Obj) C (some oD) := ⟨ho, rfl, rfl, hoD⟩
  refine PySem.W.set_plain I.kIn J T.sa (PySem.W.osa_openX T.sf I.kIn J T.over (T.taker hno) fun b => ?_)
  refine wpAny_bind (wpAny_pure (wpAny_bind ?_))
  show wpAny _ _ (instanceDict a true) _ _ _
  unfold instanceDict
  refine wpAny_bind (wpAny_loadPart ho ?_)
  obtain ⟨cd, hcd, hmr, hhd⟩ := T.dat
  dsimp only
  refine wpAny_bind ((PySem.W.looks_clsIn I.kIn hcd).at ?_)
  rw [hhd]
  refine wpAny_pure ?_
  refine PySem.OEX.store_in_old hns (within_of rel) (by rw [List.length_map]; omega) fun h' tk' hn hsb => ?_
  have hd : ∃ o, h'.get? dx = some o := by
    obtain ⟨o, _, _, e', _⟩ := hn
    exact ⟨o, e'⟩
  exact h _ (I.write (t' := tk') (x := dx) (e := dx) (o := exd dx ((f, y) :: fs)) (by rw [ed]; exact True.intro) (.inl rfl) (fun b o hb q => (hsb.2 b hb).trans q) hd (exd_ok hn (relO_put ry rel)))
/-- B.__init__(self, ..) -/
theorem gx_init {us : List Value} {Q : Value → Shared → Prop} (T : OxG X.K C B newId initId bm) (I : Inv X pins σ H s) (e : H a = some (exo a C none)) (hl : us.length ≤ sizeLine) (h : ∀ s', Inv X pins σ H s' → Q .none s') : wpAny (model X.prog X.w) A (call (.builtin initId) (.ref a :: us)) Q E s := by
  obtain ⟨nm, q, N, bs, sn, sub, ab, col, dd, k0, k1, k2, k3, k5, hC⟩ := T.cls
  obtain ⟨t1, ho⟩ := exo_at I.hok e
  obtain ⟨hp, g, dn, t, os⟩ := s
  refine wpAny_call (PySem.HandSPX.init_base T.bf (fun _ => rfl) (I.kIn _ _ hC) ho hl fun h' t2 k hx => h _ ?_)
  have J := I.write (t' := t) (x := a) (e := a) (o := exo a C none) (by rw [e]; exact True.intro) (.inl rfl) k ⟨_, hx⟩ (exo_ok hx)
  rwa [show L2.upd H a (exo a C none) = H from funext fun b => by
    by_cases hb : b = a
    · rw [hb, upd_same, e]
    · rw [upd_ne hb]] at J
end
/-! ### the rules -/
/-- B.__init__(self, ..) -/
def tBi (K : PySem.W.Frag) (B newId initId : String) (bm : List Value) (ta : TA) : TE := fun σ H Q => ta σ H fun vs H1 => ∃ (a C : Addr) (ws : List V), vs = .ref a :: ws ∧ ws.length ≤ 1000 ∧ OxG K C B newId initId bm ∧ H1 a = some (exo a C none) ∧ Q .non H1
/-- self.f = e -/
def tGs (K : PySem.W.Frag) (B newId initId : String) (bm : List Value) (f : Str) (to te : TE) : TS := fun D σ H => te σ H fun y H1 => to σ H1 fun x H2 => ∃ a C : Addr, x = .ref a ∧ OxG K C B newId initId bm ∧ PySem.W.findIn K (.ref C) f = some none ∧
  ((H2 a = some (exo a C none) ∧ ∀ dx, H2 dx = none → dx ≠ a → D.nx σ (L2.upd (L2.upd H2 dx (exd dx [(f, y)])) a (exo a C (some dx)))) ∨
    ∃ (dx : Addr) (fs : List (Str × V)), H2 a = some (exo a C (some dx)) ∧ H2 dx = some (exd dx fs) ∧ fs.length ≤ 900 ∧ D.nx σ (L2.upd H2 dx (exd dx ((f, y) :: fs))))
section
variable {X : Cx} {o e : Expr} {es : List Expr} {to te : TE} {ta : TA} {f : Str} {p p' p1 p2 pos : Pos} {B newId initId : String} {bm : List Value} {bn : Str}
theorem pe_bini {pl : Sem Bool} (hg : Gl X bn) (hm : X.mg bn = none) (hbt : bootBuiltins bn = some (.type B)) (hty : typeOf (.type B) = pure (.type "type")) (vV : PySem.W.findCls X.K (.type B) (.type "type") "__init__" = some (.val (.builtin initId))) (ha : PA X (e :: es) ta)
    (hn : bn ≠ "__name__" := by decide) (hdb : (bn == ("__debug__" : Str)) = false := by decide) (hst : Manifest.isStub B = false := by decide +kernel) (hha : PySem.W.handedIn (.builtin initId) = true := by decide +kernel)
    (hc : eval (.Call (.Attribute (.Name bn p1) "__init__" p2) (e :: es) [] pos) X.env = (do
      let v0 ← eval (.Name bn p1) X.env
      standAt p2.atName
      let (f, first) ← holding [v0] (getMethod v0 "__init__" pl)
      callWith pos f first (backTo pos (starEach (e :: es) X.env)) (backToKw pos (keywordEach [] X.env))) := by rfl)
    (he : starEach (e :: es) X.env = (false, eval e X.env) :: starEach es X.env := by rfl) (hpl : (backTo pos (starEach es X.env)).any (·.1) = false := by rfl) :
    PE X (.Call (.Attribute (.Name bn p1) "__init__" p2) (e :: es) [] pos) (tBi X.K B newId initId bm ta) := by
  refine ⟨fun pins s σ H Q I h => ?_⟩
  refine PySem.W.methodCall_KW (ld_blt I hg hm hbt ?_ hn hdb) hc
  obtain ⟨m, fr⟩ := I.fr
  refine PySem.W.method_type fr I.ok.mod.kin hty hst vV hha ?_
  show wpAny _ _ (callWith pos (Value.builtin initId) [] (backTo pos (starEach (e :: es) X.env)) []) _ _ _
  refine PyProof.Rows.callWith_method1 (thn (ha.run pos pins _ σ H _ (I.tok _) h) fun us s1 hh => ?_) he hpl
  obtain ⟨vs, H1, I1, r1, a, C, ws, rfl, hl, T, ea, q⟩ := hh
  cases r1 with
  | @cons _ u0 _ ur ra rr =>
    cases (show u0 = Value.ref a from ra)
    exact gx_init T I1 ea (by rw [← Paired.length rr, sizeLine_eq]; omega) fun s' J => ⟨.non, H1, J, rfl, q⟩
theorem ps_gst (ho : PE X o to) (he : PE X e te) (hs : swapsWith e (some (.Attribute o f p')) pos.line X.env = pure false := by rfl) : PS X (.Assign [.Attribute o f p'] e pos) (tGs X.K B newId initId bm f to te) := by
  refine ⟨fun pins s σ H D I h => ?_⟩
  refine plainObj_wpAny_Assign_Attribute (thn (he.run pins s σ H _ I h) fun v s1 ⟨y, H1, I1, r1, q1⟩ => thn (ho.run pins s1 σ H1 _ I1 q1) fun u s2 hh => ?_) hs
  obtain ⟨x, H2, I2, r2, a, C, rfl, T, hno, q⟩ := hh
  cases (show u = Value.ref a from r2)
  rcases q with ⟨ea, q⟩ | ⟨dx, fs, ea, ed, hl, q⟩
  · exact gx_new T I2 ea hno r1 fun dx s' n ne J => ⟨σ, _, J, q dx n ne⟩
  · exact gx_old T I2 ea ed hl hno r1 fun s' J => ⟨σ, _, J, q⟩
/-- C(e, ..), C's own __init__ keeping sp -/
theorem pmk_g {CX : CXT} {x : Str} {C fI : Addr} {k : Nat} {fd : FuncData} {ps : List Str} {sp : Sp} {ds : List Value} {dvs : List V} (T : OxG X.K C B newId initId bm) (iC : PySem.W.findIn X.K (.ref C) "__init__" = some (some (.ref fI))) (tI : PySem.W.typeIn X.K (.ref fI) = some (.type "function"))
    (F1 : FnOk X.prog X.w X.K X.mg X.base CX k fI fd ps sp) (hr : Room (k + 1) X.A) (hb : Binds X.K fd ps ds) (hd : Vals dvs ds) (hx : Passes CX X (fun _ _ _ => False)) (hg : Gl X x) (hm : X.mg x = some (.ref C)) (ha : PA X (e :: es) ta)
    (hdb : (x == ("__debug__" : Str)) = false := by decide) (he : starEach (e :: es) X.env = (false, eval e X.env) :: starEach es X.env := by rfl) (hpl : (backTo pos (starEach es X.env)).any (·.1) = false := by rfl) : PMk X (.Call (.Name x p) (e :: es) [] pos) (tMkO C sp dvs ta) := by
  intro pins s σ H Q I h
  obtain ⟨nm, q, N, bs, sn, sub, ab, col, dd, k0, k1, k2, k3, k5, hC⟩ := T.cls
  refine wpAny_Call_Name_kw (ld_glob I hg hm ?_ hdb)
  refine PySem.W.callWith_K (h₀ := X.base) I.ok.mod.kin T.kC (thn (ha.run pos pins s σ H _ I h) fun us s1 hh => ?_) he hpl
  obtain ⟨vs, H1, I1, r1, hz, q1⟩ := hh
  refine ⟨I1.kIn, ?_⟩
  show wpAny _ _ (call (.ref C) us) _ _ _
  obtain ⟨hp, g, dr, tk, os⟩ := s1
  have le1 : hp.objs.size ≤ hp.objs.size + 1 := Nat.le_succ _
  have hq := q1 (hp.objs.size + 1) (I1.hok.fresh le1)
  have grow : ∀ b o', hp.get? b = some o' → ((hp.push (PySem.W.kdv_tup us)).push (PySem.HandSPX.excO C hp.objs.size)).get? b = some o' := fun b o' z => Heap.get?_push_of_some _ (Heap.get?_push_of_some _ z)
  have got : ((hp.push (PySem.W.kdv_tup us)).push (PySem.HandSPX.excO C hp.objs.size)).get? (hp.objs.size + 1) = some (PySem.HandSPX.excO C hp.objs.size) := by heap_get
  have I2 := I1.laid (t' := tk) (a := hp.objs.size + 1) (o := exo (hp.objs.size + 1) C none) (h' := (hp.push (PySem.W.kdv_tup us)).push (PySem.HandSPX.excO C hp.objs.size)) grow le1 (exo_ok got)
  have r2 : Vals (V.ref (hp.objs.size + 1) :: (vs ++ dvs)) (Value.ref (hp.objs.size + 1) :: (us ++ ds)) := .cons rfl (r1.append hd)
  have hl : (Value.ref (hp.objs.size + 1) :: us ++ ds).length = ps.length := r2.length.symm.trans (F1.len _ _ _ _ hq)
  have hus : us.length ≤ sizeLine := by rw [← Paired.length r1, sizeLine_eq]; omega
  refine wpAny_call (PySem.HandSPX.call_own T.bf (fun _ => rfl) (I1.kIn _ _ hC) (PySem.W.looks_findIn I1.kIn iC) (fun self => PySem.W.bind_fn I1.kIn self tI) hus (codeAny_mono (F1.run _ X.stack _ _ ⟨Value.ref (hp.objs.size + 1) :: us, []⟩ (Value.ref (hp.objs.size + 1) :: (us ++ ds)) _ _ (fun _ _ _ => False)
    (hr.make C us []) (I2.env0.make C us []) (hb _ (Value.ref (hp.objs.size + 1) :: us) I2.kIn hl) r2 hq) fun r s' hq' => ?_))
  match r, hq' with
  | .error er, hq' => exact hx pins σ _ _ er s' I2 hq'
  | .ok .next, hq' => exact hq'.elim
  | .ok .brk, hq' => exact hq'.elim
  | .ok .cont, hq' => exact hq'.elim
  | .ok (.ret u), hq' =>
    obtain ⟨v, H2, os2, bare2, un2, hok2, rv, rfl, d, fs, ea, ed, hd1, q2⟩ := hq'
    obtain ⟨h2, g2, d2, t2, os'⟩ := s'
    exact ⟨rv, mk_end (raises_own T.exC T.tyC) I1 le1 grow un2 hok2 os2 bare2 ea ed hd1 q2⟩
end
end MM
namespace MM
open PySem PySem.Spec PySem.Calls PyProof.Rows L2
/-! ### str(x) of an instance with its own __str__ -/
def rStrO (C : Addr) (sp : Sp) (E : XK) : List V → Hp → VK → Prop := fun xs H Q => ∃ (a dx : Addr) (fs : List (Str × V)), xs = [.ref a] ∧ H a = some (.ins C dx fs) ∧ sp [.ref a] H (fun v H' => ∃ x : Str, v = .str x ∧ Q (.str x) H') E
section
variable {X : Cx} {CX : CXT} {k : Nat} {C f : Addr} {fd : FuncData} {ps : List Str} {sp : Sp} {E : XK}
theorem call_strO (F : FnOk X.prog X.w X.K X.mg X.base CX k f fd ps sp) (hs : PySem.W.findIn X.K (.ref C) "__str__" = some (some (.ref f))) (hf : PySem.W.isFn X.K (.ref f) = true) (hb : Binds X.K fd ps []) (hx : Passes CX X E) (hr : Room (k + 2) X.A) : CallR X (.type "str") (rStrO C sp E) := by
  intro pins s σ H xs us Q I r h
  obtain ⟨a, dx, fs, rfl, ha, hq⟩ := h
  obtain ⟨u, rfl, r1⟩ := vals1 r
  cases (show u = Value.ref a from r1)
  obtain ⟨mA, J, _⟩ := ins_get I.hok ha
  obtain ⟨od, J, _⟩ := J.look
  have hr1 : Room (k + 1) X.A.in1 := hr.in1
  have hr2 : Room k X.A.in1.in1 := hr1.in1
  have hl : ([Value.ref a] ++ []).length = ps.length := (show ([V.ref a] : List V).length = _ from F.len _ _ _ _ hq)
  refine PySem.W.kso_call hr2.units0 I.kIn J hs hf (wpAny_call (codeAny_mono (F.run X.A.in1.in1 X.stack s H ⟨[.ref a], []⟩ [.ref a] [.ref a] _ E hr2 I.env0.in1.in1 (hb s [.ref a] I.kIn hl) (.cons rfl .nil) hq) fun res s' hres => ?_))
  match res, hres with
  | .error er, hres => exact hx pins σ H s er s' I hres
  | .ok .next, hres => exact hres.elim
  | .ok .brk, hres => exact hres.elim
  | .ok .cont, hres => exact hres.elim
  | .ok (.ret u), hres =>
    obtain ⟨z, H', I', rz, x, rfl, q⟩ := I.after hres
    obtain ⟨t, rfl⟩ := rz
    exact ⟨.str x, H', I', ⟨t, rfl⟩, q⟩
/-- x == y by x's own __eq__, whatever y is -/
def rEqO (K : PySem.W.Frag) (C : Addr) (sp : Sp) (E : XK) : R2 := fun x y H Q => ∃ (a dx : Addr) (fs : List (Str × V)) (t : Value), x = .ref a ∧ H a = some (.ins C dx fs) ∧ TyX K H y t ∧ PySem.W.notFirst K C t = true ∧ sp [.ref a, y] H (fun v H' => ∃ b : Bool, v = .bl b ∧ Q (.bl b) H') E
theorem op_eqO (F : FnOk X.prog X.w X.K X.mg X.base CX k f fd ps sp) (hs : PySem.W.findIn X.K (.ref C) "__eq__" = some (some (.ref f))) (hf : PySem.W.isFn X.K (.ref f) = true) (hb : Binds X.K fd ps []) (hx : Passes CX X E) (hr : Room k X.A) : OpR X (compareOp .Eq) (rEqO X.K C sp E) := by
  intro pins s σ H x y v u Q I rx ry h
  obtain ⟨a, dx, fs, t, rfl, ha, ty, nf, hq⟩ := h
  cases (show v = Value.ref a from rx)
  obtain ⟨mA, J, _⟩ := ins_get I.hok ha
  obtain ⟨od, J, _⟩ := J.look
  obtain ⟨P, kx, hP, _⟩ := kit_of I ry ty
  obtain ⟨m, fr⟩ := I.fr
  have hl : ([Value.ref a, u] ++ []).length = ps.length := (show ([V.ref a, y] : List V).length = _ from F.len _ _ _ _ hq)
  show wpAny (model X.prog X.w) X.A (richCompare .Eq (.ref a) u) _ _ s
  refine PySem.W.cmp_K (op := .Eq) hr.units0 fr I.ok.mod.kin J (kx.ty _ _ I.kIn hP) nf hs hf (wpAny_call (codeAny_mono (F.run X.A X.stack s H ⟨[.ref a, u], []⟩ [.ref a, u] [.ref a, y] _ E hr I.env0 (hb s [.ref a, u] I.kIn hl) (.cons rfl (.cons ry .nil)) hq) fun res s' hres => ?_))
  match res, hres with
  | .error er, hres => exact hx pins σ H s er s' I hres
  | .ok .next, hres => exact hres.elim
  | .ok .brk, hres => exact hres.elim
  | .ok .cont, hres => exact hres.elim
  | .ok (.ret z0), hres =>
    obtain ⟨z, H', I', rz, b, rfl, q⟩ := I.after hres
    cases (show z0 = Value.bool b from rz)
    exact ⟨.bl b, H', I', rfl, q⟩
end
end MM
namespace MM
open PySem PySem.Spec PyProof.Rows L2
/-! ### sep.join(reversed(xs)) -/
theorem strs_of : ∀ {zs : List Str} {l : List Value}, Vals (zs.map V.str) l → StrsAre l zs
  | [], _, h => by
    cases h
    exact .nil
  | z :: zs, _, h => by
    cases h with
    | cons a r =>
      obtain ⟨t, rfl⟩ := a
      exact .cons z t (strs_of r)
section
variable {prog : Program} {w : World} {A : Around} {E : Value → Shared → Prop} {s : Shared}
theorem join_rev {x : Str} {t : Tok} {ys : List Str} {it l : Addr} {items : Array Value} {Q : Value → Shared → Prop} (hh : A.handled = none) (hit : s.heap.IsRevIter it l ((items.size : Int) - 1)) (hl : s.heap.IsList l items) (hne : l ≠ it) (hn : items.size ≤ sizeLine)
    (hP : ∀ acc : Array Value, ItemsOf (fun i v => items[items.size - 1 - i]? = some v) acc items.size → StrsAre acc.toList ys) (hok : (ys.map (·.length)).sum + ys.length * x.length ≤ 16777216)
    (hq : ∀ (h' : Heap) (t' : Tok) (k : Nat), (∀ b o, b ≠ it → s.heap.get? b = some o → h'.get? b = some o) → Q (.str (Txt.join x ys) t') { s with heap := h', toks := k }) :
    wpAny (model prog w) A (call (.builtin "str.join") [.str x t, .ref it]) Q E s := by
  refine wpAny_call (codeAny_call_builtin F.slot_str_join.plain F.entry_str_join (F.slot_str_join.check _ _ _ _ _ _ _ _ (typeIs_str _ _ _) (F.args_str_join_2 _ _) ?_))
  rw [join_tree_other]
  refine wpAny_bind (wpAny_typeOf (Heap.IsRevIter.typeIs hit) ?_)
  show wpAny _ A.in1 ((pyIter (.ref it)).tryCatch _ >>= fun i0 => collect i0 >>= fun c0 => joinTail x c0) _ _ s
  refine wpAny_bind (wpAny_tryCatch (wpAny_pyIter_revIter hit ?_))
  refine wpAny_bind (RT.collect_rev (A := A.in1) hh hit hl hne hn fun h' tk acc hk hacc => ?_)
  obtain ⟨l0, h0, e0⟩ := strsAre_values (hP acc hacc)
  subst e0
  rw [h0]
  have fit := joinOk_of hok
  unfold JoinOk at fit
  rw [Bool.not_eq_true'] at fit
  have g : Gives (joinTail x (strValues l0)) (joinMade x l0) := by
    have g0 := gives_joinTail x l0 fit
    rcases l0 with _ | ⟨p, _ | ⟨q, r⟩⟩ <;> exact g0
  exact g prog w A (wants Q E) _ (post_join l0 ⟨joinFit_length fit, fun t' k => hq h' t' k hk⟩)
end
section
variable {X : Cx}
def tJoinRev (K : PySem.W.Frag) (to te : TE) : TE := fun σ H Q => to σ H fun x H1 => (∃ a, x = .str a) ∧ te σ H1 fun v H2 => ∃ (a : Str) (q : Addr) (ys : List Str), x = .str a ∧ v = .ref q ∧ SqL K H2 q (ys.map V.str) ∧ (ys.reverse.map (·.length)).sum + ys.reverse.length * a.length ≤ 16777216 ∧ Q (.str (Txt.join a ys.reverse)) H2
theorem pe_joinRev {o e : Expr} {to te : TE} {apos pos p pos2 : Pos} (hc : X.calm = true) (ho : PE X o to) (hg : Gl X "reversed") (hm : X.mg "reversed" = none) (he : PE X e te)
    (hs1 : starEach [.Call (.Name "reversed" p) [e] [] pos2] X.env = [(false, eval (.Call (.Name "reversed" p) [e] [] pos2) X.env)] := by rfl) (hs : starEach [e] X.env = (false, eval e X.env) :: starEach [] X.env := by rfl)
    (hbase : attributeBase o "join" X.env (eval o X.env) = eval o X.env := by rfl) (hline : (apos.endLine == pos.line) = true := by rfl) :
    PE X (.Call (.Attribute o "join" apos) [.Call (.Name "reversed" p) [e] [] pos2] [] pos) (tJoinRev X.K to te) := by
  refine ⟨fun pins s σ H Q I h => ?_⟩
  refine PySem.Call_method1 hbase hs1 hline (thn (ho.run pins s σ H _ I h) fun v s1 hh => ?_)
  obtain ⟨x, H1, I1, r1, ⟨a, rfl⟩, q1⟩ := hh
  obtain ⟨t, rfl⟩ := _root_.id r1
  refine ⟨"str", _, F.plainAttrs_str, F.slot_str_join, F.type_str_join, typeIs_str _ _ _, (fun _ e => nomatch e), Calls.callWith_builtin rfl (Calls.evalArgs_plain (Calls.spliced_cons ?_))⟩
  refine Call_ (ld_blt I1 hg hm PyProof.Rows.boot_reversed (PyProof.Rows.callWith_type1 (args_cons (thn (he.run pins s1 σ H1 _ I1 q1) fun u s2 hh => args_nil ?_) hs) hs rfl))
  obtain ⟨v, H2, I2, r2, a', q, ys, ea, rfl, hq, hz, q2⟩ := hh
  cases ea
  cases (show u = Value.ref q from r2)
  obtain ⟨its, rv, p', hsz⟩ := I2.list hq
  refine call_reversed_list p'.isList ?_
  have grow : ∀ b o, s2.heap.get? b = some o → (s2.heap.push (revObj q ((its.toArray.size : Int) - 1))).get? b = some o := fun b o z => Heap.get?_push_of_some _ z
  have I3 : Inv X pins σ H2 { s2 with heap := s2.heap.push (revObj q ((its.toArray.size : Int) - 1)) } := I2.kept (t' := s2.toks) grow
  obtain ⟨f0, f1, f2, f3, f4, f5⟩ := I2.fpOk (H' := H2) (b := s2.heap.objs.size) (Nat.le_refl _) (I2.hok.fresh (Nat.le_refl _))
  have hl := p'.isList
  obtain ⟨ol, hol, _⟩ := _root_.id hl
  have hne : q ≠ s2.heap.objs.size := Nat.ne_of_lt (Heap.lt_size hol)
  have hn : its.toArray.size ≤ sizeLine := by rw [List.size_toArray, ← rv.length]; exact hsz
  refine Calls.spliced_nil ?_
  refine join_rev (s := { s2 with heap := s2.heap.push (revObj q ((its.toArray.size : Int) - 1)) }) (ys := ys.reverse) (I2.ok.hd hc) ⟨_, Heap.get?_push_size _ rfl, rfl, rfl⟩ (hl.push _) hne hn (fun acc hacc => strs_of ?_) hz fun h' t' k hk => ?_
  · rw [List.map_reverse]
    exact RT.vals_rev rv hacc
  · exact ⟨.str _, H2, I3.turned (t' := k) (fun b o hb z => hk b o hb z) f0 f1 f3 f4 f5, ⟨t', rfl⟩, q2⟩
end
end MM
namespace MM
open PySem PySem.Spec PySem.Calls PyProof.Rows L2
section
variable {X : Cx} {CX : CXT} {k j : Nat} {C : Addr} {qual : Str} {st : Stmt} {ps : List Str} {sp : Sp} {E : XK}
/-- x == y by the __eq__ of x's class -/
theorem op_eqC (c : Cm X.prog X.w X.K X.mg X.base CX k C "__eq__" qual st ps sp) (b : Bd "__eq__" qual st ps) (hx : Passes CX X E) (hr : Room j X.A) (hk : k ≤ j) : OpR X (compareOp .Eq) (rEqO X.K C sp E) := by
  obtain ⟨f, fd, F, M, hc, G⟩ := c.ex
  exact op_eqO G M.1 M.2 (F.bindsN b) hx (hr.mono hk)
theorem nf_self {K : PySem.W.Frag} {C : Addr} : PySem.W.notFirst K C (.ref C) = true := by
  unfold PySem.W.notFirst
  simp
end
end MM
namespace MM
open PySem PySem.Spec PyProof.Rows L2
theorem no' {A B : Prop} {b : Bool} (hb : b = false) (h : B) : if b = true then A else B := by
  subst hb
  exact iteF h
theorem upd_keep {H H1 : Hp} {D : Addr} {o : HO} (nD : H D = none) (s : Same H H1) : Same H (L2.upd H1 D o) := fun b u e => by
  rw [upd_ne (ne_of_none e nD)]
  exact s b u e
section
variable {J : It} {n : Nat} {G : Hp → Prop} {Y : Nat → Hp → V → Hp → Prop}
/-- a comprehension without a test whose i-th thing has Ps i -/
theorem lc_all (w : Walk J n G Y) (hY : ∀ i H x H', Y i H x H' → Same H H') {g : TG} {te : TE} {vs : List Nat} {σ : L2.St} {H : Hp} {D : Addr} {Qd : Hp → Prop} (nD : H D = none) (hn : n < sizeLine) (Ps : Nat → V → Hp → Prop)
    (hm : ∀ j v H1 H2, Same H1 H2 → Ps j v H1 → Ps j v H2) (hp : ∀ j v H1 acc acc', H1 D = some (.lst acc) → Ps j v H1 → Ps j v (L2.upd H1 D (.lst acc'))) (hG : ∀ H', Same H H' → G H')
    (hs : ∀ i x H1 H2 (R : V → Hp → Prop), i < n → Same H H1 → Y i H1 x H2 → (∀ v H3, Same H2 H3 → Ps i v H3 → R v H3) → g x (wipe σ vs) H2 fun σ2 H3 => wipe σ2 vs = wipe σ vs ∧ te σ2 H3 R)
    (hd : ∀ (us : List V) H', us.length = n → H' D = some (.lst us) → Same H H' → (∀ j v, us[j]? = some v → Ps j v H') → Qd H') :
    ∃ W : Nat → Nat → Hp → Prop, (∃ m, W 0 m (L2.upd H D (.lst []))) ∧ ∀ i m H, W i m H →
      (J.stop i H ∧ Qd H) ∨ (J.go i H ∧ ∃ Nx : Hp → Prop, (∀ H', Nx H' → ∃ m', m' < m ∧ W (i + 1) m' H') ∧ ∀ x H', J.yld i H x H' → g x (wipe σ vs) H' fun σ2 H2 => wipe σ2 vs = wipe σ vs ∧ tYes σ2 H2 fun b H3 =>
        if b = true then te σ2 H3 fun y H4 => ∃ acc, H4 D = some (.lst acc) ∧ acc.length < sizeLine ∧ Nx (L2.upd H4 D (.lst (acc ++ [y]))) else Nx H3) := by
  refine lc_it w (fun i H' => ∃ us : List V, us.length = i ∧ H' D = some (.lst us) ∧ Same H H' ∧ ∀ j v, us[j]? = some v → Ps j v H') ⟨[], rfl, upd_same, upd_keep nD (Same.refl H), fun j v h => by simp at h⟩ (fun i H' _ ⟨_, _, _, s, _⟩ => hG H' s) ?_ (fun H' ⟨us, l, e, s, p⟩ => hd us H' l e s p)
  rintro i x H1 H2 hi ⟨us, hl, e, s, p⟩ y
  refine hs i x H1 H2 _ hi s y fun v H3 s3 pv => ?_
  have s2 := hY _ _ _ _ y
  have e3 := s3 _ _ (s2 _ _ e)
  refine ⟨us, e3, by omega, us ++ [v], by rw [List.length_append, hl]; rfl, upd_same, upd_keep nD (s.trans (s2.trans s3)), fun j u hj => ?_⟩
  by_cases hjl : j < us.length
  · rw [List.getElem?_append_left hjl] at hj
    exact hp _ _ _ _ _ e3 (hm _ _ _ _ (s2.trans s3) (p j u hj))
  · rw [List.getElem?_append_right (by omega)] at hj
    have ej : j = us.length := by
      by_cases hz : j - us.length = 0
      · omega
      · have : ([v] : List V)[j - us.length]? = none := List.getElem?_eq_none_iff.mpr (by simp; omega)
        rw [this] at hj
        cases hj
    subst ej
    rw [Nat.sub_self] at hj
    cases hj
    rw [hl]
    exact hp _ _ _ _ _ e3 pv
/-- a comprehension whose i-th thing is the whole number f i -/
theorem lc_ints (w : Walk J n G Y) (hY : ∀ i H x H', Y i H x H' → Same H H') {g : TG} {te : TE} {vs : List Nat} {σ : L2.St} {H : Hp} {D : Addr} {Qd : Hp → Prop} (nD : H D = none) (hn : n < sizeLine) (f : Nat → Int) (hG : ∀ H', Same H H' → G H')
    (hs : ∀ i x H1 H2 (R : V → Hp → Prop), i < n → Same H H1 → Y i H1 x H2 → (∀ H3, Same H2 H3 → R (.int (f i)) H3) → g x (wipe σ vs) H2 fun σ2 H3 => wipe σ2 vs = wipe σ vs ∧ te σ2 H3 R)
    (hd : ∀ H', H' D = some (.lst (((List.range n).map f).map V.int)) → Same H H' → Qd H') :
    ∃ W : Nat → Nat → Hp → Prop, (∃ m, W 0 m (L2.upd H D (.lst []))) ∧ ∀ i m H, W i m H →
      (J.stop i H ∧ Qd H) ∨ (J.go i H ∧ ∃ Nx : Hp → Prop, (∀ H', Nx H' → ∃ m', m' < m ∧ W (i + 1) m' H') ∧ ∀ x H', J.yld i H x H' → g x (wipe σ vs) H' fun σ2 H2 => wipe σ2 vs = wipe σ vs ∧ tYes σ2 H2 fun b H3 =>
        if b = true then te σ2 H3 fun y H4 => ∃ acc, H4 D = some (.lst acc) ∧ acc.length < sizeLine ∧ Nx (L2.upd H4 D (.lst (acc ++ [y]))) else Nx H3) := by
  refine lc_all w hY nD hn (fun i v _ => v = .int (f i)) (fun _ _ _ _ _ h => h) (fun _ _ _ _ _ _ h => h) hG (fun i x H1 H2 R hi s y k => hs i x H1 H2 R hi s y fun H3 s3 => k _ H3 s3 rfl) fun us H' l e s p => ?_
  have eu : us = ((List.range n).map f).map V.int := by
    refine List.ext_getElem? fun j => ?_
    by_cases hj : j < us.length
    · have h1 := List.getElem?_eq_getElem hj
      rw [h1, p j _ h1]
      rw [List.getElem?_map, List.getElem?_map, List.getElem?_range (by omega)]
      rfl
    · rw [List.getElem?_eq_none_iff.mpr (by omega), List.getElem?_eq_none_iff.mpr (by simp; omega)]
  subst eu
  exact hd H' e s
end
theorem yFn_same {f : Nat → V} : ∀ i H x H', YFn f i H x H' → Same H H' := fun _ _ _ _ h => by rw [h.1]; exact Same.refl _
theorem yAt_same {xs : List V} : ∀ i H x H', YAt xs i H x H' → Same H H' := fun _ _ _ _ h => by rw [h.1]; exact Same.refl _
theorem yPair_same {xs ys : Nat → Option V} : ∀ i H x H', YPair xs ys i H x H' → Same H H' := by
  rintro i H x H' ⟨T, a, b, rfl, nT, rfl, _⟩
  exact upd_keep nT (Same.refl H)
/-! ### lists of whole numbers, compared -/
theorem dps_ints {K : PySem.W.Frag} {H : Hp} : ∀ ns : List Int, DpAll K H (ns.map V.int) (ns.map PyData.int)
  | [] => .nil
  | n :: ns => .cons (.int n) (dps_ints ns)
theorem dp_ints {K : PySem.W.Frag} {H : Hp} {a : Addr} {ns : List Int} (h : H a = some (.lst (ns.map V.int))) : Dp K H (.ref a) (.list (ns.map PyData.int)) := .lst (SqL.of h) (dps_ints ns)
theorem lay_ints : ∀ ns : List Int, PyData.canLayAll0 (ns.map PyData.int) = true
  | [] => rfl
  | n :: ns => by
    rw [List.map_cons, PyData.canLayAll0, lay_ints ns]
    rfl
theorem dep_ints : ∀ ns : List Int, PyData.depthAll (ns.map PyData.int) ≤ 1
  | [] => by simp [PyData.depthAll]
  | n :: ns => by
    have h := dep_ints ns
    simp only [List.map_cons, PyData.depthAll, PyData.depth]
    omega
theorem sh_ints (ns : List Int) : SeqAt.shaped (.list (ns.map PyData.int)) = true := by
  have h := dep_ints ns
  show (PyData.canLay0 (.list (ns.map PyData.int)) && decide (PyData.depth (.list (ns.map PyData.int)) ≤ 64)) = true
  rw [Bool.and_eq_true]
  refine ⟨by simp only [PyData.canLay0]; exact lay_ints ns, decide_eq_true ?_⟩
  simp only [PyData.depth]
  omega
theorem eqv_intL (ns : List Int) : PyData.eqv (.list (ns.map PyData.int)) (.list (ns.map PyData.int)) = true := SeqAt.eqv_refl _ (by simp only [PyData.canLay0]; exact lay_ints ns)
/-! ### steps from each to the next -/
def stp (f : Nat → Int) (n : Nat) : List Int := (List.range n).map fun i => f (i + 1) - f i
theorem stp_sum (f : Nat → Int) : ∀ n, (stp f n).sum = f n - f 0
  | 0 => by simp [stp]
  | n + 1 => by
    have h := stp_sum f n
    unfold stp at *
    rw [List.range_succ, List.map_append, List.sum_append, h]
    simp
    omega
end MM
namespace MM
open PySem PySem.Spec PySem.Calls PyProof.Rows L2
/-! ### x != y where the class has an own __eq__ and no __ne__ -/
section
variable {prog : Program} {w : World} {A : Around} {E : Value → Shared → Prop} {s : Shared} {K : PySem.W.Frag} {x C L f : Addr} {h₀ : Heap} {m : Str → Option Value} {ox : Obj} {od : Option Obj} {name : Str} {b tb : Value}
theorem ifBound_B {M : Model} {id : String} {args : List Value} {Q : Option Value → Shared → Prop} (X : K.In s.heap) (I : PySem.W.InstAt s.heap x ox C od) (hs : PySem.W.findIn K (.ref C) name = some (some (.builtin id))) (S : Slot "object" name id)
    (h : wpAny M A (call (.builtin id) (.ref x :: args)) (fun v => Q (some v)) E s) : wpAny M A (callSpecialIfBound? (.ref x) name args) Q E s := by
  simp only [callSpecialIfBound?, bindSpecialIfBound?]
  refine wpAny_holding (wpAny_bind (wpAny_bind (wpAny_bind (I.type.here ((PySem.W.looks_findIn X hs).here ?_)))))
  simp only [S.bind]
  refine wpAny_bind (wpAny_askSetting (wpAny_ite ?_))
  have fin : wpAny M A (call (.builtin id) ([.ref x] ++ args) >>= fun v => pure (some v)) Q E s := wpAny_bind (wpAny_mono h (fun v s' h' => wpAny_pure h') fun _ _ h' => h')
  split
  · exact wpAny_bind (wpAny_pure (wpAny_pure fin))
  · exact wpAny_tryCatch (wpAny_bind (wpAny_pure (wpAny_pure fin)))
theorem objNe_own {Q : Fin → Shared → Prop} (X : K.In s.heap) (I : PySem.W.InstAt s.heap x ox C od) (hs : PySem.W.findIn K (.ref C) "__eq__" = some (some (.ref f))) (hf : PySem.W.isFn K (.ref f) = true) (hu : A.units < cLine)
    (hcall : wpAny (model prog w) A (call (.ref f) [.ref x, b]) (fun v s' => ∃ r, v = .bool r ∧ Q (.done (.ret (.bool (!r)))) s') E s) :
    wpAny (model prog w) A (Builtin.«object.__ne__» ⟨[.ref x, b], []⟩) Q E s := by
  obtain ⟨h, g, d, t, os⟩ := s
  unfold Builtin.«object.__ne__»
  repeat (first
    | with_reducible refine wpAny_cRoomFor hu ?_
    | (refine wpAny_bind (m := callSpecialIfBound? (.ref x) (Str.ofString "__eq__") [b])
        (PySem.W.ifBound_K X I hs hf (wpAny_mono hcall (fun r s' hr => by
          obtain ⟨b, rfl, hq⟩ := hr
          repeat (first | exact hq | exact wpAny_pure hq | exact wpAny_truthy_bool hq | (refine wpAny_bind (m := truthy (.bool _)) (wpAny_truthy_bool ?_)) | wp_step)) fun _ _ e => e)))
    | wp_step)
/-- what the written part says of such a class -/
structure NeT (K : PySem.W.Frag) (C : Addr) : Prop where
  ne : PySem.W.findIn K (.ref C) "__ne__" = some (some (.builtin "object.__ne__"))
  cls : ∃ nm q N bs hd sn sub ab col dd k0 k1 k2 k3 k5 nw, K.lookup C = some (excClassObj nm q C N bs [.type "object"] hd sn sub ab col dd k0 k1 k2 k3 k5 nw)
theorem ne_K {Q : Value → Shared → Prop} (T : NeT K C) (hu : A.units + 1 < cLine) (F : Fr h₀ L s.heap m) (X₀ : K.In h₀) (I : PySem.W.InstAt s.heap x ox C od) (hb : PySem.W.Looks (model prog w) s.heap (typeOf b) tb) (hn : PySem.W.notFirst K C tb = true)
    (hs : PySem.W.findIn K (.ref C) "__eq__" = some (some (.ref f))) (hf : PySem.W.isFn K (.ref f) = true)
    (h : wpAny (model prog w) A.in1 (call (.ref f) [.ref x, b]) (fun v s' => ∃ r, v = .bool r ∧ Q (.bool (!r)) s') E s) : wpAny (model prog w) A (richCompare .NotEq (.ref x) b) Q E s := by
  have X := X₀.keeps F.keep
  obtain ⟨nm, q, N, bs, hd, sn, sub, ab, col, dd, k0, k1, k2, k3, k5, nw, hC⟩ := T.cls
  have one : wpAny (model prog w) A (tryCompare (.ref x) "__ne__" b) (fun r s' => ∃ v, r = some v ∧ Q v s') E s := by
    unfold tryCompare
    obtain ⟨hp, g, d, t, os⟩ := s
    refine wpAny_bind (ifBound_B X I T.ne PySem.F.cmp_object.ne (wpAny_call (codeAny_call_builtin PySem.F.cmp_object.ne.plain PySem.F.cmpEntry_ne (wpAny_check_slot_inst PySem.F.cmpKind_ne PySem.F.cmpSplit_ne (PySem.F.cmpArgs_ne _ _) PySem.F.cmp_object.hasObject I.at_ I.cls (X _ _ hC) (objNe_own (A := A.in1) X I hs hf hu (wpAny_mono h (fun v s' hv => ?_) fun _ _ e => e))))))
    obtain ⟨r, rfl, hq⟩ := hv
    first | exact ⟨r, rfl, wpAny_pure ⟨_, rfl, hq⟩⟩ | exact ⟨r, rfl, wpAny_pure (wpAny_pure ⟨_, rfl, hq⟩)⟩ | exact ⟨r, rfl, ⟨_, rfl, hq⟩⟩
  unfold richCompare
  simp only [oneThing_ref]
  refine wpAny_holding (wpAny_bind (wpAny_cRoomFor (Nat.lt_of_succ_lt hu) ?_))
  refine wpAny_bind (I.type.here (wpAny_bind (hb.here ?_)))
  split
  · rename_i q
    have e : PySem.W.subIn K tb (.ref C) = some false := by
      rcases Bool.or_eq_true_iff.mp hn with e | e
      · rw [beq_iff_eq.mp e] at q
        simp at q
      · exact beq_iff_eq.mp e
    refine wpAny_bind ((PySem.W.looks_subIn X e).here ?_)
    simp only [Bool.false_eq_true, if_false]
    refine wpAny_bind (wpAny_mono one (fun r s' z => ?_) fun _ _ e => e)
    obtain ⟨v, rfl, hq⟩ := z
    exact wpAny_pure hq
  · refine wpAny_bind (wpAny_pure ?_)
    simp only [Bool.false_eq_true, if_false]
    refine wpAny_bind (wpAny_mono one (fun r s' z => ?_) fun _ _ e => e)
    obtain ⟨v, rfl, hq⟩ := z
    exact wpAny_pure hq
end
section
variable {X : Cx} {CX : CXT} {k j : Nat} {C f : Addr} {fd : FuncData} {qual : Str} {st : Stmt} {ps : List Str} {sp : Sp} {E : XK}
def rNeO (K : PySem.W.Frag) (C : Addr) (sp : Sp) (E : XK) : R2 := fun x y H Q => ∃ (a dx : Addr) (fs : List (Str × V)) (t : Value), x = .ref a ∧ H a = some (.ins C dx fs) ∧ TyX K H y t ∧ PySem.W.notFirst K C t = true ∧ sp [.ref a, y] H (fun v H' => ∃ b : Bool, v = .bl b ∧ Q (.bl (!b)) H') E
theorem op_neO (T : NeT X.K C) (F : FnOk X.prog X.w X.K X.mg X.base CX k f fd ps sp) (hs : PySem.W.findIn X.K (.ref C) "__eq__" = some (some (.ref f))) (hf : PySem.W.isFn X.K (.ref f) = true) (hb : Binds X.K fd ps []) (hx : Passes CX X E) (hr : Room (k + 1) X.A) : OpR X (compareOp .NotEq) (rNeO X.K C sp E) := by
  intro pins s σ H x y v u Q I rx ry h
  obtain ⟨a, dx, fs, t, rfl, ha, ty, nf, hq⟩ := h
  cases (show v = Value.ref a from rx)
  obtain ⟨mA, J, _⟩ := ins_get I.hok ha
  obtain ⟨od, J, _⟩ := J.look
  obtain ⟨P, kx, hP, _⟩ := kit_of I ry ty
  obtain ⟨m, fr⟩ := I.fr
  have hl : ([Value.ref a, u] ++ []).length = ps.length := (show ([V.ref a, y] : List V).length = _ from F.len _ _ _ _ hq)
  have hr1 : Room k X.A.in1 := hr.in1
  have hun : X.A.units + 1 < cLine := by
    have := hr.un
    omega
  show wpAny (model X.prog X.w) X.A (richCompare .NotEq (.ref a) u) _ _ s
  refine ne_K T hun fr I.ok.mod.kin J (kx.ty _ _ I.kIn hP) nf hs hf (wpAny_call (codeAny_mono (F.run X.A.in1 X.stack s H ⟨[.ref a, u], []⟩ [.ref a, u] [.ref a, y] _ E hr1 I.env0.in1 (hb s [.ref a, u] I.kIn hl) (.cons rfl (.cons ry .nil)) hq) fun res s' hres => ?_))
  match res, hres with
  | .error er, hres => exact hx pins σ H s er s' I hres
  | .ok .next, hres => exact hres.elim
  | .ok .brk, hres => exact hres.elim
  | .ok .cont, hres => exact hres.elim
  | .ok (.ret z0), hres =>
    obtain ⟨z, H', I', rz, b, rfl, q⟩ := I.after hres
    cases (show z0 = Value.bool b from rz)
    exact ⟨b, rfl, .bl (!b), H', I', rfl, q⟩
theorem op_neC (T : NeT X.K C) (c : Cm X.prog X.w X.K X.mg X.base CX k C "__eq__" qual st ps sp) (b : Bd "__eq__" qual st ps) (hx : Passes CX X E) (hr : Room j X.A) (hk : k + 1 ≤ j) : OpR X (compareOp .NotEq) (rNeO X.K C sp E) := by
  obtain ⟨f, fd, F, M, hc, G⟩ := c.ex
  exact op_neO T G M.at_ M.fn (F.bindsN b) hx (hr.mono hk)
end
end MM
namespace MM
open PySem PySem.Spec PyProof.Rows L2
theorem hu65 {k : Nat} {A : Around} (r : Room k A) : A.units + 65 < cLine := by
  have := r.un
  omega
section
variable {X : Cx}
/-- sum(t) of a tuple of whole numbers -/
def rSumT (K : PySem.W.Frag) : List V → Hp → VK → Prop := fun vs H Q => ∃ (a : Addr) (ns : List Int), vs = [V.ref a] ∧ SqT K H a (ns.map V.int) ∧ Q (.int ns.sum) H
theorem cr_sumT (hc : X.calm = true) : CallR X (.builtin "sum") (rSumT X.K) := by
  intro pins s σ H vs us Q I r h
  obtain ⟨a, ns, rfl, hs, q⟩ := h
  obtain ⟨its, rv, hl, _⟩ := I.tuple hs
  rw [Vals.ref1 r]
  have hi := rv.ints
  obtain ⟨xs, hx⟩ := hi.allInts.items
  have hn : numsOf its.toArray.toList = ns := by rw [show its.toArray.toList = its from rfl, hi.numsOf]
  have hl : s.heap.IsTuple a its.toArray := hl
  rw [hx] at hl hn
  rw [nums_intItems] at hn
  refine PySem.W.ktm_sumG (I.ok.hd hc) hl fun h' tk t' hk => ⟨.int _, H, I.kept hk, ⟨_, rfl⟩, ?_⟩
  rw [preSum_eq, List.take_of_length_le (by simp), hn]
  exact q
end
/-! ### data of rows of whole numbers -/
def tupD (ns : List Int) : PyData := .tuple (ns.map PyData.int)
theorem dp_tup {K : PySem.W.Frag} {H : Hp} {a : Addr} {ns : List Int} (h : H a = some (.tup (ns.map V.int))) : Dp K H (.ref a) (tupD ns) := .tup (SqT.of h) (dps_ints ns)
theorem lay_tups : ∀ zs : List (List Int), PyData.canLayAll0 (zs.map tupD) = true
  | [] => rfl
  | z :: zs => by
    rw [List.map_cons, PyData.canLayAll0, lay_tups zs, tupD, PyData.canLay0, lay_ints]
    rfl
theorem dep_tups : ∀ zs : List (List Int), PyData.depthAll (zs.map tupD) ≤ 3
  | [] => by simp [PyData.depthAll]
  | z :: zs => by
    have h := dep_tups zs
    have h2 := dep_ints z
    simp only [List.map_cons, PyData.depthAll, tupD, PyData.depth]

    omega
theorem sh_tups (zs : List (List Int)) : SeqAt.shaped (.list (zs.map tupD)) = true := by
  have h := dep_tups zs
  show (PyData.canLay0 (.list (zs.map tupD)) && decide (PyData.depth (.list (zs.map tupD)) ≤ 64)) = true
  rw [Bool.and_eq_true]
  refine ⟨by simp only [PyData.canLay0]; exact lay_tups zs, decide_eq_true ?_⟩
  simp only [PyData.depth]
  omega
theorem sh_tup (ns : List Int) : SeqAt.shaped (tupD ns) = true := by
  have h := dep_ints ns
  show (PyData.canLay0 (tupD ns) && decide (PyData.depth (tupD ns) ≤ 64)) = true
  rw [Bool.and_eq_true]
  refine ⟨by simp only [tupD, PyData.canLay0]; exact lay_ints ns, decide_eq_true ?_⟩
  simp only [tupD, PyData.depth]
  omega
theorem eqv_tup (ns : List Int) : PyData.eqv (tupD ns) (tupD ns) = true := SeqAt.eqv_refl _ (by simp only [tupD, PyData.canLay0]; exact lay_ints ns)
/-- a list whose things are the rows zs -/
def Rows (H : Hp) (us : List V) (zs : List (List Int)) : Prop := us.length = zs.length ∧ ∀ (j : Nat) (u : V), us[j]? = some u → ∃ (q : Addr) (z : List Int), u = .ref q ∧ zs[j]? = some z ∧ H q = some (.tup (z.map V.int))
theorem Rows.same {H H1 : Hp} {us : List V} {zs : List (List Int)} (h : Rows H us zs) (s : Same H H1) : Rows H1 us zs := ⟨h.1, fun j u hu => by
  obtain ⟨q, z, e1, e2, e3⟩ := h.2 j u hu
  exact ⟨q, z, e1, e2, s _ _ e3⟩⟩
theorem Rows.dps {K : PySem.W.Frag} {H : Hp} : ∀ {us : List V} {zs : List (List Int)}, Rows H us zs → DpAll K H us (zs.map tupD)
  | [], [], _ => .nil
  | [], _ :: _, h => by have := h.1; simp at this
  | _ :: _, [], h => by have := h.1; simp at this
  | u :: us, z :: zs, h => by
    obtain ⟨q, z', rfl, e2, e3⟩ := h.2 0 u rfl
    cases e2
    refine .cons (dp_tup e3) (Rows.dps ⟨by have := h.1; simpa using this, fun j v hv => h.2 (j + 1) v (by simpa using hv)⟩)
theorem Rows.dp {K : PySem.W.Frag} {H : Hp} {a : Addr} {us : List V} {zs : List (List Int)} (h : Rows H us zs) (e : H a = some (.lst us)) : Dp K H (.ref a) (.list (zs.map tupD)) := .lst (SqL.of e) h.dps
theorem any_row {zs : List (List Int)} {z : List Int} (h : z ∈ zs) : ((zs.map tupD).any fun d => PyData.eqv d (tupD z)) = true := List.any_eq_true.mpr ⟨tupD z, List.mem_map.mpr ⟨z, h, rfl⟩, eqv_tup z⟩
end MM
namespace MM
/-! ### stretches of months, as whole numbers -/
/-- so many whole months lie, from a part of a day on -/
def rowF (a b p : Int) (n : Nat) : Int := (p + n * a) / b
theorem same_div {a b p q : Int} (hb : 0 < b) (n : Nat) (h0 : 0 ≤ q) (h1 : q ≤ p) (h2 : p < b) (hno : ¬ (q < (-(n : Int) * a) % b ∧ (-(n : Int) * a) % b ≤ p)) : rowF a b q n = rowF a b p n := by
  unfold rowF
  have e1 := Int.mul_ediv_add_emod (p + n * a) b
  have e2 := Int.emod_nonneg (p + n * a) (Int.ne_of_gt hb)
  have e3 := Int.emod_lt_of_pos (p + n * a) hb
  have en : -(n : Int) * a = -((n : Int) * a) := Int.neg_mul _ _
  rw [en] at hno
  generalize (n : Int) * a = z at *
  generalize hc : (p + z) / b = c at *
  refine Int.le_antisymm (by rw [← hc]; exact Int.ediv_le_ediv hb (by omega)) ?_
  refine Int.le_ediv_of_mul_le hb ?_
  rw [Int.mul_comm]
  apply Int.not_lt.mp
  intro hlt
  apply hno
  have et : (-z) % b = b * c - z := by
    have : -z = (b * c - z) + b * (-c) := by rw [Int.mul_neg]; omega
    rw [this, Int.add_mul_emod_self_left]
    exact Int.emod_eq_of_lt (by omega) (by omega)
  rw [et]
  omega
theorem max_le {p : Int} : ∀ L : List Int, (∃ t ∈ L, t ≤ p) → ∃ t ∈ L, t ≤ p ∧ ∀ u ∈ L, u ≤ p → u ≤ t
  | [], h => by
    obtain ⟨t, ht, _⟩ := h
    cases ht
  | x :: L, h => by
    by_cases hL : ∃ t ∈ L, t ≤ p
    · obtain ⟨t, ht, htp, hm⟩ := max_le L hL
      by_cases hx : x ≤ p ∧ t < x
      · refine ⟨x, List.mem_cons_self, hx.1, fun u hu hup => ?_⟩
        rcases List.mem_cons.mp hu with rfl | hu
        · exact Int.le_refl _
        · have := hm u hu hup
          omega
      · refine ⟨t, List.mem_cons_of_mem _ ht, htp, fun u hu hup => ?_⟩
        rcases List.mem_cons.mp hu with rfl | hu
        · omega
        · exact hm u hu hup
    · obtain ⟨t, ht, htp⟩ := h
      rcases List.mem_cons.mp ht with rfl | ht
      · refine ⟨t, List.mem_cons_self, htp, fun u hu hup => ?_⟩
        rcases List.mem_cons.mp hu with rfl | hu
        · exact Int.le_refl _
        · exact absurd ⟨u, hu, hup⟩ hL
      · exact absurd ⟨t, ht, htp⟩ hL
/-- the parts at which stretches of n months begin to be other ones -/
def parts (a b : Int) (n : Nat) : List Int := (List.range (min (n + 1) b.toNat)).map fun (i : Nat) => (-(i : Int) * a) % b
theorem parts_mem {a b : Int} (hb : 0 < b) {n i : Nat} (hi : i ≤ n) : (-(i : Int) * a) % b ∈ parts a b n := by
  refine List.mem_map.mpr ⟨i % b.toNat, List.mem_range.mpr ?_, ?_⟩
  · have h1 : i % b.toNat < b.toNat := Nat.mod_lt _ (by omega)
    have h2 : i % b.toNat ≤ i := Nat.mod_le _ _
    omega
  · have e : (i : Int) = ((i % b.toNat : Nat) : Int) + b * ((i / b.toNat : Nat) : Int) := by
      have h := Nat.mod_add_div i b.toNat
      have hbt : ((b.toNat : Nat) : Int) = b := by omega
      have h' : ((i % b.toNat + b.toNat * (i / b.toNat) : Nat) : Int) = (i : Int) := by rw [h]
      rw [← h', Int.natCast_add, Int.natCast_mul, hbt]
    have e2 : -(i : Int) * a = -((i % b.toNat : Nat) : Int) * a + b * (-((i / b.toNat : Nat) : Int) * a) := by
      rw [e]
      generalize ((i % b.toNat : Nat) : Int) = u
      generalize ((i / b.toNat : Nat) : Int) = v
      grind
    rw [e2, Int.add_mul_emod_self_left]
theorem parts_bd {a b : Int} (hb : 0 < b) {n : Nat} {t : Int} (ht : t ∈ parts a b n) : 0 ≤ t ∧ t < b := by
  obtain ⟨i, _, rfl⟩ := List.mem_map.mp ht
  exact ⟨Int.emod_nonneg _ (Int.ne_of_gt hb), Int.emod_lt_of_pos _ hb⟩
/-- each stretch is one that begins at one of the parts -/
theorem part_of {a b : Int} (hb : 0 < b) (n : Nat) {p : Int} (h0 : 0 ≤ p) (h1 : p < b) : ∃ t ∈ parts a b n, ∀ i : Nat, i ≤ n → rowF a b t i = rowF a b p i := by
  have z0 : (0 : Int) ∈ parts a b n := by
    have h := parts_mem (a := a) hb (n := n) (Nat.zero_le n)
    simpa using h
  obtain ⟨t, ht, htp, hm⟩ := max_le (p := p) (parts a b n) ⟨0, z0, h0⟩
  refine ⟨t, ht, fun i hi => same_div hb i (parts_bd hb ht).1 htp h1 fun ⟨k1, k2⟩ => ?_⟩
  have := hm _ (parts_mem hb hi) k2
  omega
theorem row_zero {a b p : Int} (h0 : 0 ≤ p) (h1 : p < b) : rowF a b p 0 = 0 := by
  unfold rowF
  rw [show p + ((0 : Nat) : Int) * a = p by simp]
  exact Int.ediv_eq_zero_of_lt h0 h1
theorem row_two {a b p : Int} (hb : 0 < b) (h0 : 0 ≤ p) (h1 : p < b) (n : Nat) : (n * a) / b ≤ rowF a b p n ∧ rowF a b p n ≤ (n * a) / b + 1 := by
  unfold rowF
  refine ⟨Int.ediv_le_ediv hb (by omega), ?_⟩
  have e1 := Int.mul_ediv_add_emod ((n : Int) * a) b
  have e3 := Int.emod_lt_of_pos ((n : Int) * a) hb
  refine Int.le_of_lt_add_one (Int.ediv_lt_of_lt_mul hb ?_)
  generalize (n : Int) * a / b = c at *
  have : (c + 1 + 1) * b = b * c + b + b := by grind
  rw [this]
  omega
/-- the part of a day at which moon k comes, in parts by the month's bottom -/
def prt (m o : Rat) (k : Int) : Int := ((o + k * m - ((stF m o k : Int) : Rat)) * (m.den : Rat)).floor
theorem den_posR (m : Rat) : (0 : Rat) < (m.den : Rat) := by
  have := m.den_pos
  exact_mod_cast this
theorem frac_bd (x : Rat) : 0 ≤ x - (x.floor : Rat) ∧ x - (x.floor : Rat) < 1 := by
  have h1 : (x.floor : Rat) ≤ x := Rat.floor_le x
  have h2 : x < (x.floor : Rat) + 1 := by rw [← cast_add1]; exact Rat.lt_floor_add_one x
  constructor <;> grind
theorem prt_bd (m o : Rat) (k : Int) : 0 ≤ prt m o k ∧ prt m o k < (m.den : Int) := by
  unfold prt stF
  obtain ⟨h1, h2⟩ := frac_bd (o + k * m)
  have hd := den_posR m
  generalize o + k * m - ((o + k * m).floor : Rat) = f at *
  constructor
  · refine Rat.le_floor_iff.mpr ?_
    show ((0 : Int) : Rat) ≤ f * (m.den : Rat)
    have := Rat.mul_nonneg h1 (Rat.le_of_lt hd)
    simpa using this
  · refine Rat.floor_lt_iff.mpr ?_
    show f * (m.den : Rat) < (((m.den : Nat) : Int) : Rat)
    have : f * (m.den : Rat) < 1 * (m.den : Rat) := Rat.mul_lt_mul_of_pos_right h2 hd
    rw [Rat.one_mul] at this
    exact this
theorem mul_den (m : Rat) : m * (m.den : Rat) = (m.num : Rat) := by
  have hd := den_posR m
  have h : (m.num : Rat) / (m.den : Rat) = m := by
    have e := Rat.num_divInt_den m
    rw [Rat.divInt_eq_div] at e
    exact e
  generalize (m.num : Rat) = a at *
  generalize (m.den : Rat) = b at *
  grind
theorem rr1 (o k n m b S c p : Rat) (h1 : (o + k * m - S) * b < p + 1) (h2 : p + n * (m * b) + 1 ≤ b * c + b) : (o + (k + n) * m) * b < (S + c + 1) * b := by
  have e1 : (o + (k + n) * m) * b = (o + k * m - S) * b + S * b + n * (m * b) := by grind
  have e2 : (S + c + 1) * b = S * b + b * c + b := by grind
  rw [e1, e2]
  generalize (o + k * m - S) * b = u at *
  generalize n * (m * b) = v at *
  generalize S * b = x at *
  generalize b * c = y at *
  grind
theorem rr2 (o k n m b S c p : Rat) (h1 : p ≤ (o + k * m - S) * b) (h2 : b * c ≤ p + n * (m * b)) : (S + c) * b ≤ (o + (k + n) * m) * b := by
  have e1 : (o + (k + n) * m) * b = (o + k * m - S) * b + S * b + n * (m * b) := by grind
  have e2 : (S + c) * b = S * b + b * c := by grind
  rw [e1, e2]
  generalize (o + k * m - S) * b = u at *
  generalize n * (m * b) = v at *
  generalize S * b = x at *
  generalize b * c = y at *
  grind
/-- the days of n months from month k on, by the part at which they begin -/
theorem st_row (m o : Rat) (k : Int) (n : Nat) : stF m o (k + n) - stF m o k = rowF m.num m.den (prt m o k) n := by
  have hd := den_posR m
  have hdI := den_pos m
  obtain ⟨f1, f2⟩ := frac_bd (o + k * m)
  have key : stF m o (k + n) = stF m o k + rowF m.num m.den (prt m o k) n := by
    have hfl : (prt m o k : Rat) ≤ (o + k * m - ((stF m o k : Int) : Rat)) * (m.den : Rat) := Rat.floor_le _
    have hfu : (o + k * m - ((stF m o k : Int) : Rat)) * (m.den : Rat) < ((prt m o k + 1 : Int) : Rat) := Rat.lt_floor_add_one _
    have e1 := Int.mul_ediv_add_emod (prt m o k + n * m.num) m.den
    have e2 := Int.emod_nonneg (prt m o k + n * m.num) (Int.ne_of_gt hdI)
    have e3 := Int.emod_lt_of_pos (prt m o k + n * m.num) hdI
    have hmd := mul_den m
    unfold rowF
    generalize hc : (prt m o k + (n : Int) * m.num) / (m.den : Int) = c at *
    have l1 : (m.den : Int) * c ≤ prt m o k + n * m.num := by omega
    have l2 : prt m o k + n * m.num + 1 ≤ (m.den : Int) * c + m.den := by omega
    have r1 : (m.den : Rat) * (c : Rat) ≤ (prt m o k : Rat) + (n : Rat) * (m.num : Rat) := by exact_mod_cast l1
    have r2 : (prt m o k : Rat) + (n : Rat) * (m.num : Rat) + 1 ≤ (m.den : Rat) * (c : Rat) + (m.den : Rat) := by exact_mod_cast l2
    have hfu' : (o + k * m - ((stF m o k : Int) : Rat)) * (m.den : Rat) < (prt m o k : Rat) + 1 := by rw [← cast_add1]; exact hfu
    have hcast : ((k + n : Int) : Rat) = (k : Rat) + (n : Rat) := by exact_mod_cast rfl
    refine Int.le_antisymm ?_ ?_
    · refine floor_le_iff.mpr ?_
      rw [hcast]
      have e4 : ((stF m o k + c + 1 : Int) : Rat) = ((stF m o k : Int) : Rat) + (c : Rat) + 1 := by exact_mod_cast rfl
      rw [e4]
      rw [← hmd] at r2
      exact Rat.lt_of_mul_lt_mul_right (rr1 _ _ _ _ _ _ _ _ hfu' r2) (Rat.le_of_lt hd)
    · refine Rat.le_floor_iff.mpr ?_
      rw [hcast]
      have e4 : ((stF m o k + c : Int) : Rat) = ((stF m o k : Int) : Rat) + (c : Rat) := by exact_mod_cast rfl
      rw [e4]
      rw [← hmd] at r1
      exact Rat.le_of_mul_le_mul_right (rr2 _ _ _ _ _ _ _ _ hfl r1) hd
  omega
end MM
namespace MM
open PySem PySem.Spec PyProof.Rows L2
/-! ### calls that may raise, the names as they stand at the call -/
section
variable {X : Cx} {k j : Nat} {f : Addr} {fd : FuncData} {ps ks : List Str} {sp : Sp} {dvs : List V} {ds : List Value} {x : Str} {st : Stmt} {p pos : Pos} {e : Expr} {es : List Expr} {kws : List Keyword} {t tk : TA} {W : WX}
theorem run_fnS {pins : List (Addr × Obj)} {σ : L2.St} {H : Hp} {s : Shared} {Q : VK} {us : List Value} {vs : List V} (F : FnOk X.prog X.w X.K X.mg X.base (L2.CX X.prog X.w) k f fd ps sp) (hr : Room k X.A) (hb : Binds X.K fd ps ds) (hd : Vals dvs ds) (ht : Takes X W)
    (I : Inv X pins σ H s) (r : Vals vs us) (h : sp (vs ++ dvs) H Q (fun c d H' => W c d σ H')) : wpAny (model X.prog X.w) X.A (call (.ref f) us) (EP X pins σ Q) X.xe s := by
  have r2 : Vals (vs ++ dvs) (us ++ ds) := r.append hd
  have hl : (us ++ ds).length = ps.length := by rw [← r2.length]; exact F.len _ _ _ _ h
  refine wpAny_call (codeAny_mono (F.run X.A X.stack s H ⟨us, []⟩ (us ++ ds) (vs ++ dvs) Q _ hr I.env0 (hb s us I.kIn hl) r2 h) fun r s' hq => ?_)
  match r, hq with
  | .error e, hq => exact ht e s' (XE.of_call I (fun _ _ _ z => z) hq)
  | .ok (.ret u), hq => exact I.after hq
  | .ok .next, hq => exact False.elim hq
  | .ok .brk, hq => exact False.elim hq
  | .ok .cont, hq => exact False.elim hq
theorem pe_caS (c : Ca X.prog X.w X.K X.mg X.base (L2.CX X.prog X.w) k x st [] ps sp) (b : Bd x x st ps) (hr : Room j X.A) (hk : k ≤ j) (ht : Takes X W) (hg : Gl X x) (ha : PA X (e :: es) t)
    (hdb : (x == ("__debug__" : Str)) = false := by decide) (he : starEach (e :: es) X.env = (false, eval e X.env) :: starEach es X.env := by rfl) (hpl : (backTo pos (starEach es X.env)).any (·.1) = false := by rfl) :
    PE X (.Call (.Name x p) (e :: es) [] pos) (fun σ H Q => t σ H fun vs H1 => sp (vs ++ []) H1 Q (fun c d H' => W c d σ H')) := by
  obtain ⟨f, fd, F, hm, G⟩ := c.ex
  refine ⟨fun pins s σ H Q I h => ?_⟩
  refine wpAny_Call_Name_kw (ld_glob I hg hm ?_ hdb)
  refine PySem.W.callWith_K (h₀ := X.base) I.ok.mod.kin F.kp (thn (ha.run pos pins s σ H _ I h) fun us s1 ⟨vs, H1, I1, r, q⟩ => ⟨I1.kIn, ?_⟩) he hpl
  exact run_fnS G (hr.mono hk) (F.bindsN b) .nil ht I1 r q
theorem pe_caKS {g : {α : Type} → List α → List α → List α} (c : Ca X.prog X.w X.K X.mg X.base (L2.CX X.prog X.w) k x st [] ps sp) (b : Kb x st 0 ks ps g) (hr : Room j X.A) (hk : k ≤ j) (ht : Takes X W) (hg : Gl X x) (hkw : PK X kws tk)
    (hall : (backToKw pos (keywordEach kws X.env)).all (·.1.isSome) = true := by rfl) (hks : (backToKw pos (keywordEach kws X.env)).filterMap (·.1) = ks := by rfl) (hdb : (x == ("__debug__" : Str)) = false := by decide)
    (hpl : ((backTo pos (starEach [] X.env)).any (·.1) || (backToKw pos (keywordEach kws X.env)).any (·.1.isNone)) = false := by rfl) :
    PE X (.Call (.Name x p) [] kws pos) (fun σ H Q => tk σ H fun zs H2 => zs.length = ks.length ∧ sp (g [] zs) H2 Q (fun c d H' => W c d σ H')) := by
  obtain ⟨f, fd, F, hm, G⟩ := c.ex
  obtain ⟨kV, doc, pm, an, cdv, ct, rfl⟩ := FunD.none F
  refine ⟨fun pins s σ H Q I h => ?_⟩
  refine wpAny_Call_Name_kw (ld_glob I hg hm ?_ hdb)
  refine PySem.W.callWith_KW0 (h₀ := X.base) I.ok.mod.kin F.kp hall ?_ hpl
  refine thn (hkw.run pos pins s σ H _ I h) fun ws s2 ⟨zs, H2, I2, rz, l2, q2⟩ => ⟨I2.kIn, ?_⟩
  rw [hks]
  have r2 : Vals (g [] zs) (g [] ws) := b.rel rfl l2 .nil rz
  refine wpAny_call (codeAny_mono (G.run X.A X.stack s2 H2 ⟨[], ks.zip ws⟩ (g [] ws) (g [] zs) Q _ (hr.mono hk) I2.env0 (.of_eq (b.bind kV doc pm an cdv ct [] ws rfl (rz.length.symm.trans l2))) r2 q2) fun r s' hq => ?_)
  match r, hq with
  | .error e, hq => exact ht e s' (XE.of_call I2 (fun _ _ _ z => z) hq)
  | .ok (.ret u), hq => exact I2.after hq
  | .ok .next, hq => exact False.elim hq
  | .ok .brk, hq => exact False.elim hq
  | .ok .cont, hq => exact False.elim hq
end
end MM
namespace MM
open PySem PySem.Spec PyProof.Rows L2
/-! ### calls of a def with defaults, which may raise -/
/-- how f(.., k = v, ..) binds where f has defaults -/
structure Kdf (x : Str) (st : Stmt) (dn n : Nat) (ks ps : List Str) (g : {α : Type} → List α → List α → List α → List α) : Prop where
  bind : ∀ (T : Addr) (kV doc pm : Value) (an : Option Addr) (cdv ct : Value) (us its ws : List Value), us.length = n → its.length = dn → ws.length = ks.length →
    ∃ k, bindArgs (PySem.W.fnOf x x (defArgs st) (defBody st) (defScope st) (.ref T) kV doc pm an cdv ct) ⟨us, ks.zip ws⟩ = seqItems? (.ref T) >>= k ∧ k (some its.toArray) = pure (ps.zip (g us its ws))
  rel : ∀ {vs ds zs : List V} {us its ws : List Value}, Vals vs us → Vals ds its → Vals zs ws → Vals (g vs ds zs) (g us its ws)
theorem op_eqDK {X : Cx} {K : PySem.W.Frag} (hK : X.K = K) (hu : X.A.units + 64 < cLine) : OpR X (compareOp .Eq) (rEqD K) := by
  subst hK
  exact op_eqD hu
section
variable {X : Cx} {k j n d : Nat} {f : Addr} {fd : FuncData} {ps ks : List Str} {sp : Sp} {dvs : List V} {x : Str} {st : Stmt} {p pos : Pos} {e : Expr} {es : List Expr} {kws : List Keyword} {t tk : TA} {W : WX}
/-- f(e, ..): n values, the defaults from the d-th on -/
theorem pe_caDS (c : Ca X.prog X.w X.K X.mg X.base (L2.CX X.prog X.w) k x st dvs ps sp) (b : Bd1 x x st ps n d dvs.length) (hd : dvs ≠ []) (hn : n + (dvs.length - d) = ps.length) (hr : Room j X.A) (hk : k ≤ j) (ht : Takes X W) (hg : Gl X x) (ha : PA X (e :: es) t)
    (hdb : (x == ("__debug__" : Str)) = false := by decide) (he : starEach (e :: es) X.env = (false, eval e X.env) :: starEach es X.env := by rfl) (hpl : (backTo pos (starEach es X.env)).any (·.1) = false := by rfl) :
    PE X (.Call (.Name x p) (e :: es) [] pos) (fun σ H Q => t σ H fun vs H1 => sp (vs ++ dvs.drop d) H1 Q (fun c d H' => W c d σ H')) := by
  obtain ⟨f, fd, F, hm, G⟩ := c.ex
  obtain ⟨ds, r, bb⟩ := F.binds1 n d hd hn b
  refine ⟨fun pins s σ H Q I h => ?_⟩
  refine wpAny_Call_Name_kw (ld_glob I hg hm ?_ hdb)
  refine PySem.W.callWith_K (h₀ := X.base) I.ok.mod.kin F.kp (thn (ha.run pos pins s σ H _ I h) fun us s1 ⟨vs, H1, I1, rv, q⟩ => ⟨I1.kIn, ?_⟩) he hpl
  exact run_fnS G (hr.mono hk) bb r ht I1 rv q
theorem run_fnkS {pins : List (Addr × Obj)} {σ : L2.St} {H : Hp} {s : Shared} {Q : VK} {us ws : List Value} {vs zs : List V} {g : List Value → List Value → List Value} {gV : List V → List V → List V} (F : FnOk X.prog X.w X.K X.mg X.base (L2.CX X.prog X.w) k f fd ps sp) (hr : Room k X.A) (hb : KBn X.K fd ps n ks g gV) (ht : Takes X W)
    (I : Inv X pins σ H s) (r : Vals vs us) (rz : Vals zs ws) (l1 : vs.length = n) (l2 : zs.length = ks.length) (h : sp (gV vs zs) H Q (fun c d H' => W c d σ H')) : wpAny (model X.prog X.w) X.A (call (.ref f) us (ks.zip ws)) (EP X pins σ Q) X.xe s := by
  have r2 := hb.rel r rz
  refine wpAny_call (codeAny_mono (F.run X.A X.stack s H ⟨us, ks.zip ws⟩ (g us ws) (gV vs zs) Q _ hr I.env0 (hb.to s us ws I.kIn (r.length.symm.trans l1) (rz.length.symm.trans l2)) r2 h) fun r s' hq => ?_)
  match r, hq with
  | .error e, hq => exact ht e s' (XE.of_call I (fun _ _ _ z => z) hq)
  | .ok (.ret u), hq => exact I.after hq
  | .ok .next, hq => exact False.elim hq
  | .ok .brk, hq => exact False.elim hq
  | .ok .cont, hq => exact False.elim hq
/-- f(e, .., k = v, ..) -/
theorem pe_caDK {g : {α : Type} → List α → List α → List α → List α} (c : Ca X.prog X.w X.K X.mg X.base (L2.CX X.prog X.w) k x st dvs ps sp) (b : Kdf x st dvs.length n ks ps g) (hd : dvs ≠ []) (hr : Room j X.A) (hk : k ≤ j) (ht : Takes X W) (hg : Gl X x) (ha : PA X (e :: es) t) (hkw : PK X kws tk)
    (hall : (backToKw pos (keywordEach kws X.env)).all (·.1.isSome) = true := by rfl) (hks : (backToKw pos (keywordEach kws X.env)).filterMap (·.1) = ks := by rfl) (hdb : (x == ("__debug__" : Str)) = false := by decide)
    (he : starEach (e :: es) X.env = (false, eval e X.env) :: starEach es X.env := by rfl) (hpl : ((backTo pos (starEach (e :: es) X.env)).any (·.1) || (backToKw pos (keywordEach kws X.env)).any (·.1.isNone)) = false := by rfl) :
    PE X (.Call (.Name x p) (e :: es) kws pos) (fun σ H Q => t σ H fun vs H1 => tk σ H1 fun zs H2 => vs.length = n ∧ zs.length = ks.length ∧ sp (g vs dvs zs) H2 Q (fun c d H' => W c d σ H')) := by
  obtain ⟨f, fd, F, hm, G⟩ := c.ex
  obtain ⟨its, hb⟩ := F.kbindsD n ks g hd b.rel b.bind
  refine ⟨fun pins s σ H Q I h => ?_⟩
  refine wpAny_Call_Name_kw (ld_glob I hg hm ?_ hdb)
  refine PySem.W.callWith_KW (h₀ := X.base) I.ok.mod.kin F.kp hall (thn (ha.run pos pins s σ H _ I h) fun us s1 ⟨vs, H1, I1, r, q⟩ => ?_) hpl he
  refine thn (hkw.run pos pins s1 σ H1 _ I1 q) fun ws s2 ⟨zs, H2, I2, rz, l1, l2, q2⟩ => ⟨I2.kIn, ?_⟩
  rw [hks]
  exact run_fnkS G (hr.mono hk) hb ht I2 r rz l1 l2 q2
/-- f(k = v, ..) -/
theorem pe_caDK0 {g : {α : Type} → List α → List α → List α → List α} (c : Ca X.prog X.w X.K X.mg X.base (L2.CX X.prog X.w) k x st dvs ps sp) (b : Kdf x st dvs.length 0 ks ps g) (hd : dvs ≠ []) (hr : Room j X.A) (hk : k ≤ j) (ht : Takes X W) (hg : Gl X x) (hkw : PK X kws tk)
    (hall : (backToKw pos (keywordEach kws X.env)).all (·.1.isSome) = true := by rfl) (hks : (backToKw pos (keywordEach kws X.env)).filterMap (·.1) = ks := by rfl) (hdb : (x == ("__debug__" : Str)) = false := by decide)
    (hpl : ((backTo pos (starEach [] X.env)).any (·.1) || (backToKw pos (keywordEach kws X.env)).any (·.1.isNone)) = false := by rfl) :
    PE X (.Call (.Name x p) [] kws pos) (fun σ H Q => tk σ H fun zs H2 => zs.length = ks.length ∧ sp (g [] dvs zs) H2 Q (fun c d H' => W c d σ H')) := by
  obtain ⟨f, fd, F, hm, G⟩ := c.ex
  obtain ⟨its, hb⟩ := F.kbindsD 0 ks g hd b.rel b.bind
  refine ⟨fun pins s σ H Q I h => ?_⟩
  refine wpAny_Call_Name_kw (ld_glob I hg hm ?_ hdb)
  refine PySem.W.callWith_KW0 (h₀ := X.base) I.ok.mod.kin F.kp hall ?_ hpl
  refine thn (hkw.run pos pins s σ H _ I h) fun ws s2 ⟨zs, H2, I2, rz, l2, q2⟩ => ⟨I2.kIn, ?_⟩
  rw [hks]
  exact run_fnkS (us := []) (vs := []) G (hr.mono hk) hb ht I2 .nil rz rfl l2 q2
end
end MM
namespace MM
open PySem PySem.Spec PyProof.Rows L2
/-! ### calls of a def with defaults, which never raises -/
/-- how f(.., k = v, ..) binds where f has defaults -/
structure Kdn (x : Str) (st : Stmt) (dn n : Nat) (ks ps : List Str) (g : {α : Type} → List α → List α → List α → List α) : Prop where
  bind : ∀ (T : Addr) (kV doc pm : Value) (an : Option Addr) (cdv ct : Value) (us its ws : List Value), us.length = n → its.length = dn → ws.length = ks.length →
    ∃ k, bindArgs (PySem.W.fnOf x x (defArgs st) (defBody st) (defScope st) (.ref T) kV doc pm an cdv ct) ⟨us, ks.zip ws⟩ = seqItems? (.ref T) >>= k ∧ k (some its.toArray) = pure (ps.zip (g us its ws))
  rel : ∀ {vs ds zs : List V} {us its ws : List Value}, Vals vs us → Vals ds its → Vals zs ws → Vals (g vs ds zs) (g us its ws)
section
variable {X : Cx} {CX : CXT} {k j n d : Nat} {f : Addr} {fd : FuncData} {ps ks : List Str} {sp : Sp} {dvs : List V} {x : Str} {st : Stmt} {p pos : Pos} {e : Expr} {es : List Expr} {kws : List Keyword} {t tk : TA} {E : XK}
/-- f(e, ..): n values, the defaults from the d-th on -/
theorem pe_caD (c : Ca X.prog X.w X.K X.mg X.base CX k x st dvs ps sp) (b : Bd1 x x st ps n d dvs.length) (hd : dvs ≠ []) (hn : n + (dvs.length - d) = ps.length) (hr : Room j X.A) (hk : k ≤ j) (hx : Passes CX X E) (hg : Gl X x) (ha : PA X (e :: es) t)
    (hdb : (x == ("__debug__" : Str)) = false := by decide) (he : starEach (e :: es) X.env = (false, eval e X.env) :: starEach es X.env := by rfl) (hpl : (backTo pos (starEach es X.env)).any (·.1) = false := by rfl) :
    PE X (.Call (.Name x p) (e :: es) [] pos) (tCall sp (dvs.drop d) E t) := by
  obtain ⟨f, fd, F, hm, G⟩ := c.ex
  obtain ⟨ds, r, bb⟩ := F.binds1 n d hd hn b
  exact pe_call G (hr.mono hk) hg hm F.kp bb r hx ha hdb he hpl
theorem run_fnkP {pins : List (Addr × Obj)} {σ : L2.St} {H : Hp} {s : Shared} {Q : VK} {us ws : List Value} {vs zs : List V} {g : List Value → List Value → List Value} {gV : List V → List V → List V} (F : FnOk X.prog X.w X.K X.mg X.base CX k f fd ps sp) (hr : Room k X.A) (hb : KBn X.K fd ps n ks g gV) (hx : Passes CX X E)
    (I : Inv X pins σ H s) (r : Vals vs us) (rz : Vals zs ws) (l1 : vs.length = n) (l2 : zs.length = ks.length) (h : sp (gV vs zs) H Q E) : wpAny (model X.prog X.w) X.A (call (.ref f) us (ks.zip ws)) (EP X pins σ Q) X.xe s := by
  have r2 := hb.rel r rz
  refine wpAny_call (codeAny_mono (F.run X.A X.stack s H ⟨us, ks.zip ws⟩ (g us ws) (gV vs zs) Q _ hr I.env0 (hb.to s us ws I.kIn (r.length.symm.trans l1) (rz.length.symm.trans l2)) r2 h) fun r s' hq => ?_)
  match r, hq with
  | .error e, hq => exact hx pins σ H s e s' I hq
  | .ok (.ret u), hq => exact I.after hq
  | .ok .next, hq => exact False.elim hq
  | .ok .brk, hq => exact False.elim hq
  | .ok .cont, hq => exact False.elim hq
/-- f(e, .., k = v, ..) -/
theorem pe_caDk {g : {α : Type} → List α → List α → List α → List α} (c : Ca X.prog X.w X.K X.mg X.base CX k x st dvs ps sp) (b : Kdn x st dvs.length n ks ps g) (hd : dvs ≠ []) (hr : Room j X.A) (hk : k ≤ j) (hx : Passes CX X E) (hg : Gl X x) (ha : PA X (e :: es) t) (hkw : PK X kws tk)
    (hall : (backToKw pos (keywordEach kws X.env)).all (·.1.isSome) = true := by rfl) (hks : (backToKw pos (keywordEach kws X.env)).filterMap (·.1) = ks := by rfl) (hdb : (x == ("__debug__" : Str)) = false := by decide)
    (he : starEach (e :: es) X.env = (false, eval e X.env) :: starEach es X.env := by rfl) (hpl : ((backTo pos (starEach (e :: es) X.env)).any (·.1) || (backToKw pos (keywordEach kws X.env)).any (·.1.isNone)) = false := by rfl) :
    PE X (.Call (.Name x p) (e :: es) kws pos) (fun σ H Q => t σ H fun vs H1 => tk σ H1 fun zs H2 => vs.length = n ∧ zs.length = ks.length ∧ sp (g vs dvs zs) H2 Q E) := by
  obtain ⟨f, fd, F, hm, G⟩ := c.ex
  obtain ⟨its, hb⟩ := F.kbindsD n ks g hd b.rel b.bind
  refine ⟨fun pins s σ H Q I h => ?_⟩
  refine wpAny_Call_Name_kw (ld_glob I hg hm ?_ hdb)
  refine PySem.W.callWith_KW (h₀ := X.base) I.ok.mod.kin F.kp hall (thn (ha.run pos pins s σ H _ I h) fun us s1 ⟨vs, H1, I1, r, q⟩ => ?_) hpl he
  refine thn (hkw.run pos pins s1 σ H1 _ I1 q) fun ws s2 ⟨zs, H2, I2, rz, l1, l2, q2⟩ => ⟨I2.kIn, ?_⟩
  rw [hks]
  exact run_fnkP G (hr.mono hk) hb hx I2 r rz l1 l2 q2
/-- f(k = v, ..) -/
theorem pe_caDk0 {g : {α : Type} → List α → List α → List α → List α} (c : Ca X.prog X.w X.K X.mg X.base CX k x st dvs ps sp) (b : Kdn x st dvs.length 0 ks ps g) (hd : dvs ≠ []) (hr : Room j X.A) (hk : k ≤ j) (hx : Passes CX X E) (hg : Gl X x) (hkw : PK X kws tk)
    (hall : (backToKw pos (keywordEach kws X.env)).all (·.1.isSome) = true := by rfl) (hks : (backToKw pos (keywordEach kws X.env)).filterMap (·.1) = ks := by rfl) (hdb : (x == ("__debug__" : Str)) = false := by decide)
    (hpl : ((backTo pos (starEach [] X.env)).any (·.1) || (backToKw pos (keywordEach kws X.env)).any (·.1.isNone)) = false := by rfl) :
    PE X (.Call (.Name x p) [] kws pos) (fun σ H Q => tk σ H fun zs H2 => zs.length = ks.length ∧ sp (g [] dvs zs) H2 Q E) := by
  obtain ⟨f, fd, F, hm, G⟩ := c.ex
  obtain ⟨its, hb⟩ := F.kbindsD 0 ks g hd b.rel b.bind
  refine ⟨fun pins s σ H Q I h => ?_⟩
  refine wpAny_Call_Name_kw (ld_glob I hg hm ?_ hdb)
  refine PySem.W.callWith_KW0 (h₀ := X.base) I.ok.mod.kin F.kp hall ?_ hpl
  refine thn (hkw.run pos pins s σ H _ I h) fun ws s2 ⟨zs, H2, I2, rz, l2, q2⟩ => ⟨I2.kIn, ?_⟩
  rw [hks]
  exact run_fnkP (us := []) (vs := []) G (hr.mono hk) hb hx I2 .nil rz rfl l2 q2
end
end MM
namespace MM
/-! ### rounds: when months and years come together -/
theorem den_mul (x : Rat) : (x.den : Rat) * x = (x.num : Rat) := by
  have h := Rat.num_divInt_den x
  rw [Rat.divInt_eq_div] at h
  have hd : ((x.den : Int) : Rat) ≠ 0 := by
    have := x.den_nz
    intro z
    exact this (by exact_mod_cast z)
  rw [Rat.intCast_natCast] at h hd
  grind
def lcI (a b : Int) : Int := a / (Int.gcd a b : Int) * b
theorem gcd_div_gcd {a b : Int} (ha : 0 < a) : Int.gcd (b / (Int.gcd a b : Int)) (a / (Int.gcd a b : Int)) = 1 := by
  have hg : 0 < Int.gcd a b := Int.gcd_pos_of_ne_zero_left b (by omega)
  have := Int.gcd_ediv_gcd_ediv_gcd (i := a) (j := b) hg
  rw [Int.gcd_comm]
  exact this
theorem lc_facts {a b : Int} (ha : 0 < a) (hb : 0 < b) : 0 < lcI a b ∧ lcI a b % a = 0 ∧ lcI a b % b = 0 ∧ lcI a b / a = b / (Int.gcd a b : Int) ∧ lcI a b / b = a / (Int.gcd a b : Int) ∧ 0 < b / (Int.gcd a b : Int) ∧ 0 < a / (Int.gcd a b : Int) := by
  have hg : 0 < Int.gcd a b := Int.gcd_pos_of_ne_zero_left b (by omega)
  obtain ⟨x, hx⟩ := Int.gcd_dvd_left a b
  obtain ⟨z, hz⟩ := Int.gcd_dvd_right a b
  unfold lcI
  generalize hG : (Int.gcd a b : Int) = G at *
  have hG0 : 0 < G := by omega
  have e1 : a / G = x := by rw [hx, Int.mul_ediv_cancel_left _ (by omega)]
  have e2 : b / G = z := by rw [hz, Int.mul_ediv_cancel_left _ (by omega)]
  have x0 : 0 < x := by
    apply Int.not_le.mp
    intro h
    have := Int.mul_le_mul_of_nonneg_left h (Int.le_of_lt hG0)
    omega
  have z0 : 0 < z := by
    apply Int.not_le.mp
    intro h
    have := Int.mul_le_mul_of_nonneg_left h (Int.le_of_lt hG0)
    omega
  rw [e1, e2]
  have e3 : x * b = a * z := by rw [hx, hz]; ac_rfl
  refine ⟨Int.mul_pos x0 hb, ?_, ?_, ?_, ?_, z0, x0⟩
  · rw [e3]
    exact Int.mul_emod_right _ _
  · exact Int.mul_emod_left _ _
  · rw [e3, Int.mul_ediv_cancel_left _ (by omega)]
  · rw [Int.mul_ediv_cancel _ (by omega)]
def wrD (m y : Rat) : Int := lcI m.num y.num
def wrM (m y : Rat) : Int := wrD m y / m.num * m.den
def wrY (m y : Rat) : Int := wrD m y / y.num * y.den
theorem div_back {a d : Int} (h : d % a = 0) : d / a * a = d := Int.ediv_mul_cancel (Int.dvd_of_emod_eq_zero h)
theorem wr_eqM {m y : Rat} (hm : 0 < m) (hy : 0 < y) : wrD m y * m.den = wrM m y * m.num := by
  have f := lc_facts (num_pos hm) (num_pos hy)
  have := div_back (show wrD m y % m.num = 0 from f.2.1)
  unfold wrM
  rw [Int.mul_right_comm, this]
theorem wr_eqY {m y : Rat} (hm : 0 < m) (hy : 0 < y) : wrD m y * y.den = wrY m y * y.num := by
  have f := lc_facts (num_pos hm) (num_pos hy)
  have := div_back (show wrD m y % y.num = 0 from f.2.2.1)
  unfold wrY
  rw [Int.mul_right_comm, this]
theorem den_ne (x : Rat) : ((x.den : Int) : Rat) ≠ 0 := by
  have := x.den_nz
  intro z
  exact this (by exact_mod_cast z)
theorem of_den {x : Rat} {D M : Int} (h : D * x.den = M * x.num) : (M : Rat) * x = (D : Rat) := by
  have h1 : ((D * x.den : Int) : Rat) = ((M * x.num : Int) : Rat) := by rw [h]
  rw [Rat.intCast_mul, Rat.intCast_mul] at h1
  have h2 := den_mul x
  have h3 := den_ne x
  rw [Rat.intCast_natCast] at h1 h3
  grind
theorem fl_int (x : Rat) (n : Int) : (x + n).floor = x.floor + n := by
  have h1 : ∀ i : Int, (x + n).floor ≤ i ↔ x.floor + n ≤ i := fun i => by
    rw [floor_le_iff]
    have h2 : x.floor + n ≤ i ↔ x.floor ≤ i - n := by omega
    rw [h2, floor_le_iff]
    have e1 : ((i + 1 : Int) : Rat) = (i : Rat) + 1 := cast_add1 i
    have e2 : ((i - n + 1 : Int) : Rat) = (i : Rat) - n + 1 := by rw [cast_add1, Rat.intCast_sub]
    rw [e1, e2]
    grind
  have a := (h1 ((x + n).floor)).mp (Int.le_refl _)
  have b := (h1 (x.floor + n)).mpr (Int.le_refl _)
  omega
theorem st_shift {m o : Rat} {M D : Int} (h : (M : Rat) * m = D) (k t : Int) : stF m o (k + t * M) = stF m o k + t * D := by
  unfold stF
  rw [← fl_int]
  congr 1
  rw [Rat.intCast_add, Rat.intCast_mul, Rat.intCast_mul, ← h]
  grind
theorem ma_shift {m o : Rat} {M D : Int} (hm : 0 < m) (h : (M : Rat) * m = D) (d t : Int) : maF m o (d + t * D) = maF m o d + t * M := by
  refine ma_of hm ?_ ?_
  · rw [st_shift h]
    have := st_ma (o := o) hm d
    omega
  · rw [Int.add_right_comm, st_shift h]
    have := ma_st (o := o) hm d
    omega
theorem md_shift {y k : Rat} {Y D : Int} (h : (Y : Rat) * y = D) (j t : Int) : mdF y k (j + 12 * (t * Y)) = mdF y k j + t * D := by
  unfold mdF
  rw [← fl_int]
  congr 1
  have e : ((12 : Int) : Rat) = 12 := rfl
  rw [Rat.intCast_add, Rat.intCast_mul, Rat.intCast_mul, Rat.intCast_mul, ← h, e]
  grind
theorem j_shift {y k : Rat} {Y D : Int} (hy : 0 < y / 12) (h : (Y : Rat) * y = D) (d t : Int) : jF y k (d + t * D) = jF y k d + 12 * (t * Y) := by
  have key : ∀ j : Int, j < jF y k (d + t * D) ↔ j < jF y k d + 12 * (t * Y) := fun j => by
    rw [← md_lt hy]
    have e : mdF y k j = mdF y k (j - 12 * (t * Y)) + t * D := by
      rw [← md_shift h]
      congr 1
      omega
    rw [e]
    have e2 : j < jF y k d + 12 * (t * Y) ↔ j - 12 * (t * Y) < jF y k d := by omega
    rw [e2, ← md_lt hy]
    omega
  have a := key (jF y k (d + t * D))
  have b := key (jF y k d + 12 * (t * Y))
  omega
end MM
namespace MM
open PySem PySem.Spec PyProof.Rows L2
section
variable {J : It} {n : Nat} {G : Hp → Prop} {Y : Nat → Hp → V → Hp → Prop}
/-- a comprehension with a test, whose i-th thing is the whole number f i, and there where B i -/
theorem lc_filt (w : Walk J n G Y) (hY : ∀ i H x H', Y i H x H' → Same H H') {g : TG} {tt : TT} {te : TE} {vs : List Nat} {σ : L2.St} {H : Hp} {D : Addr} {Qd : Hp → Prop} (nD : H D = none) (hn : n < sizeLine) (f : Nat → Int) (B : Nat → Bool) (hG : ∀ H', Same H H' → G H')
    (hs : ∀ i x H1 H2 (R : V → Hp → Prop) (N : Hp → Prop), i < n → Same H H1 → Y i H1 x H2 → (B i = true → ∀ H3, Same H2 H3 → R (.int (f i)) H3) → (B i = false → ∀ H3, Same H2 H3 → N H3) → g x (wipe σ vs) H2 fun σ2 H3 => wipe σ2 vs = wipe σ vs ∧ tt σ2 H3 fun b H4 => if b = true then te σ2 H4 R else N H4)
    (hd : ∀ H', H' D = some (.lst ((((List.range n).filter B).map f).map V.int)) → Same H H' → Qd H') :
    ∃ W : Nat → Nat → Hp → Prop, (∃ m, W 0 m (L2.upd H D (.lst []))) ∧ ∀ i m H, W i m H →
      (J.stop i H ∧ Qd H) ∨ (J.go i H ∧ ∃ Nx : Hp → Prop, (∀ H', Nx H' → ∃ m', m' < m ∧ W (i + 1) m' H') ∧ ∀ x H', J.yld i H x H' → g x (wipe σ vs) H' fun σ2 H2 => wipe σ2 vs = wipe σ vs ∧ tt σ2 H2 fun b H3 =>
        if b = true then te σ2 H3 fun y H4 => ∃ acc, H4 D = some (.lst acc) ∧ acc.length < sizeLine ∧ Nx (L2.upd H4 D (.lst (acc ++ [y]))) else Nx H3) := by
  refine lc_it w (fun i H' => H' D = some (.lst ((((List.range i).filter B).map f).map V.int)) ∧ Same H H') ⟨upd_same, upd_keep nD (Same.refl H)⟩ (fun i H' _ ⟨_, s⟩ => hG H' s) ?_ (fun H' ⟨e, s⟩ => hd H' e s)
  rintro i x H1 H2 hi ⟨e, s⟩ y
  have s2 := hY _ _ _ _ y
  have el : ((((List.range i).filter B).map f).map V.int).length < sizeLine := by
    rw [List.length_map, List.length_map]
    have := List.length_filter_le B (List.range i)
    rw [List.length_range] at this
    omega
  refine hs i x H1 H2 _ _ hi s y (fun hB H3 s3 => ?_) (fun hB H3 s3 => ?_)
  · refine ⟨_, s3 _ _ (s2 _ _ e), el, ?_, upd_keep nD (s.trans (s2.trans s3))⟩
    rw [upd_same, List.range_succ, List.filter_append, List.map_append, List.map_append]
    simp [hB]
  · refine ⟨?_, s.trans (s2.trans s3)⟩
    rw [s3 _ _ (s2 _ _ e), List.range_succ, List.filter_append]
    simp [hB]
end
/-! ### first days of years -/
def fdF (m y o k : Rat) (a : Int) : Int := stF m o (maF m o (mdF y k (12 * a)))
theorem int_le_floor {i : Int} {x : Rat} : i ≤ x.floor ↔ (i : Rat) ≤ x := by
  have h := floor_le_iff (q := x) (i := i - 1)
  rw [show i - 1 + 1 = i by omega] at h
  constructor
  · intro a
    apply Rat.not_lt.mp
    intro z
    have := h.mpr z
    omega
  · intro a
    apply Int.not_lt.mp
    intro z
    have := h.mp (by omega)
    grind
theorem fl_mono {x z : Rat} (h : x ≤ z) : x.floor ≤ z.floor := by
  rw [int_le_floor]
  have := int_le_floor (i := x.floor) (x := x) |>.mp (Int.le_refl _)
  grind
theorem st_w {m y o : Rat} (f : Fit m y) (i : Int) : stF m o (i + 1) ≤ stF m o i + m.ceil := by
  unfold stF
  rw [← fl_int]
  refine fl_mono ?_
  have h : m ≤ (m.ceil : Rat) := by
    apply Rat.not_lt.mp
    intro z
    have := lt_ceil_iff (q := m) (i := m.ceil) |>.mpr z
    omega
  rw [cast_add1]
  grind
theorem md_w {m y k : Rat} (f : Fit m y) (j : Int) : mdF y k j + m.ceil ≤ mdF y k (j + 1) := by
  unfold mdF
  rw [← fl_int]
  refine fl_mono ?_
  have h := f.between
  rw [cast_add1]
  grind
theorem md_mono {y k : Rat} (hy : 0 < y / 12) {i j : Int} (h : i ≤ j) : mdF y k i ≤ mdF y k j := by
  unfold mdF
  refine fl_mono ?_
  have h1 : (i : Rat) ≤ (j : Rat) := by exact_mod_cast h
  have h2 := Rat.mul_le_mul_of_nonneg_right h1 (Rat.le_of_lt hy)
  grind
/-- in a month falls one mark at most -/
theorem one_mark {m y o k : Rat} (f : Fit m y) {i j : Int} (h1 : stF m o i ≤ mdF y k j) (h2 : mdF y k j < stF m o (i + 1)) : jF y k (stF m o i) = j := by
  have hy := f.ypos
  have a : ¬ j < jF y k (stF m o i) := fun z => by
    have := (md_lt hy).mpr z
    omega
  apply Int.le_antisymm (by omega)
  apply Int.not_lt.mp
  intro z
  have b := md_ge (y := y) (k := k) hy (stF m o i)
  have c := md_w (k := k) f (jF y k (stF m o i))
  have d := md_mono (k := k) hy (show jF y k (stF m o i) + 1 ≤ j by omega)
  have e := st_w (o := o) f i
  omega
theorem ma_st' {m o : Rat} (h1 : 1 ≤ m) (i : Int) : maF m o (stF m o i) = i := by
  have := st_step (o := o) h1 i
  exact ma_of (by grind) (Int.le_refl _) (by omega)
theorem first_jF {m y o k : Rat} (f : Fit m y) (a : Int) : jF y k (stF m o (maF m o (mdF y k (12 * a)))) = 12 * a := one_mark f (st_ma f.pos _) (ma_st f.pos _)
/-- about which year begins on a day -/
theorem first_near {m y o k : Rat} (f : Fit m y) (a : Int) : (((fdF m y o k a - k.floor : Int) : Rat) / y).floor ≤ a ∧ a ≤ (((fdF m y o k a - k.floor : Int) : Rat) / y).floor + 1 := by
  have hp := f.pos
  have hy := f.ypos'
  have y12 : 12 ≤ y := by
    have h1 := f.one
    have h2 := f.between
    have h3 : (1 : Rat) ≤ (m.ceil : Rat) := by
      have : ((1 : Int) : Rat) ≤ (m.ceil : Rat) := by
        have : (1 : Int) ≤ m.ceil := by
          apply Int.not_lt.mp
          intro z
          have hm : m ≤ (m.ceil : Rat) := by
            apply Rat.not_lt.mp
            intro z
            have := lt_ceil_iff (q := m) (i := m.ceil) |>.mpr z
            omega
          have h0 : (m.ceil : Rat) ≤ ((0 : Int) : Rat) := by exact_mod_cast (show m.ceil ≤ 0 by omega)
          have e0 : ((0 : Int) : Rat) = 0 := rfl
          grind
        exact_mod_cast this
      exact this
    grind
  have s1 := st_ma (o := o) hp (mdF y k (12 * a))
  have s2 := ma_st (o := o) hp (mdF y k (12 * a))
  have s3 := st_w (o := o) f (maF m o (mdF y k (12 * a)))
  have bt := f.between
  have kf := int_le_floor (i := k.floor) (x := k) |>.mp (Int.le_refl _)
  have kl := floor_le_iff (q := k) (i := k.floor) |>.mp (Int.le_refl _)
  rw [cast_add1] at kl
  have md1 := int_le_floor (i := mdF y k (12 * a)) (x := k + ((12 * a : Int) : Rat) * (y / 12)) |>.mp (Int.le_refl _)
  have md2 := floor_le_iff (q := k + ((12 * a : Int) : Rat) * (y / 12)) (i := mdF y k (12 * a)) |>.mp (Int.le_refl _)
  rw [cast_add1] at md2
  have e12 : ((12 * a : Int) : Rat) * (y / 12) = (a : Rat) * y := by
    rw [Rat.intCast_mul]
    have : ((12 : Int) : Rat) = 12 := rfl
    rw [this]
    grind
  rw [e12] at md1 md2
  have c1 : ((fdF m y o k a : Int) : Rat) ≤ (mdF y k (12 * a) : Rat) := by exact_mod_cast s1
  have c2 : (mdF y k (12 * a) : Rat) + 1 ≤ (fdF m y o k a : Rat) + (m.ceil : Rat) := by
    have h := Int.lt_of_lt_of_le s2 s3
    have h2 : mdF y k (12 * a) + 1 ≤ fdF m y o k a + m.ceil := h
    have h3 : ((mdF y k (12 * a) + 1 : Int) : Rat) ≤ ((fdF m y o k a + m.ceil : Int) : Rat) := by exact_mod_cast h2
    rw [Rat.intCast_add, Rat.intCast_add] at h3
    exact h3
  have cs : ((fdF m y o k a - k.floor : Int) : Rat) = (fdF m y o k a : Rat) - (k.floor : Rat) := Rat.intCast_sub _ _
  rw [cs]
  generalize (fdF m y o k a : Rat) = A at *
  generalize (k.floor : Rat) = F at *
  generalize (mdF y k (12 * a) : Rat) = Md at *
  generalize (m.ceil : Rat) = Wc at *
  have u1 : A - F < (a : Rat) * y + 1 := by grind
  have u2 : (a : Rat) * y - y / 12 ≤ A - F + 1 := by grind
  constructor
  · rw [floor_le_iff, cast_add1]
    apply (Rat.div_lt_iff hy).mpr
    grind
  · have key : (a - 1 : Int) ≤ ((A - F) / y).floor := by
      rw [int_le_floor, Rat.intCast_sub]
      have : ((1 : Int) : Rat) = 1 := rfl
      rw [this]
      apply Rat.not_lt.mp
      intro z
      have z2 := (Rat.div_lt_iff hy).mp z
      grind
    omega
end MM
namespace MM
open PySem PySem.Spec PyProof.Rows L2
/-! ### figures -/
def dg (d : Nat) : Nat := if d < 10 then 48 + d else 87 + d
/-- the figures, the last one first -/
def lsd (b n : Nat) : List Nat := if h : b < 2 ∨ n < b then [n] else (n % b) :: lsd b (n / b)
termination_by n
decreasing_by exact Nat.div_lt_self (by omega) (by omega)
theorem lsd_lt {b n : Nat} (h : n < b) : lsd b n = [n] := by
  rw [lsd, dif_pos (.inr h)]
theorem lsd_ge {b n : Nat} (hb : 2 ≤ b) (h : b ≤ n) : lsd b n = (n % b) :: lsd b (n / b) := by
  rw [lsd, dif_neg (by omega)]
theorem lsd_ne (b n : Nat) : lsd b n ≠ [] := by
  rw [lsd]
  split <;> simp
theorem lsd_small {b : Nat} (hb : 2 ≤ b) : ∀ (n : Nat), ∀ d ∈ lsd b n, d < b := fun n => by
  induction n using Nat.strongRecOn with
  | _ n ih =>
    intro d hd
    by_cases h : n < b
    · rw [lsd_lt h] at hd
      rw [List.mem_singleton.mp hd]
      exact h
    · rw [lsd_ge hb (by omega)] at hd
      rcases List.mem_cons.mp hd with rfl | hd
      · exact Nat.mod_lt _ (by omega)
      · exact ih (n / b) (Nat.div_lt_self (by omega) (by omega)) d hd
theorem lsd_len {b : Nat} (hb : 2 ≤ b) : ∀ (e n : Nat), n < 2 ^ e → 0 < e → (lsd b n).length ≤ e := fun e => by
  induction e with
  | zero => intro n h h0; omega
  | succ e ih =>
    intro n h h0
    by_cases hn : n < b
    · rw [lsd_lt hn]
      simp
    · rw [lsd_ge hb (by omega), List.length_cons]
      have h1 : n / b ≤ n / 2 := Nat.div_le_div_left hb (by decide)
      have h2 : n / 2 < 2 ^ e := by rw [Nat.pow_succ] at h; omega
      by_cases he : 0 < e
      · have := ih (n / b) (by omega) he
        omega
      · have e0 : e = 0 := by omega
        subst e0
        have : n / b = 0 := by omega
        rw [this, lsd_lt (by omega)]
        simp at h2 ⊢
        have hz : n / b = 0 := by omega
        have := (Nat.div_eq_zero_iff).mp hz
        omega
theorem lsd_val {b : Nat} (hb : 2 ≤ b) : ∀ n : Nat, (lsd b n).foldr (fun d a => a * b + d) 0 = n := fun n => by
  induction n using Nat.strongRecOn with
  | _ n ih =>
    by_cases h : n < b
    · rw [lsd_lt h]
      simp
    · rw [lsd_ge hb (by omega), List.foldr_cons, ih (n / b) (Nat.div_lt_self (by omega) (by omega))]
      have := Nat.div_add_mod n b
      rw [Nat.mul_comm] at this
      exact this
def sg (d : Nat) : Str := ⟨#[dg d]⟩
def txt (ds : List Nat) : Str := ⟨(ds.map dg).toArray⟩
/-- a whole number by a base -/
def numT (b : Nat) (i : Int) : Str := if i < 0 then ("-" : Str) ++ txt (lsd b i.natAbs).reverse else txt (lsd b i.natAbs).reverse
theorem str_ext {x y : Str} (h : x.cps.toList = y.cps.toList) : x = y := by
  cases x
  cases y
  congr
  exact Array.toList_inj.mp h
theorem app_cps (x y : Str) : (x ++ y).cps.toList = x.cps.toList ++ y.cps.toList := by
  show (x.cps ++ y.cps).toList = _
  simp
theorem txt_cps (ds : List Nat) : (txt ds).cps.toList = ds.map dg := rfl
theorem txt_len (ds : List Nat) : (txt ds).length = ds.length := by
  show ((ds.map dg).toArray).size = _
  simp
theorem dash_cps : ("-" : Str).cps.toList = [45] := by decide +kernel
theorem sg_txt (d : Nat) (ds : List Nat) : sg d ++ txt ds = txt (d :: ds) := str_ext (by
  rw [app_cps]
  rfl)
theorem nil_txt : ("" : Str) = txt [] := str_ext (by decide +kernel)
theorem dg_ne {d : Nat} (h : d < 16) : dg d ≠ 45 := by
  unfold dg
  split <;> omega
def FIG : Str := "0123456789abcdef"
theorem fig_len : FIG.length = 16 := by decide +kernel
theorem fig_at {d : Nat} (h : d < 16) : atI FIG.cps.toList (d : Int) = some (dg d) := by
  have : ∀ d : Fin 16, atI FIG.cps.toList ((d.val : Nat) : Int) = some (dg d.val) := by decide +kernel
  exact this ⟨d, h⟩
theorem fig_find {d : Nat} (h : d < 16) : Txt.find FIG (sg d) = (d : Int) := by
  have : ∀ d : Fin 16, Txt.find FIG (sg d.val) = ((d.val : Nat) : Int) := by decide +kernel
  exact this ⟨d, h⟩
theorem glued_nil : ∀ (ps : List Str) (acc : Array Nat), (ps.foldl (fun acc p => acc ++ ("" : Str).cps ++ p.cps) acc).toList = acc.toList ++ (ps.map fun p => p.cps.toList).flatten
  | [], acc => by simp
  | p :: ps, acc => by
    rw [List.foldl_cons, glued_nil ps]
    have e : ("" : Str).cps = #[] := by decide +kernel
    rw [e]
    simp
theorem join_nil (ps : List Str) : (Txt.join ("" : Str) ps).cps.toList = (ps.map fun p => p.cps.toList).flatten := by
  show (((ps.drop 1).foldl (fun acc p => acc ++ ("" : Str).cps ++ p.cps) (ps.headD Str.empty).cps)).toList = _
  cases ps with
  | nil => rfl
  | cons p ps =>
    show ((ps.foldl (fun acc p => acc ++ ("" : Str).cps ++ p.cps) p.cps)).toList = _
    rw [glued_nil]
    simp
theorem flat_sg : ∀ ds : List Nat, ((ds.map sg).map fun p => p.cps.toList).flatten = ds.map dg
  | [] => rfl
  | d :: ds => by
    rw [List.map_cons, List.map_cons, List.flatten_cons, flat_sg ds]
    rfl
theorem join_sg (ds : List Nat) : Txt.join ("" : Str) ((ds.map sg).reverse) = txt ds.reverse := str_ext (by
  rw [join_nil, ← List.map_reverse, flat_sg]
  rfl)
theorem join_dash (ds : List Nat) : Txt.join ("" : Str) ((ds.map sg ++ [("-" : Str)]).reverse) = ("-" : Str) ++ txt ds.reverse := str_ext (by
  rw [join_nil, List.reverse_append, ← List.map_reverse, List.map_append, List.flatten_append, flat_sg, app_cps]
  rfl)
theorem sub_iff (x y : Str) : Builtin.Str.subAt x y 0 = true ↔ x.cps.toList.take y.length = y.cps.toList := by
  unfold Builtin.Str.subAt
  rw [beq_iff_eq, ← Array.toList_inj]
  simp
theorem dash_len : ("-" : Str).length = 1 := by decide +kernel
theorem not_dash {ds : List Nat} (h0 : ds ≠ []) (h : ∀ d ∈ ds, d < 16) : Builtin.Str.subAt (txt ds) ("-" : Str) 0 = false := by
  cases hb : Builtin.Str.subAt (txt ds) ("-" : Str) 0 with
  | false => rfl
  | true =>
    have := (sub_iff _ _).mp hb
    rw [dash_len, dash_cps, txt_cps] at this
    cases ds with
    | nil => exact absurd rfl h0
    | cons d ds =>
      have e : dg d = 45 := by simpa using this
      exact absurd e (dg_ne (h d (by simp)))
theorem is_dash (ds : List Nat) : Builtin.Str.subAt (("-" : Str) ++ txt ds) ("-" : Str) 0 = true := by
  rw [sub_iff, dash_len, app_cps, dash_cps]
  rfl
theorem dash_txt_len (ds : List Nat) : (("-" : Str) ++ txt ds).length = ds.length + 1 := by
  show (("-" : Str).cps ++ (txt ds).cps).size = _
  rw [Array.size_append]
  show ("-" : Str).length + (txt ds).length = _
  rw [dash_len, txt_len]
  omega
theorem rp_txt {ds : List Nat} (h0 : ds ≠ []) (h : ∀ d ∈ ds, d < 16) : Txt.removeprefix (txt ds) ("-" : Str) = txt ds := by
  unfold Txt.removeprefix
  rw [not_dash h0 h]
  rfl
theorem rp_dash (ds : List Nat) : Txt.removeprefix (("-" : Str) ++ txt ds) ("-" : Str) = txt ds := by
  unfold Txt.removeprefix
  rw [is_dash, dash_len, dash_txt_len]
  show (if (ds.length + 1 - 1 == (("-" : Str) ++ txt ds).length) = true then _ else _) = _
  rw [dash_txt_len, if_neg (by simp)]
  refine str_ext ?_
  show ((("-" : Str) ++ txt ds).cps.extract 1 (ds.length + 1)).toList = _
  have e : (("-" : Str) ++ txt ds).cps.toList = 45 :: ds.map dg := by rw [app_cps, dash_cps]; rfl
  rw [Array.toList_extract, e, txt_cps]
  simp
  exact List.take_of_length_le (by simp)
theorem sw_txt {ds : List Nat} (h0 : ds ≠ []) (h : ∀ d ∈ ds, d < 16) : Txt.startswith (txt ds) ("-" : Str) = false := by
  unfold Txt.startswith
  rw [not_dash h0 h, Bool.and_false]
theorem sw_dash (ds : List Nat) : Txt.startswith (("-" : Str) ++ txt ds) ("-" : Str) = true := by
  unfold Txt.startswith
  rw [is_dash, dash_txt_len, dash_len]
  simp
/-! ### a text once or not at all -/
theorem op_mulS {X : Cx} : OpR X (binaryOp .Mult) (fun x y H Q => ∃ (z : Str) (b : Bool), x = .str z ∧ y = .int (if b = true then 1 else 0) ∧ Q (.str (if b = true then z else Str.empty)) H) := by
  intro pins s σ H x y v u Q I rx ry h
  obtain ⟨z, b, rfl, rfl, q⟩ := h
  obtain ⟨t, rfl⟩ := rx
  obtain ⟨t', rfl⟩ := ry
  cases b with
  | false => exact P.mul_str_none (by decide) (by decide) ⟨.str Str.empty, H, I.tok _, ⟨_, rfl⟩, q⟩
  | true =>
    refine P.mul_str (by decide) (fun _ e => by simp at e) (fun _ e => by simp at e) ?_
    rw [if_neg (by decide), if_pos (by simp)]
    exact ⟨.str z, H, I, ⟨_, rfl⟩, q⟩
end MM
namespace MM
open PySem PySem.Spec PyProof.Rows L2
/-- what try .. except C as n: m = n wishes of an exception of the body -/
def wKeep1 (K : PySem.W.Frag) (c : Value) (i j : Nat) (D : Ends) : WX := fun cls d σ H => PySem.W.exmOne K cls c = some true ∧ ∀ a, H a = none → D.nx (((σ.set i (some (.ref a))).set j (some (.ref a))).set i none) (L2.upd H a (KX a cls d))
section
variable {X : Cx} {c : Value} {x n m : Str} {i j : Nat} {body : List Stmt} {tpos np mp apos pos pos' : Pos} {tb : WX → TS}
/-- try: body / except (..) as n: m = n; nothing else leaves the body -/
theorem ps_try_keep1 (hs : X.stack = X.env :: X.outer) (hf : X.env.frame = some X.env.locals) (hex : X.ex = []) (hN : X.N.Nodup) (hi : X.N[i]? = some n) (hln : X.env.kindOf n = some .local) (hj : X.N[j]? = some m) (hlm : X.env.kindOf m = some .local) (hg : Gl X x) (hd0 : (x == ("__debug__" : Str)) = false) (hm0 : X.mg x = some c)
    (hdb : (n == ("__debug__" : Str)) = false := by decide) (hcd : (n == ("__classdict__" : Str)) = false := by decide)
    (hb : ∀ (W : WX) (pn : List (Addr × Obj)) (xe : Value → Shared → Prop), Takes (X.tr pn xe) W → PassesOwn (model X.prog X.w) X.A X.env xe → PSs (X.tr pn xe) body (tb W))
    (hsw : swapsWith (.Name n np) (some (.Name m mp)) apos.line X.env = pure false := by rfl) :
    PS X (.Try body [.ExceptHandler (some (.Name x tpos)) (some n) [.Assign [.Name m mp] (.Name n np) apos] pos'] [] [] pos) (fun D σ H => tb (wKeep1 X.K c i j D) D σ H) := by
  refine ⟨fun pins s σ H D I h => ?_⟩
  have ok := I.ok
  have hfr : X.A.frames = some (X.env :: X.outer) := by rw [ok.frames, hs]
  refine wpAny_Try_except ?_
  refine wpAny_mono ((hb (wKeep1 X.K c i j D) (X.pn ++ pins) (fun e s₁ => wpAny (model X.prog X.w) X.A (noteFrame e X.env) (fun _ s₂ => wpAny (model X.prog X.w) X.A (setFlight e none) (fun _ s₃ =>
    wpAny (model X.prog X.w) X.A (handleBy e X.env [.ExceptHandler (some (.Name x tpos)) (some n) [.Assign [.Name m mp] (.Name n np) apos] pos']) (SP X pins D) X.xe s₃) X.xe s₂) X.xe s₁) (fun u s' xx => ?_) PassesOwn.looking).run [] s σ H D (I.toTry _) h) (fun f s1 hsp => ?_) (fun e s1 he => he)
  · obtain ⟨a, B, sI, pins', σ', H', cls, d, rfl, J', nb, up, sky, na, os, ag, hB, wish⟩ := xx
    have J : Inv X pins σ' H' sI := J'.ofTry ok
    have sky' : Sky B (X.env :: X.outer) a (Zc cls d) X.env.locals s'.heap := by rw [← hs]; exact sky
    show wpAny (model X.prog X.w) X.A (noteFrame (.ref a) X.env) _ _ _
    refine Sky.land Zc.steady hfr hf sky' fun h3 fl3 up3 => ?_
    have J3 : Inv X pins σ' H' { s' with heap := h3 } := J.landed nb fl3.1 (up.trans up3) os ag
    obtain ⟨oe3, vs3, he3, hz3, hd3⟩ := fl3.there
    have nfr : a ∉ frs (X.env :: X.outer) := fun hm => by
      obtain ⟨_, o', e', hnf⟩ := fl3.2.2.1.mem hm
      rw [he3] at e'
      cases e'
      exact hnf _ hd3
    have nL : a ≠ X.env.locals := fun z => nfr (List.mem_filterMap.mpr ⟨X.env, List.mem_cons_self, by rw [hf, z]⟩)
    have nF : a ∉ X.fs := fun hm => by
      obtain ⟨e, he, q⟩ := List.mem_filterMap.mp hm
      exact nfr (List.mem_filterMap.mpr ⟨e, List.mem_cons_of_mem _ he, q⟩)
    have nI : sI.heap.get? a = none := by
      cases q : sI.heap.get? a with
      | none => rfl
      | some o =>
        have z := nb a o q (by rw [hs]; exact nfr)
        rw [fl3.2.1] at z
        cases z
    have n0 : X.s_0.heap.get? a = none := by
      cases q : X.s_0.heap.get? a with
      | none => rfl
      | some o =>
        obtain ⟨o', z⟩ := J.base.there a o q (by rw [hex]; exact fun y => nomatch y)
        rw [nI] at z
        cases z
    have nC : ∀ x c, X.env.cells.lookup x = some c → c ≠ a := fun x c e z => by
      obtain ⟨v, o, ho, _⟩ := J.cell x c e
      rw [z, nI] at ho
      cases ho
    have nP : ∀ p ∈ X.pn ++ pins, p.1 ≠ a := fun p hp z => by
      have q := (J.pin p hp).1
      rw [z, nI] at q
      cases q
    have S3 := J3.suite he3 hd3 na nL nF
    refine wpAny_handleBy_cons (codeAny_handlers_test ?_) (by intro q; cases q)
    refine ld_glob (X := X.suite a ((a, oe3) :: (X.pn ++ pins))) S3 hg hm0 ?_ hd0
    have LT : PySem.W.Looks (model X.prog X.w) h3 (typeOf (.ref a)) cls := fun A Q E s k q => wpAny_typeOf_ref (k _ _ he3) (by rw [hz3.1]; exact q)
    have LM := PySem.W.exm_one (M := model X.prog X.w) J3.kIn LT hB
    refine LM.here ?_
    refine codeAny_handlers_suite_as ?_
    refine HandSPX.lands_againZ fl3 fun h4 fl4 up4 => ?_
    have J4 : Inv X pins σ' H' { s' with heap := h4 } := J.landed nb fl4.1 ((up.trans up3).trans up4) os ag
    obtain ⟨oe4, vs4, he4, hz4, hd4⟩ := fl4.there
    have S4 := J4.suite he4 hd4 na nL nF
    refine store_ok (X := X.suite a ((a, oe4) :: (X.pn ++ pins))) (v := .ref a) S4 hN hi (.inl hln) rfl (fun s5 S5 => ?_) (.inr hln)
    have rd : PSs (X.suite a ((a, oe4) :: (X.pn ++ pins))) [.Assign [.Name m mp] (.Name n np) apos] (tAsg (tVar i) (gName j)) := pss_one (ps_set hN hj (.inl hlm) (pe_var hi (.inl hln) hdb hcd) hsw (.inr hlm))
    refine wpAny_mono (rd.run [] s5 _ H' { nx := fun σ6 H6 => σ6 = (σ'.set i (some (.ref a))).set j (some (.ref a)) ∧ H6 = H', rt := fun _ _ => False } S5 ⟨_, ?_, rfl, rfl⟩) (fun f s6 hsp => ?_) (fun _ _ z => False.elim z)
    · exact List.getElem?_set_self (by rw [J.len]; exact (List.getElem?_eq_some_iff.mp hi).1)
    · cases f with
      | next =>
        obtain ⟨σ6, H6, S6, rfl, rfl⟩ := hsp
        obtain ⟨p1, p2, _⟩ := S6.pin (a, oe4) (List.mem_append_left _ List.mem_cons_self)
        have J6 := Inv.track (S6.unsuite ok) p1 hz4 hd4 na n0 nL nC nP
        exact gone_ok J6 hN hi hln fun s7 J7 => ⟨_, _, J7, wish a na⟩
      | brk =>
        obtain ⟨_, _, _, z⟩ := hsp
        exact z.elim
      | cont =>
        obtain ⟨_, _, _, z⟩ := hsp
        exact z.elim
      | ret u =>
        obtain ⟨_, _, _, _, _, z⟩ := hsp
        exact z.elim
  · cases f with
    | next =>
      obtain ⟨σ1, H1, J1, q⟩ := hsp
      exact wpAny_execs_nil ⟨σ1, H1, J1.ofTry ok, q⟩
    | brk =>
      obtain ⟨σ1, H1, J1, q⟩ := hsp
      exact ⟨σ1, H1, J1.ofTry ok, q⟩
    | cont =>
      obtain ⟨σ1, H1, J1, q⟩ := hsp
      exact ⟨σ1, H1, J1.ofTry ok, q⟩
    | ret u =>
      obtain ⟨v1, σ1, H1, J1, r1, q⟩ := hsp
      exact ⟨v1, σ1, H1, J1.ofTry ok, r1, q⟩
end
section
variable {X : Cx} {D : Addr}
/-- isinstance(x, (c, ..)), x a kept exception -/
def rIsKT (K : PySem.W.Frag) (D : Addr) : List V → Hp → VK → Prop := fun xs H Q => ∃ (a oD : Addr) (fs : List (Str × V)) (tp : Addr) (cs : List V) (us : List Value) (b : Bool), xs = [.ref a, .ref tp] ∧ H a = some (KX a (.ref D) (some oD)) ∧ H oD = some (.xd fs) ∧ H tp = some (.tup cs) ∧ Paired ClsV cs us ∧ PySem.W.kitAny K (.ref D) us = some b ∧ Q (.bl b) H
theorem call_isKT (C : XcF X.K D) : CallR X (.builtin "isinstance") (rIsKT X.K D) := by
  intro pins s σ H xs us Q I r h
  obtain ⟨a, oD, fs, tp, cs, ws, b, rfl, ha, hd, hT, k, e, q⟩ := h
  obtain ⟨u1, u2, rfl, r1, r2⟩ := vals2 r
  cases (show u1 = Value.ref a from r1)
  cases (show u2 = Value.ref tp from r2)
  obtain ⟨ox, od, _, J, _⟩ := kept_inst I ha hd
  obtain ⟨_, its, rv, o, h1, h2, n, h3⟩ := (show ObjOk X.prog X.w H s.heap tp (.tup cs) from I.hok tp _ hT)
  have e3 := ClsV.all k rv
  subst e3
  obtain ⟨oc, od', dt, sl⟩ := o
  simp only at h2 h3
  subst h2 h3
  exact PySem.W.kia_tup (kitx_kept C) I.kIn ⟨ox, _, J⟩ h1 e (fun z => nomatch z) fun tk => ⟨.bl b, H, I.kept (t' := tk) fun _ _ z => z, rfl, q⟩
end
end MM
namespace MM
open PySem PySem.Spec PySem.Calls PyProof.Rows L2
section
variable {X : Cx} {a : Expr} {ta : TE}
/-- x is not False, x a truth -/
def tNotF (ta : TE) : TE := fun σ H Q => ta σ H fun x H1 => ∃ b : Bool, x = .bl b ∧ Q (.bl b) H1
theorem pc_notF {j : Nat} {pos' : Pos} (ha : PE X a ta) : PC X .IsNot a (.Constant (.bool false) j pos') (tNotF ta) := by
  refine ⟨fun pins s σ H Q I h => ?_⟩
  refine thn (ha.run pins s σ H _ I h) fun v s1 ⟨x, H1, I1, r1, b, ex, q1⟩ => ?_
  subst ex
  cases (show v = Value.bool b from r1)
  refine Constant_bool ?_
  cases b with
  | true => exact wpAny_pure (a := Value.bool (!(Value.bool true == Value.bool false))) ⟨.bl true, H1, I1, rfl, q1⟩
  | false => exact wpAny_pure (a := Value.bool (!(Value.bool false == Value.bool false))) ⟨.bl false, H1, I1, rfl, q1⟩
end
/-- str(x) of a whole number, or of an instance with its own __str__ -/
@[irreducible] def rSI (C : Addr) (sp : Sp) (E : XK) : List V → Hp → VK → Prop := fun xs H Q => (∃ i : Int, xs = [.int i] ∧ i.natAbs.log2 < 1920 ∧ Q (.str (toString i)) H) ∨ rStrO C sp E xs H Q
theorem call_str_IS {X : Cx} {CX : CXT} {k : Nat} {C : Addr} {qual : Str} {st : Stmt} {ps : List Str} {sp : Sp} {E : XK} (c : Cm X.prog X.w X.K X.mg X.base CX k C "__str__" qual st ps sp) (b : Bd "__str__" qual st ps) (hr : Room (k + 2) X.A) (hx : Passes CX X E) :
    CallR X (.type "str") (rSI C sp E) := by
  obtain ⟨f, fd, F, M, hc, G⟩ := c.ex
  unfold rSI
  exact CallR.or call_str_int (call_strO G M.1 M.2 (F.bindsN b) hx hr)
end MM
namespace MM
open PySem PySem.Spec PySem.Calls PyProof.Rows L2
/-! ### figures by ten are what str tells -/
theorem dg_char {d : Nat} (h : d < 10) : d.digitChar.toNat = dg d := by
  have : ∀ d : Fin 10, d.val.digitChar.toNat = dg d.val := by decide
  exact this ⟨d, h⟩
theorem digits_lsd : ∀ n : Nat, (Nat.toDigits 10 n).map Char.toNat = (lsd 10 n).reverse.map dg := fun n => by
  induction n using Nat.strongRecOn with
  | _ n ih =>
    by_cases h : n < 10
    · rw [Nat.toDigits_of_lt_base h, lsd_lt h]
      show [n.digitChar.toNat] = [dg n]
      rw [dg_char h]
    · rw [Nat.toDigits_of_base_le (by decide) (by omega), lsd_ge (by decide) (by omega), List.map_append, ih (n / 10) (by omega), List.reverse_cons, List.map_append]
      show _ ++ [(n % 10).digitChar.toNat] = _ ++ [dg (n % 10)]
      rw [dg_char (by omega)]
theorem of_cps (s : String) : (Str.ofString s).cps.toList = s.toList.map Char.toNat := by
  show (cpsOfBytes 0 0 s.toByteArray.data.toList).toArray.toList = _
  rw [cpsOfBytes_string]
theorem nat_txt (n : Nat) : Str.ofString n.repr = txt (lsd 10 n).reverse := str_ext (by
  rw [of_cps, txt_cps]
  unfold Nat.repr
  rw [String.toList_ofList]
  exact digits_lsd n)
theorem numT_str (i : Int) : Str.ofString (toString i) = numT 10 i := by
  cases i with
  | ofNat m =>
    show Str.ofString m.repr = _
    unfold numT
    rw [if_neg (show ¬ Int.ofNat m < 0 from Int.not_lt.mpr (Int.natCast_nonneg m)), nat_txt]
    rfl
  | negSucc m =>
    show Str.ofString ("-" ++ m.succ.repr) = _
    unfold numT
    rw [if_pos (by omega)]
    refine str_ext ?_
    rw [of_cps, String.toList_append, List.map_append, app_cps, dash_cps]
    have e : m.succ.repr.toList.map Char.toNat = (txt (lsd 10 m.succ).reverse).cps.toList := by rw [← nat_txt, of_cps]
    rw [e]
    rfl
/-! ### repr(x) of an instance with its own __repr__ -/
def rReprO (C : Addr) (sp : Sp) (E : XK) : List V → Hp → VK → Prop := fun xs H Q => ∃ (a dx : Addr) (fs : List (Str × V)), xs = [.ref a] ∧ H a = some (.ins C dx fs) ∧ sp [.ref a] H (fun v H' => ∃ x : Str, v = .str x ∧ Q (.str x) H') E
theorem call_reprO {X : Cx} {CX : CXT} {k : Nat} {C f : Addr} {fd : FuncData} {ps : List Str} {sp : Sp} {E : XK} (F : FnOk X.prog X.w X.K X.mg X.base CX k f fd ps sp) (hs : PySem.W.findIn X.K (.ref C) "__repr__" = some (some (.ref f))) (hf : PySem.W.isFn X.K (.ref f) = true) (hb : Binds X.K fd ps []) (hx : Passes CX X E) (hr : Room (k + 1) X.A) : CallR X (.builtin "repr") (rReprO C sp E) := by
  intro pins s σ H xs us Q I r h
  obtain ⟨a, dx, fs, rfl, ha, hq⟩ := h
  obtain ⟨u, rfl, r1⟩ := vals1 r
  cases (show u = Value.ref a from r1)
  obtain ⟨mA, J, _⟩ := ins_get I.hok ha
  obtain ⟨od, J, _⟩ := J.look
  obtain ⟨m, fr⟩ := I.fr
  have hr1 : Room k X.A.in1 := hr.in1
  have hl : ([Value.ref a] ++ []).length = ps.length := (show ([V.ref a] : List V).length = _ from F.len _ _ _ _ hq)
  refine PySem.W.repr_K hr1.units0 fr I.ok.mod.kin J hs hf (wpAny_call (codeAny_mono (F.run X.A.in1 X.stack s H ⟨[.ref a], []⟩ [.ref a] [.ref a] _ E hr1 I.env0.in1 (hb s [.ref a] I.kIn hl) (.cons rfl .nil) hq) fun res s' hres => ?_))
  match res, hres with
  | .error er, hres => exact hx pins σ H s er s' I hres
  | .ok .next, hres => exact hres.elim
  | .ok .brk, hres => exact hres.elim
  | .ok .cont, hres => exact hres.elim
  | .ok (.ret u), hres =>
    obtain ⟨z, H', I', rz, x, rfl, q⟩ := I.after hres
    obtain ⟨t, rfl⟩ := rz
    exact ⟨.str x, H', I', ⟨t, rfl⟩, q⟩
end MM
namespace MM
open PySem PySem.Spec PySem.Calls PyProof.Rows L2
/-! ### x in [..] where a comparison runs code of its own -/
section
variable {prog : Program} {w : World} {A : Around} {R : Result → Shared → Prop}
theorem in_loopG (l : Addr) (x : Value) (N : Nat) (B : Nat → Bool) (Iv : Nat → Shared → Prop)
    (hl : ∀ i s, Iv i s → ∃ (its : Array Value) (n : Nat), s.heap.get? l = some { cls := .type "list", data := .seq its n } ∧ its.size = N ∧ ∀ h : i < its.size, wpAny (model prog w) A.in1 (eqBool its[i] x) (fun r s' => r = B i ∧ Iv (i + 1) s') (fun e s' => R (.error e) s') s)
    (fT : ∀ i s, i < N → B i = true → Iv (i + 1) s → R (.ok (.ret (.bool true))) s) (fF : (∀ j, j < N → B j = false) → ∀ s, Iv N s → R (.ok (.ret (.bool false))) s) (k : Nat) :
    ∀ i : Nat, N - i = k → i ≤ N → (∀ j, j < i → B j = false) → ∀ s, Iv i s →
      wpAny (model prog w) A.in1 (Builtin.«list.__contains__.loop» ⟨[.ref l, x, rawInt i], []⟩) (GQ.FinOf prog w A R) (fun e s' => R (.error e) s') s := by
  induction k with
  | zero =>
    intro i hk hi hno s h
    obtain ⟨its, n, h1, hs, _⟩ := hl _ _ h
    have ei : i = N := by omega
    subst ei
    have hR := fF hno s h
    obtain ⟨hp, g, d, tk, os⟩ := s
    wp_walk using wpAny_loadPart' h1
    have e1 : its[((i : Nat) : Int).toNat]? = none := by simp; omega
    rw [e1]
    wp_walk
    exact hR
  | succ k ih =>
    intro i hk hi hno s h
    obtain ⟨its, n, h1, hs, turn⟩ := hl _ _ h
    have hlt : i < its.size := by omega
    have ht := turn hlt
    obtain ⟨hp, g, d, tk, os⟩ := s
    wp_walk using wpAny_loadPart' h1
    have e1 : its[((i : Nat) : Int).toNat]? = some its[i] := by simp [hlt]
    have hc : ((i : Int) + 1) = ((i + 1 : Nat) : Int) := by omega
    rw [e1]
    refine wpAny_bind (wpAny_mono ht (fun r s2 h2 => ?_) fun _ _ z => z)
    obtain ⟨hr, h2⟩ := h2
    cases hb : B i with
    | true =>
      rw [hb] at hr
      subst hr
      have hR := fT i s2 (by omega) hb h2
      obtain ⟨hp2, g2, d2, tk2, os2⟩ := s2
      wp_walk
      exact hR
    | false =>
      rw [hb] at hr
      subst hr
      have hrec := ih (i + 1) (by omega) (by omega) (fun j hj => by
        by_cases e : j = i
        · subst e
          exact hb
        · exact hno j (by omega)) s2 h2
      obtain ⟨hp2, g2, d2, tk2, os2⟩ := s2
      wp_walk
      rw [hc]
      exact ⟨plainId_quiet PySem.MeetsSeq.plain_contains_loop _, codeAny_builtin PySem.MeetsSeq.entry_contains_loop (by
        rw [Around.under_plainId PySem.MeetsSeq.plain_contains_loop _]
        exact hrec)⟩
theorem in_listG {E : Value → Shared → Prop} {s : Shared} {Q : Value → Shared → Prop} (l : Addr) (x : Value) (N : Nat) (B : Nat → Bool) (Iv : Nat → Shared → Prop)
    (hl : ∀ i s, Iv i s → ∃ (its : Array Value) (n : Nat), s.heap.get? l = some { cls := .type "list", data := .seq its n } ∧ its.size = N ∧ ∀ h : i < its.size, wpAny (model prog w) A.in1 (eqBool its[i] x) (fun r s' => r = B i ∧ Iv (i + 1) s') E s)
    (fT : ∀ i s, i < N → B i = true → Iv (i + 1) s → Q (.bool true) s) (fF : (∀ j, j < N → B j = false) → ∀ s, Iv N s → Q (.bool false) s) (h : Iv 0 s) : wpAny (model prog w) A (compareOp .In x (.ref l)) Q E s := by
  obtain ⟨its, n, h1, _, _⟩ := hl _ _ h
  show wpAny _ A (do return .bool (← contains (.ref l) x)) Q E s
  refine wpAny_bind (wpAny_contains_slot ⟨_, h1, rfl⟩ F.slot_list_contains (wpAny_mono (GQ.call_here (Q := fun v s' => ∃ b, v = .bool b ∧ Q (.bool b) s') F.slot_list_contains ⟨_, h1, rfl⟩ F.entry_list_contains (F.args_list_contains_2 _ _) ?_) (fun v s' hv => ?_) fun _ _ e => e))
  · have go := in_loopG (prog := prog) (w := w) (A := A) (R := wants (fun v s' => ∃ b, v = .bool b ∧ Q (.bool b) s') E) l x N B Iv hl (fun i s hi hb q => ⟨true, rfl, fT i s hi hb q⟩) (fun hno s q => ⟨false, rfl, fF hno s q⟩) (N - 0) 0 rfl (Nat.zero_le _) (fun j hj => absurd hj (Nat.not_lt_zero j)) s h
    obtain ⟨hp, g, d, tk, os⟩ := s
    wp_walk
    exact ⟨plainId_quiet PySem.MeetsSeq.plain_contains_loop _, codeAny_builtin PySem.MeetsSeq.entry_contains_loop (by
      rw [Around.under_plainId PySem.MeetsSeq.plain_contains_loop _]
      exact go)⟩
  · obtain ⟨b, rfl, hq⟩ := hv
    exact wpAny_truthy_bool (wpAny_pure hq)
end
/-- == inside a builtin, with either answer: it may run code, and the heap may grow -/
def EqB (X : Cx) (n : Nat) (D : V → V → Hp → Bool → Prop) : Prop :=
  ∀ (A : Around) (pins : List (Addr × Obj)) (s : Shared) (σ : L2.St) (H : Hp) (x y : V) (u v : Value) (b : Bool), L2.Sub X n A → Inv X pins σ H s → RelV x u → RelV y v → D x y H b →
    wpAny (model X.prog X.w) A (eqBool u v) (fun r s' => r = b ∧ ∃ H', Inv X pins σ H' s' ∧ Ext H H') X.xe s
/-- x in [..]: B i tells whether the i-th thing is == x -/
def rInG (D : V → V → Hp → Bool → Prop) : R2 := fun x y H Q => ∃ (p : Addr) (xs : List V) (B : Nat → Bool), y = .ref p ∧ H p = some (.lst xs) ∧ (∀ i z, xs[i]? = some z → ∀ H', Ext H H' → D z x H' (B i)) ∧ ∀ H', Ext H H' → Q (.bl ((List.range xs.length).any B)) H'
theorem op_inG {X : Cx} {n : Nat} {D : V → V → Hp → Bool → Prop} (h : EqB X n D) (hr : Room (n + 1) X.A) : OpR X (compareOp .In) (rInG D) := by
  intro pins s σ H x y v u Q I rx ry hq
  obtain ⟨p, xs, B, rfl, hp, hD, q⟩ := hq
  cases (show u = Value.ref p from ry)
  have sb : L2.Sub X (n + 1) X.A := ⟨hr, rfl⟩
  refine in_listG (A := X.A) p v xs.length B (fun _ s' => ∃ H', Inv X pins σ H' s' ∧ Ext H H') ?_ ?_ ?_ ⟨H, I, Ext.rfl'⟩
  · rintro i s' ⟨H', I', e⟩
    obtain ⟨z, its, k, r, ek⟩ := I'.hok p _ (e _ _ hp)
    refine ⟨its.toArray, k, ek, by rw [List.size_toArray, ← r.length], fun h1 => ?_⟩
    have hi : i < its.length := by simpa using h1
    have hx : i < xs.length := by rw [r.length]; exact hi
    obtain ⟨w, hw, rw'⟩ := r.get (List.getElem?_eq_getElem hx)
    have ew : its.toArray[i] = w := by
      rw [List.getElem?_eq_getElem hi] at hw
      simpa using Option.some.inj hw
    rw [ew]
    refine wpAny_mono (h X.A.in1 pins s' σ H' _ x w v (B i) sb.in1 I' rw' rx (hD i _ (List.getElem?_eq_getElem hx) H' e)) (fun c s2 z2 => ?_) fun _ _ y => y
    obtain ⟨hc, H2, I2, e2⟩ := z2
    exact ⟨hc, H2, I2, e.trans e2⟩
  · rintro i s' hi hb ⟨H', I', e⟩
    refine ⟨.bl true, H', I', rfl, ?_⟩
    have z := q H' e
    have ea : (List.range xs.length).any B = true := List.any_eq_true.mpr ⟨i, List.mem_range.mpr hi, hb⟩
    rw [ea] at z
    exact z
  · rintro hno s' ⟨H', I', e⟩
    refine ⟨.bl false, H', I', rfl, ?_⟩
    have z := q H' e
    have ea : (List.range xs.length).any B = false := by
      rw [List.any_eq_false]
      intro j hj
      rw [hno j (List.mem_range.mp hj)]
      decide
    rw [ea] at z
    exact z
end MM
namespace MM
open PySem PySem.Spec PySem.Calls PyProof.Rows L2
/-! ### truths as texts -/
def blS (b : Bool) : Str := if b then "True" else "False"
section
variable {prog : Program} {w : World} {A : Around} {E : Value → Shared → Prop} {s : Shared}
open Builtin Builtin.Str in
theorem strOf_bool {b : Bool} {Q : Value → Shared → Prop} (h : Q (.str (blS b) s.toks) { s with toks := s.toks + 1 }) : wpAny (model prog w) A (PySem.Builtin.Str.strOf (.bool b)) Q E s := by
  unfold PySem.Builtin.Str.strOf
  rw [show isExactStr (.bool b) = false from rfl]
  simp only [cRoomFor, show [Value.bool b].any Value.onHeap = false from rfl, Bool.false_eq_true, if_false, pure_bind]
  refine wpAny_bind (m := callSpecial? _ (PySem.Str.ofString "__str__")) (wpAny_callSpecial?_slot (name := PySem.Str.ofString "__str__") (PySem.typeIs_bool s b) PySem.F.slot_bool_str (call_object_str_gives (PySem.typeIs_bool s b) PySem.F.slot_bool_str PySem.F.slot_bool_repr PySem.F.entry_bool_repr (PySem.F.args_bool_repr_1 _) (gives_bool_repr b) ?_ rfl (by cases b <;> decide)))
  exact wpAny_pure h
theorem str_of_bool {b : Bool} {Q : Value → Shared → Prop} (h : Q (.str (blS b) s.toks) { s with toks := s.toks + 1 }) : wpAny (model prog w) A (call (.type "str") [.bool b]) Q E s := by
  refine callType_codes (T := "str") (Bi := Builtin.«object.__init__») (Q₁ := fun r s₁ => ∃ y u, r = .str y u ∧ Q r s₁) PySem.F.called_str (PySem.F.typeCall_str_1 _) PySem.F.entry_object_init ?_ ?_
  · refine codeAny_of_tree ?_
    show wpAny _ A.in1.in1 (do checkBuiltinCall "str.__new__" ⟨[.type "str", .bool b], []⟩; again (.builtin "str.__new__" ⟨[.type "str", .bool b], []⟩)) _ _ s
    refine wpAny_bind (wpAny_of_eq (PySem.F.newCall_str_1 _) (wpAny_pure ⟨plainId_quiet (by decide +kernel) _, codeAny_builtin PySem.F.entry_str_new ?_⟩))
    rw [Around.under_plainId (by decide +kernel) _]
    rw [str_new_tree]
    refine wpAny_bind (wpAny_pure ?_)
    refine wpAny_bind (wpAny_of_eq isSubtype_str_str ?_)
    exact wpAny_bind (strOf_bool (wpAny_pure ⟨_, _, rfl, h⟩))
  · rintro obj s₁ ⟨y, u, rfl, hq⟩
    exact ⟨typeIs_str _ _ _, PySem.F.args_object_init_2 _ _, object_init_meets PySem.F.called_str.init.lookup PySem.F.called_str.made (by decide) prog w A.in1 _ s₁ ⟨typeIs_str _ _ _, rfl, hq⟩⟩
end
section
variable {X : Cx}
theorem call_str_bool : CallR X (.type "str") (fun xs H Q => ∃ b, xs = [.bl b] ∧ Q (.str (blS b)) H) := by
  intro pins s σ H xs us Q I r h
  obtain ⟨b, rfl, q⟩ := h
  obtain ⟨u, rfl, r1⟩ := vals1 r
  cases (show u = Value.bool b from r1)
  exact str_of_bool ⟨.str _, H, I.tok _, ⟨_, rfl⟩, q⟩
/-- str of a whole number or a truth -/
theorem call_strIB : CallR X (.type "str") (fun xs H Q => (∃ i : Int, xs = [.int i] ∧ i.natAbs.log2 < 1920 ∧ Q (.str (toString i)) H) ∨ ∃ b, xs = [.bl b] ∧ Q (.str (blS b)) H) := CallR.or call_str_int call_str_bool
/-- {x} of a truth -/
def tFmtB (te : TE) : TE := fun σ H Q => te σ H fun x H1 => ∃ b : Bool, x = .bl b ∧ Q (.str (blS b)) H1
theorem pe_fmtB {e : Expr} {te : TE} {pos : Pos} (he : PE X e te) : PE X (.FormattedValue e (-1) none pos) (tFmtB te) := by
  refine ⟨fun pins s σ H Q I h => ?_⟩
  refine wpAny_FormattedValue_plain (thn (he.run pins s σ H _ I h) fun v s1 hv => ?_)
  obtain ⟨x, H1, I1, r1, b, rfl, q⟩ := hv
  cases (show v = Value.bool b from r1)
  exact wpAny_formatField_bool ⟨.str (blS b), H1, I1.tok _, ⟨_, rfl⟩, q⟩
end
/-- str(x) of a whole number, a truth, or an instance with its own __str__ -/
@[irreducible] def rSA (C : Addr) (sp : Sp) (E : XK) : List V → Hp → VK → Prop := fun xs H Q => ((∃ i : Int, xs = [.int i] ∧ i.natAbs.log2 < 1920 ∧ Q (.str (toString i)) H) ∨ ∃ b, xs = [.bl b] ∧ Q (.str (blS b)) H) ∨ rStrO C sp E xs H Q
theorem sa_int {C : Addr} {sp : Sp} {E : XK} {H : Hp} {Q : VK} {i : Int} (h : i.natAbs.log2 < 1920) (q : Q (.str (toString i)) H) : rSA C sp E [.int i] H Q := by
  unfold rSA
  exact .inl (.inl ⟨i, rfl, h, q⟩)
theorem sa_bl {C : Addr} {sp : Sp} {E : XK} {H : Hp} {Q : VK} {b : Bool} (q : Q (.str (blS b)) H) : rSA C sp E [.bl b] H Q := by
  unfold rSA
  exact .inl (.inr ⟨b, rfl, q⟩)
theorem sa_own {C : Addr} {sp : Sp} {E : XK} {H : Hp} {Q : VK} {a dx : Addr} {fs : List (Str × V)} (e : H a = some (.ins C dx fs)) (q : sp [.ref a] H (fun v H' => ∃ x : Str, v = .str x ∧ Q (.str x) H') E) : rSA C sp E [.ref a] H Q := by
  unfold rSA
  exact .inr ⟨a, dx, fs, rfl, e, q⟩
theorem call_str_SA {X : Cx} {CX : CXT} {k : Nat} {C : Addr} {qual : Str} {st : Stmt} {ps : List Str} {sp : Sp} {E : XK} (c : Cm X.prog X.w X.K X.mg X.base CX k C "__str__" qual st ps sp) (b : Bd "__str__" qual st ps) (hr : Room (k + 2) X.A) (hx : Passes CX X E) :
    CallR X (.type "str") (rSA C sp E) := by
  obtain ⟨f, fd, F, M, hc, G⟩ := c.ex
  unfold rSA
  exact CallR.or call_strIB (call_strO G M.1 M.2 (F.bindsN b) hx hr)
theorem call_reprC {X : Cx} {CX : CXT} {k : Nat} {C : Addr} {qual : Str} {st : Stmt} {ps : List Str} {sp : Sp} {E : XK} (c : Cm X.prog X.w X.K X.mg X.base CX k C "__repr__" qual st ps sp) (b : Bd "__repr__" qual st ps) (hr : Room (k + 1) X.A) (hx : Passes CX X E) :
    CallR X (.builtin "repr") (rReprO C sp E) := by
  obtain ⟨f, fd, F, M, hc, G⟩ := c.ex
  exact call_reprO G M.1 M.2 (F.bindsN b) hx hr
theorem ln (xs : List V) (h : Nat.ble xs.length 1000 = true := by rfl) : xs.length ≤ sizeLine := Nat.le_trans (Nat.le_of_ble_eq_true h) (by decide)
end MM
namespace MM
open PySem PySem.Spec PyProof.Rows L2
/-! ### a class called in a try, the names as they stand at the call -/
section
variable {X : Cx} {k j n d : Nat} {C f : Addr} {fd : FuncData} {ps ks : List Str} {sp : Sp} {dvs : List V} {ds : List Value} {x qual : Str} {st : Stmt} {p pos : Pos} {e : Expr} {es : List Expr} {kws : List Keyword} {t tk : TA} {W : WX}
theorem make_S {pins : List (Addr × Obj)} {σ : L2.St} {H : Hp} {s : Shared} {Q : VK} {us : List Value} {zs : List V} {bs : List Value} {kv : List (Str × Value)} (M : Mk X.K C f) (F : FnOk X.prog X.w X.K X.mg X.base (L2.CX X.prog X.w) k f fd ps sp) (hr : Room (k + 1) X.A) (ht : Takes X W) (I : Inv X pins σ H s)
    (hb : ∀ s', X.K.In s'.heap → BindsTo s' fd ⟨Value.ref (s.heap.objs.size + 1) :: us, kv⟩ (ps.zip bs)) (r2 : Vals zs bs)
    (h : sp zs (L2.upd (L2.upd H s.heap.objs.size (.own (s.heap.objs.size + 1))) (s.heap.objs.size + 1) (.ins C s.heap.objs.size [])) (fun v H2 => v = .non ∧ Q (.ref (s.heap.objs.size + 1)) H2) (fun c d H' => W c d σ H')) :
    wpAny (model X.prog X.w) X.A (call (.ref C) us kv) (EP X pins σ Q) X.xe s := by
  have J := Inv.made (C := C) I
  have go := F.run _ X.stack _ _ ⟨Value.ref (s.heap.objs.size + 1) :: us, kv⟩ bs zs _ _ (hr.make C us kv) (J.env0.make C us kv) (hb _ J.kIn) r2 h
  refine wpAny_call (make_map (f := f) I.kIn M.makes M.init (beq_iff_eq.mp M.fn) (codeAny_mono go fun res s' hq => ?_))
  match res, hq with
  | .error er, hq => exact ht er s' (XE.of_call J (fun _ _ _ z => z) hq)
  | .ok .next, hq => exact hq.elim
  | .ok .brk, hq => exact hq.elim
  | .ok .cont, hq => exact hq.elim
  | .ok (.ret u), hq =>
    obtain ⟨v, H3, K3, rv, ev, q3⟩ := J.after hq
    subst ev
    exact ⟨rv, ⟨V.ref (s.heap.objs.size + 1), H3, K3, rfl, q3⟩⟩
/-- C(e, ..) -/
theorem pe_ciS (c : Ci X.prog X.w X.K X.mg X.base (L2.CX X.prog X.w) k x C qual st dvs ps sp) (b : Bd1 "__init__" qual st ps n d dvs.length) (hd : dvs ≠ []) (hn : n + (dvs.length - d) = ps.length) (hr : Room j X.A) (hk : k + 1 ≤ j) (ht : Takes X W) (hg : Gl X x) (ha : PA X (e :: es) t)
    (hdb : (x == ("__debug__" : Str)) = false := by decide) (he : starEach (e :: es) X.env = (false, eval e X.env) :: starEach es X.env := by rfl) (hpl : (backTo pos (starEach es X.env)).any (·.1) = false := by rfl) :
    PE X (.Call (.Name x p) (e :: es) [] pos) (fun σ H Q => t σ H fun vs H1 => ∀ a dx, H1 a = none → H1 dx = none → dx ≠ a → sp (.ref a :: (vs ++ dvs.drop d)) (L2.upd (L2.upd H1 dx (.own a)) a (.ins C dx [])) (fun v H2 => v = .non ∧ Q (.ref a) H2) (fun c d H' => W c d σ H')) := by
  obtain ⟨f, fd, F, M, hm, G⟩ := c.ex
  obtain ⟨ds, r, bb⟩ := F.binds1 n d hd hn b
  refine ⟨fun pins s σ H Q I h => ?_⟩
  refine wpAny_Call_Name_kw (ld_glob I hg hm ?_ hdb)
  refine PySem.W.callWith_K (h₀ := X.base) I.ok.mod.kin M.kp (thn (ha.run pos pins s σ H _ I h) fun us s1 ⟨vs, H1, I1, rv, q⟩ => ⟨I1.kIn, ?_⟩) he hpl
  have hq := q (s1.heap.objs.size + 1) s1.heap.objs.size (I1.hok.fresh (Nat.le_succ _)) (I1.hok.fresh (Nat.le_refl _)) (Nat.ne_of_lt (Nat.lt_succ_self _))
  have r2 : Vals (V.ref (s1.heap.objs.size + 1) :: (vs ++ dvs.drop d)) (Value.ref (s1.heap.objs.size + 1) :: (us ++ ds)) := .cons rfl (rv.append r)
  refine make_S M G (hr.mono hk) ht I1 (fun s' hK => ?_) r2 hq
  exact bb s' (Value.ref (s1.heap.objs.size + 1) :: us) hK (r2.length.symm.trans (G.len _ _ _ _ hq))
/-- C(k = v, ..) -/
theorem pe_ciKS0 {g : {α : Type} → List α → List α → List α → List α} (c : Ci X.prog X.w X.K X.mg X.base (L2.CX X.prog X.w) k x C qual st dvs ps sp) (b : Kd qual st dvs.length 1 ks ps g) (hd : dvs ≠ []) (hr : Room j X.A) (hk : k + 1 ≤ j) (ht : Takes X W) (hg : Gl X x) (hkw : PK X kws tk)
    (hall : (backToKw pos (keywordEach kws X.env)).all (·.1.isSome) = true := by rfl) (hks : (backToKw pos (keywordEach kws X.env)).filterMap (·.1) = ks := by rfl) (hdb : (x == ("__debug__" : Str)) = false := by decide)
    (hpl : ((backTo pos (starEach [] X.env)).any (·.1) || (backToKw pos (keywordEach kws X.env)).any (·.1.isNone)) = false := by rfl) :
    PE X (.Call (.Name x p) [] kws pos) (fun σ H Q => tk σ H fun zs H1 => zs.length = ks.length ∧ ∀ a dx, H1 a = none → H1 dx = none → dx ≠ a → sp (g [.ref a] dvs zs) (L2.upd (L2.upd H1 dx (.own a)) a (.ins C dx [])) (fun v H2 => v = .non ∧ Q (.ref a) H2) (fun c d H' => W c d σ H')) := by
  obtain ⟨f, fd, F, M, hm, G⟩ := c.ex
  obtain ⟨its, hb⟩ := F.kbindsD 1 ks g hd b.rel b.bind
  refine ⟨fun pins s σ H Q I h => ?_⟩
  refine wpAny_Call_Name_kw (ld_glob I hg hm ?_ hdb)
  refine PySem.W.callWith_KW0 (h₀ := X.base) I.ok.mod.kin M.kp hall ?_ hpl
  refine thn (hkw.run pos pins s σ H _ I h) fun ws s1 ⟨zs, H1, I1, rz, l2, q⟩ => ⟨I1.kIn, ?_⟩
  rw [hks]
  have hq := q (s1.heap.objs.size + 1) s1.heap.objs.size (I1.hok.fresh (Nat.le_succ _)) (I1.hok.fresh (Nat.le_refl _)) (Nat.ne_of_lt (Nat.lt_succ_self _))
  have r2 := hb.rel (vs := [V.ref (s1.heap.objs.size + 1)]) (us := [Value.ref (s1.heap.objs.size + 1)]) (.cons rfl .nil) rz
  refine make_S (us := []) M G (hr.mono hk) ht I1 (fun s' hK => ?_) r2 hq
  exact hb.to s' [Value.ref (s1.heap.objs.size + 1)] ws hK rfl (rz.length.symm.trans l2)
/-- C(e, .., k = v, ..) -/
theorem pe_ciKS {g : {α : Type} → List α → List α → List α → List α} (c : Ci X.prog X.w X.K X.mg X.base (L2.CX X.prog X.w) k x C qual st dvs ps sp) (b : Kd qual st dvs.length (n + 1) ks ps g) (hd : dvs ≠ []) (hr : Room j X.A) (hk : k + 1 ≤ j) (ht : Takes X W) (hg : Gl X x) (ha : PA X (e :: es) t) (hkw : PK X kws tk)
    (hall : (backToKw pos (keywordEach kws X.env)).all (·.1.isSome) = true := by rfl) (hks : (backToKw pos (keywordEach kws X.env)).filterMap (·.1) = ks := by rfl) (hdb : (x == ("__debug__" : Str)) = false := by decide)
    (he : starEach (e :: es) X.env = (false, eval e X.env) :: starEach es X.env := by rfl) (hpl : ((backTo pos (starEach (e :: es) X.env)).any (·.1) || (backToKw pos (keywordEach kws X.env)).any (·.1.isNone)) = false := by rfl) :
    PE X (.Call (.Name x p) (e :: es) kws pos) (fun σ H Q => t σ H fun vs H0 => tk σ H0 fun zs H1 => vs.length = n ∧ zs.length = ks.length ∧ ∀ a dx, H1 a = none → H1 dx = none → dx ≠ a → sp (g (.ref a :: vs) dvs zs) (L2.upd (L2.upd H1 dx (.own a)) a (.ins C dx [])) (fun v H2 => v = .non ∧ Q (.ref a) H2) (fun c d H' => W c d σ H')) := by
  obtain ⟨f, fd, F, M, hm, G⟩ := c.ex
  obtain ⟨its, hb⟩ := F.kbindsD (n + 1) ks g hd b.rel b.bind
  refine ⟨fun pins s σ H Q I h => ?_⟩
  refine wpAny_Call_Name_kw (ld_glob I hg hm ?_ hdb)
  refine PySem.W.callWith_KW (h₀ := X.base) I.ok.mod.kin M.kp hall (thn (ha.run pos pins s σ H _ I h) fun us s0 ⟨vs, H0, I0, r, q0⟩ => ?_) hpl he
  refine thn (hkw.run pos pins s0 σ H0 _ I0 q0) fun ws s1 ⟨zs, H1, I1, rz, l1, l2, q⟩ => ⟨I1.kIn, ?_⟩
  rw [hks]
  have hq := q (s1.heap.objs.size + 1) s1.heap.objs.size (I1.hok.fresh (Nat.le_succ _)) (I1.hok.fresh (Nat.le_refl _)) (Nat.ne_of_lt (Nat.lt_succ_self _))
  have r2 := hb.rel (vs := V.ref (s1.heap.objs.size + 1) :: vs) (us := Value.ref (s1.heap.objs.size + 1) :: us) (.cons rfl r) rz
  refine make_S M G (hr.mono hk) ht I1 (fun s' hK => ?_) r2 hq
  exact hb.to s' (Value.ref (s1.heap.objs.size + 1) :: us) ws hK (by rw [List.length_cons, ← r.length, l1]) (rz.length.symm.trans l2)
end
end MM
namespace MM
open PySem PySem.Spec PyProof.Rows L2
section
variable {J : It} {n : Nat} {G : Hp → Prop} {Y : Nat → Hp → V → Hp → Prop}
/-- a comprehension with a test, whose i-th thing is f i, and there where B i -/
theorem lc_fltV (w : Walk J n G Y) (hY : ∀ i H x H', Y i H x H' → Same H H') {g : TG} {tt : TT} {te : TE} {vs : List Nat} {σ : L2.St} {H : Hp} {D : Addr} {Qd : Hp → Prop} (nD : H D = none) (hn : n < sizeLine) (f : Nat → V) (B : Nat → Bool) (hG : ∀ H', Same H H' → G H')
    (hs : ∀ i x H1 H2 (R : V → Hp → Prop) (N : Hp → Prop), i < n → Same H H1 → Y i H1 x H2 → (B i = true → ∀ H3, Same H2 H3 → R (f i) H3) → (B i = false → ∀ H3, Same H2 H3 → N H3) → g x (wipe σ vs) H2 fun σ2 H3 => wipe σ2 vs = wipe σ vs ∧ tt σ2 H3 fun b H4 => if b = true then te σ2 H4 R else N H4)
    (hd : ∀ H', H' D = some (.lst (((List.range n).filter B).map f)) → Same H H' → Qd H') :
    ∃ W : Nat → Nat → Hp → Prop, (∃ m, W 0 m (L2.upd H D (.lst []))) ∧ ∀ i m H, W i m H →
      (J.stop i H ∧ Qd H) ∨ (J.go i H ∧ ∃ Nx : Hp → Prop, (∀ H', Nx H' → ∃ m', m' < m ∧ W (i + 1) m' H') ∧ ∀ x H', J.yld i H x H' → g x (wipe σ vs) H' fun σ2 H2 => wipe σ2 vs = wipe σ vs ∧ tt σ2 H2 fun b H3 =>
        if b = true then te σ2 H3 fun y H4 => ∃ acc, H4 D = some (.lst acc) ∧ acc.length < sizeLine ∧ Nx (L2.upd H4 D (.lst (acc ++ [y]))) else Nx H3) := by
  refine lc_it w (fun i H' => H' D = some (.lst (((List.range i).filter B).map f)) ∧ Same H H') ⟨upd_same, upd_keep nD (Same.refl H)⟩ (fun i H' _ ⟨_, s⟩ => hG H' s) ?_ (fun H' ⟨e, s⟩ => hd H' e s)
  rintro i x H1 H2 hi ⟨e, s⟩ y
  have s2 := hY _ _ _ _ y
  have el : (((List.range i).filter B).map f).length < sizeLine := by
    rw [List.length_map]
    have := List.length_filter_le B (List.range i)
    rw [List.length_range] at this
    omega
  refine hs i x H1 H2 _ _ hi s y (fun hB H3 s3 => ?_) (fun hB H3 s3 => ?_)
  · refine ⟨_, s3 _ _ (s2 _ _ e), el, ?_, upd_keep nD (s.trans (s2.trans s3))⟩
    rw [upd_same, List.range_succ, List.filter_append, List.map_append]
    simp [hB]
  · refine ⟨?_, s.trans (s2.trans s3)⟩
    rw [s3 _ _ (s2 _ _ e), List.range_succ, List.filter_append]
    simp [hB]
end
/-! ### sorted of pairs of a whole number and a truth -/
section
open SrtO Srt
variable {prog : Program} {w : World} {A : Around} {E : Value → Shared → Prop} {s : Shared}
/-- at v a pair of a whole number and a truth -/
def PrB (h : Heap) (v : Value) (x : Int) (b : Bool) : Prop := ∃ a o t n, v = .ref a ∧ h.get? a = some o ∧ o.cls = .type "tuple" ∧ o.data = .seq #[.int x t, .bool b] n
theorem PrB.keeps {h h' : Heap} {v : Value} {x : Int} {b : Bool} (p : PrB h v x b) (k : ∀ c o, h.get? c = some o → o.cls = .type "tuple" → h'.get? c = some o) : PrB h' v x b := by
  obtain ⟨a, o, t, n, rfl, e, c, d⟩ := p
  exact ⟨a, o, t, n, rfl, k a o e c, c, d⟩
theorem prb_firsts {h : Heap} : ∀ {vs : List Value}, (∀ v ∈ vs, ∃ x b, PrB h v x b) → ∃ fs : List Value, PySem.W.KatTups h vs fs ∧ fs.length = vs.length ∧ ∀ f ∈ fs, ∃ x t, f = Value.int x t
  | [], _ => ⟨[], .nil, rfl, fun _ z => absurd z List.not_mem_nil⟩
  | v :: vs, hp => by
    obtain ⟨fs, k, l, i⟩ := prb_firsts (vs := vs) fun u hu => hp u (List.mem_cons_of_mem _ hu)
    obtain ⟨x, b, a, o, t, n, rfl, ho, hc, hd⟩ := hp v List.mem_cons_self
    refine ⟨.int x t :: fs, .cons ho hc hd rfl k, congrArg Nat.succ l, fun f hf => ?_⟩
    rcases List.mem_cons.mp hf with rfl | hf
    · exact ⟨x, t, rfl⟩
    · exact i f hf
/-- the pair's key -/
def kB (p : Int × Bool) : Int × Int := (p.1, b2i p.2)
theorem prb_cmp {vs : List Value} {k : Value → Int × Bool} (hp : ∀ v ∈ vs, PrB s.heap v (k v).1 (k v).2) : Cmp prog w A s (tuples' true) (fun p => p.1 ∈ vs) (lt2 fun v u => lexB (kB (k v)) (kB (k u))) := by
  intro p q m1 m2
  obtain ⟨a, o, t, n, e, ho, hc, hd⟩ := hp _ m1
  obtain ⟨a', o', t', n', e', ho', hc', hd'⟩ := hp _ m2
  show wpAny (model prog w) A (keyLt' (tuples' true) p.1 q.1) (fun r s' => s' = s ∧ r = lexB (kB (k p.1)) (kB (k q.1))) (fun _ _ => False) s
  generalize (k p.1) = z at *
  generalize (k q.1) = z' at *
  obtain ⟨x, b⟩ := z
  obtain ⟨x', b'⟩ := z'
  rw [e, e']
  refine PySem.W.kat_lt ho hd ho' hd' (PySem.W.kat_cons (SeqAt.EqAt.int_int x t x' t' prog w _ _ (PySem.W.kat_go (fun e1 => ?_) (fun e1 => ?_))))
  · have ex : x = x' := by simpa using e1
    refine PySem.W.kat_yes (PySem.W.kat_cons (SeqAt.EqAt.bool_bool b b' prog w _ _ (PySem.W.kat_go (fun e2 => ?_) (fun e2 => ?_))))
    · have ey : b = b' := by simpa using e2
      refine PySem.W.kat_yes (PySem.W.kat_nil ⟨rfl, ?_⟩)
      show decide (2 < 2) = lexB (x, b2i b) (x', b2i b')
      rw [ex, ey]
      unfold lexB
      rw [if_pos rfl, decide_eq_false (Int.lt_irrefl _)]
      rfl
    · refine PySem.W.kat_no (PySem.W.kat_one _ _ (PyProof.Rows.lt_bool ?_))
      refine (show s = s ∧ decide (b2i b < b2i b') = lexB (x, b2i b) (x', b2i b') from ⟨rfl, ?_⟩)
      unfold lexB
      rw [if_pos ex]
  · have ex : ¬ x = x' := by simpa using e1
    refine PySem.W.kat_no (oneLt_int ⟨rfl, ?_⟩)
    show _ = lexB (x, b2i b) (x', b2i b')
    unfold lexB
    rw [if_neg ex]
theorem prb_sorted {l : Addr} {vs : List Value} {k : Value → Int × Bool} {Q : Value → Shared → Prop} (hl : s.heap.IsList l vs.toArray) (hz : vs.length ≤ sizeLine) (hp : ∀ v ∈ vs, PrB s.heap v (k v).1 (k v).2)
    (hs : Srtd (fun v u => lexB (kB (k v)) (kB (k u))) vs)
    (h : ∀ (h' : Heap) (d : Addr), (∀ b o, s.heap.get? b = some o → h'.get? b = some o) → s.heap.objs.size ≤ d → (∃ n, h'.get? d = some (seqObj "list" vs.toArray n)) → Q (.ref d) { s with heap := h' }) :
    wpAny (model prog w) A (call (.builtin "sorted") [.ref l]) Q E s := by
  have O : Swo fun v u => lexB (kB (k v)) (kB (k u)) := swo_lex fun v => kB (k v)
  refine sorted_ord O hl hz (fun h2 h₁ a ha kk => ?_) fun out so sb => ?_
  · intro h' keep
    have nt : ∀ o, h₁.get? a = some o → o.cls ≠ .type "tuple" := fun o e c => by
      rw [ha] at e
      cases e
      exact absurd (Value.type.inj c) (by decide)
    have hp' : ∀ v ∈ vs, PrB h' v (k v).1 (k v).2 := fun v hm => (hp v hm).keeps fun b o e c => keep b o (fun z => nt o (by rw [← z]; exact (kk b o e).2) c) (kk b o e).2
    obtain ⟨fs, f1, f2, f3⟩ := prb_firsts fun v hm => ⟨_, _, hp' v hm⟩
    refine ⟨tuples' true, fun Q E hq => ?_, prb_cmp hp'⟩
    refine PySem.W.kat_kind (T := .type "int") f1 (by omega) (fun f hm => ?_) (by rfl) ?_
    · obtain ⟨x, t, rfl⟩ := f3 f hm
      exact PySem.W.Looks.now
    · have e : (Value.type "int" != Value.type "tuple") = true := by first | rfl | decide +kernel
      rw [e]
      exact hq
  · obtain rfl : out = vs := stb_uniq O so hs sb
    exact h _ _ (fun b o e => sortedAll_old e) (Nat.le_succ _) (sortedAll_at s.heap out out.toArray)
end
/-- sorted(xs) of pairs that stand sorted already -/
def rSortedIB (K : PySem.W.Frag) : List V → Hp → VK → Prop := fun vs H Q => ∃ (a : Addr) (xs : List V) (k : V → Int × Bool), vs = [V.ref a] ∧ SqL K H a xs ∧ (∀ x ∈ xs, ∃ t, x = V.ref t ∧ H t = some (.tup [.int (k x).1, .bl (k x).2])) ∧
  xs.Pairwise (fun x y => SrtO.lexB (kB (k y)) (kB (k x)) = false) ∧ ∀ p, H p = none → Q (.ref p) (upd H p (.lst xs))
theorem cr_sortedIB {X : Cx} : CallR X (.builtin "sorted") (rSortedIB X.K) := by
  intro pins s σ H vs us Q I r h
  obtain ⟨a, xs, k, rfl, hs, hx, hp, q⟩ := h
  obtain ⟨its, rv, hl, hz⟩ := I.list hs
  obtain ⟨u, rfl, ru⟩ := vals1 r
  obtain rfl : u = Value.ref a := ru
  obtain ⟨e1, e2⟩ := refs_back rv fun x m => by
    obtain ⟨t, e, _⟩ := hx x m
    exact ⟨t, e⟩
  refine prb_sorted (k := fun u => k (backV u)) hl.isList (by rw [← rv.length]; exact hz) (fun v hv => ?_) ?_ fun h' d kp hd hn => ?_
  · obtain ⟨t, rfl⟩ := e2 v hv
    have hm : V.ref t ∈ xs := by rw [e1]; exact List.mem_map.mpr ⟨_, hv, rfl⟩
    obtain ⟨t', e, ht⟩ := hx _ hm
    cases e
    obtain ⟨_, its2, r2, o, ho, hc, n, hd⟩ := I.hok _ _ ht
    obtain ⟨u1, u2, rfl, ri, rj⟩ := vals2 r2
    obtain ⟨t1, rfl⟩ := ri
    cases (show u2 = Value.bool _ from rj)
    exact ⟨t, o, t1, n, rfl, ho, hc, hd⟩
  · rw [e1, List.pairwise_map] at hp
    exact hp
  · obtain ⟨n, hn⟩ := hn
    exact ⟨.ref d, upd H d (.lst xs), I.laid (t' := s.toks) kp hd ⟨hz, its, n, rv, hn⟩, rfl, q d (I.hok.fresh hd)⟩
end MM
namespace MM
open PySem PySem.Spec PySem.Calls PyProof.Rows L2
/-! ### len(x) of an instance with its own __len__ -/
section
variable {prog : Program} {w : World} {A : Around} {E : Value → Shared → Prop} {s : Shared} {K : PySem.W.Frag} {x C f : Addr} {ox : Obj} {od : Option Obj}
open PySem.Builtin in
theorem len_fn {Q : Value → Shared → Prop} (X : K.In s.heap) (I : PySem.W.InstAt s.heap x ox C od) (hs : PySem.W.findIn K (.ref C) "__len__" = some (some (.ref f))) (hf : PySem.W.isFn K (.ref f) = true)
    (hcall : wpAny (model prog w) A.in1 (call (.ref f) [.ref x]) (fun r s' => ∃ n u, r = .int n u ∧ 0 ≤ n ∧ n < 2 ^ 63 ∧ Q (.int n s'.toks) { s' with toks := s'.toks + 1 }) E s) :
    wpAny (model prog w) A (call (.builtin "len") [.ref x]) Q E s := by
  refine PySem.Calls.call_function_entry kind_len plain_len entry_len (args_len1 _) ?_
  unfold Builtin.«len»
  refine wpAny_bind (m := oneArg "len" _) (wpAny_pure ?_)
  refine wpAny_bind (m := callSpecial? (.ref x) (Str.ofString "__len__")) (PySem.W.special_fn X I hs (beq_iff_eq.mp hf) (wpAny_mono hcall (fun r s' hr => ?_) fun _ _ y => y))
  obtain ⟨n, u, rfl, h0, h1, hq⟩ := hr
  refine wpAny_bind (wpAny_holding (wpAny_pure ?_))
  refine wpAny_bind (wpAny_letGo ?_)
  show wpAny _ _ (if n < 0 then _ else _) _ _ _
  rw [if_neg (by omega)]
  show wpAny _ _ (if n ≥ 2 ^ 63 then _ else _) _ _ _
  rw [if_neg (by omega)]
  exact wpAny_bind (wpAny_mkInt (wpAny_pure ⟨_, rfl, hq⟩))
end
def rLenO (C : Addr) (sp : Sp) (E : XK) : List V → Hp → VK → Prop := fun xs H Q => ∃ (a dx : Addr) (fs : List (Str × V)), xs = [.ref a] ∧ H a = some (.ins C dx fs) ∧ sp [.ref a] H (fun v H' => ∃ n : Nat, v = .int n ∧ n < 2 ^ 60 ∧ Q (.int n) H') E
theorem call_lenO {X : Cx} {CX : CXT} {k : Nat} {C f : Addr} {fd : FuncData} {ps : List Str} {sp : Sp} {E : XK} (F : FnOk X.prog X.w X.K X.mg X.base CX k f fd ps sp) (hs : PySem.W.findIn X.K (.ref C) "__len__" = some (some (.ref f))) (hf : PySem.W.isFn X.K (.ref f) = true) (hb : Binds X.K fd ps []) (hx : Passes CX X E) (hr : Room (k + 1) X.A) : CallR X (.builtin "len") (rLenO C sp E) := by
  intro pins s σ H xs us Q I r h
  obtain ⟨a, dx, fs, rfl, ha, hq⟩ := h
  obtain ⟨u, rfl, r1⟩ := vals1 r
  cases (show u = Value.ref a from r1)
  obtain ⟨mA, J, _⟩ := ins_get I.hok ha
  obtain ⟨od, J, _⟩ := J.look
  have hr1 : Room k X.A.in1 := hr.in1
  have hl : ([Value.ref a] ++ []).length = ps.length := (show ([V.ref a] : List V).length = _ from F.len _ _ _ _ hq)
  refine len_fn I.kIn J hs hf (wpAny_call (codeAny_mono (F.run X.A.in1 X.stack s H ⟨[.ref a], []⟩ [.ref a] [.ref a] _ E hr1 I.env0.in1 (hb s [.ref a] I.kIn hl) (.cons rfl .nil) hq) fun res s' hres => ?_))
  match res, hres with
  | .error er, hres => exact hx pins σ H s er s' I hres
  | .ok .next, hres => exact hres.elim
  | .ok .brk, hres => exact hres.elim
  | .ok .cont, hres => exact hres.elim
  | .ok (.ret u), hres =>
    obtain ⟨z, H', I', rz, n, rfl, hn, q⟩ := I.after hres
    obtain ⟨t, rfl⟩ := rz
    refine ⟨(n : Int), t, rfl, by omega, by omega, .int n, H', I'.tok _, ⟨_, rfl⟩, q⟩
theorem call_lenC {X : Cx} {CX : CXT} {k : Nat} {C : Addr} {qual : Str} {st : Stmt} {ps : List Str} {sp : Sp} {E : XK} (c : Cm X.prog X.w X.K X.mg X.base CX k C "__len__" qual st ps sp) (b : Bd "__len__" qual st ps) (hr : Room (k + 1) X.A) (hx : Passes CX X E) :
    CallR X (.builtin "len") (rLenO C sp E) := by
  obtain ⟨f, fd, F, M, hc, G⟩ := c.ex
  exact call_lenO G M.1 M.2 (F.bindsN b) hx hr
/-! ### classes whose __init__ has no defaults -/
theorem di_mk0 {K : PySem.W.Frag} {mg : Str → Option Value} {x qual : Str} {st : Stmt} {f C : Addr} {oc kV doc pm cdv ct : Value} {od an : Option Addr} {osl : Array (Option Value)} (hC : mg x = some (.ref C)) (a : PySem.W.findIn K (.ref C) "__init__" = some (some (.ref f))) (i : PySem.W.isFn K (.ref f) = true)
    (l : K.lookup f = some ⟨oc, od, .func (PySem.W.fnOf "__init__" qual (defArgs st) (defBody st) (defScope st) .none kV doc pm an cdv ct), osl⟩) (c : PySem.W.codeIn K cdv qual = true) (k : PySem.W.keepIn K (.ref f) = true)
    (mk : PySem.W.makesIn K C = true) (kc : PySem.W.keepIn K (.ref C) = true) : Di K mg x C qual st [] :=
  ⟨f, _, ⟨⟨oc, od, .none, kV, doc, pm, an, cdv, ct, osl, rfl, l, c, .inl ⟨rfl, rfl⟩, .inl rfl⟩, k⟩, ⟨mk, a, i, kc⟩, hC⟩
section
variable {X : Cx} {CX : CXT} {k j n d : Nat} {C : Addr} {x m qual : Str} {st : Stmt} {sp : Sp} {ps ks : List Str} {E : XK} {p pos apos : Pos} {e o : Expr} {es : List Expr} {kws : List Keyword} {ta : TE} {t tk : TA}
/-- C(e, ..), all by place -/
theorem pe_ciN (c : Ci X.prog X.w X.K X.mg X.base CX k x C qual st [] ps sp) (b : Bd "__init__" qual st ps) (hr : Room j X.A) (hk : k + 1 ≤ j) (hx : Passes CX X E) (hg : Gl X x) (ha : PA X (e :: es) t)
    (hdb : (x == ("__debug__" : Str)) = false := by decide) (he : starEach (e :: es) X.env = (false, eval e X.env) :: starEach es X.env := by rfl) (hpl : (backTo pos (starEach es X.env)).any (·.1) = false := by rfl) :
    PE X (.Call (.Name x p) (e :: es) [] pos) (tMake C sp [] E t) := by
  obtain ⟨f, fd, F, M, hm, G⟩ := c.ex
  exact pe_make M G (hr.mono hk) hg hm (F.bindsN b) .nil hx ha hdb he hpl
/-- o.m() -/
theorem pe_cm0 {pl : Sem Bool} (c : Cm X.prog X.w X.K X.mg X.base CX k C m qual st ps sp) (b : Bd m qual st ps) (hr : Room j X.A) (hk : k ≤ j) (hx : Passes CX X E) (he : PE X o ta)
    (ht : eval (.Call (.Attribute o m apos) [] [] pos) X.env = (do
      let ov ← eval o X.env
      standAt apos.atName
      let (f, first) ← holding [ov] (getMethod ov m pl)
      callWith pos f first (backTo pos (starEach [] X.env)) (backToKw pos (keywordEach [] X.env))) := by rfl) :
    PE X (.Call (.Attribute o m apos) [] [] pos) (tMeth C m sp [] E ta tNil) := by
  obtain ⟨f, fd, F, M, hc, G⟩ := c.ex
  exact pe_meth0 (pl := pl) he hc M G (hr.mono hk) (F.bindsN b) .nil hx ht
/-- C(k = v, ..), all by keywords -/
theorem pe_ciNK {g : {α : Type} → List α → List α → List α} (c : Ci X.prog X.w X.K X.mg X.base CX k x C qual st [] ps sp) (b : Kbm "__init__" qual st 1 ks ps g) (hrel : ∀ {vs : List V} {us : List Value} {zs : List V} {ws : List Value}, Vals vs us → Vals zs ws → Vals (g vs zs) (g us ws)) (hr : Room j X.A) (hk : k + 1 ≤ j) (hx : Passes CX X E) (hg : Gl X x) (hkw : PK X kws tk)
    (hall : (backToKw pos (keywordEach kws X.env)).all (·.1.isSome) = true := by rfl) (hks : (backToKw pos (keywordEach kws X.env)).filterMap (·.1) = ks := by rfl) (hdb : (x == ("__debug__" : Str)) = false := by decide)
    (hpl : ((backTo pos (starEach [] X.env)).any (·.1) || (backToKw pos (keywordEach kws X.env)).any (·.1.isNone)) = false := by rfl) :
    PE X (.Call (.Name x p) [] kws pos) (tMakeK C 0 ks.length sp g E tNil tk) := by
  obtain ⟨f, fd, F, M, hm, G⟩ := c.ex
  obtain ⟨kV, doc, pm, an, cdv, ct, rfl⟩ := FunD.none F
  exact pe_makeK0 (g := g) (gV := g) M G (hr.mono hk) hg hm ⟨fun s us ws _ l1 l2 => .of_eq (b.bind kV doc pm an cdv ct us ws l1 l2), hrel⟩ hx hkw hall hks hdb hpl
end
end MM
/-! own classes of errors over KeyError: it is made by LookupError's own maker -/
namespace MM
open PySem PySem.Spec PySem.Calls
open PyProof.Rows (ExcClass)
section
variable {M : Model} {prog : Program} {w : World} {A : Around} {E : Value → Shared → Prop} {R : Result → Shared → Prop} {h : Heap} {g : Array GenState} {d : Drawn} {t : Nat} {os : OsState}
variable {nm q : Str} {C N : Addr} {bs bm bN : List Value} {hdct : Bool} {sn : List Str} {sub : List Value} {ab : Bool} {col : Option Bool} {dd : Option Addr} {k0 k1 k2 k3 k5 : Option Value} {B Bn newId iN initId : String}
theorem over_own (C : Addr) {X : String} {b : Bool} (h : bm.contains (.type X) = b) : (Value.ref C :: bm).contains (.type X) = b := by
  rw [List.contains_cons, h]
  cases b <;> rfl
theorem check_new_y (F : ExcBaseFacts Bn newId iN bN) (hB : bm.contains (.type Bn) = true) {rest : List Value} {Q : Unit → Shared → Prop}
    (hC : h.get? C = some (excClassObj nm q C N bs bm hdct sn sub ab col dd k0 k1 k2 k3 k5 newId)) (hq : Q () ⟨h, g, d, t, os⟩) : wpAny M A (checkBuiltinCall newId ⟨.ref C :: rest, []⟩) Q E ⟨h, g, d, t, os⟩ := by
  have c1 := over_own C hB
  have c2 := F.noStar
  simp only [checkBuiltinCall, F.newKind, F.newSplit, F.newRow]
  repeat (first | refine wpAny_loadPart_at hC ?_ | (refine wpAny_isSubtype_exc hC ?_; rw [c1]) | refine wpAny_staticBase_exc hC ?_ | refine wpAny_madeBy_exc hC ?_ | simp only [bne_self_eq_false, Bool.false_eq_true, if_false] | wp_step)
  exact hq
theorem check_init_y (F : ExcClass B newId initId) (hB : bm.contains (.type B) = true) {e : Addr} {oe : Obj} {rest : List Value} {Q : Unit → Shared → Prop}
    (hC : h.get? C = some (excClassObj nm q C N bs bm hdct sn sub ab col dd k0 k1 k2 k3 k5 newId)) (he : h.get? e = some oe) (hcls : oe.cls = .ref C) (hq : Q () ⟨h, g, d, t, os⟩) :
    wpAny M A (checkBuiltinCall initId ⟨.ref e :: rest, []⟩) Q E ⟨h, g, d, t, os⟩ := by
  have c1 := over_own C hB
  have c2 := F.notStar
  simp only [checkBuiltinCall, F.initKind, F.initSplit, F.initSig]
  repeat (first | (with_reducible refine wpAny_loadPart_at he ?_; rw [hcls]) | with_reducible refine wpAny_loadPart_at hC ?_ | (with_reducible refine wpAny_isSubtype_exc hC ?_; rw [c1]) | wp_step)
  refine wpAny_onRaise ?_
  rw [show ∀ (a b : String) (n : Nat), Bind.check ⟨.positional, "*", B, .self, [⟨"args", .varPos, false⟩]⟩ a b n (List.map (fun x => x.fst) ({ pos := Value.ref e :: rest } : Args).kw) = pure () from fun a b n => check_star_args _ _ _ _ _ _]
  exact wpAny_pure hq
theorem new_y (F : ExcBaseFacts Bn newId iN bN) (hB : bm.contains (.type Bn) = true) (hA : bm.contains (.type "AttributeError") = false) (hN : bm.contains (.type "NameError") = false) {rest : List Value}
    (hC : h.get? C = some (excClassObj nm q C N bs bm hdct sn sub ab col dd k0 k1 k2 k3 k5 newId))
    (hq : R (.ok (.ret (.ref (h.objs.size + 1)))) ⟨(h.push (PySem.W.kdv_tup rest)).push (PySem.HandSPX.excO C h.objs.size), g, d, t, os⟩) (hl : rest.length ≤ sizeLine) :
    codeAny (model prog w) A (.builtin newId ⟨.ref C :: rest, []⟩) R ⟨h, g, d, t, os⟩ := by
  have c0 := F.ends
  have c1 := over_own C hB
  have c2 := over_own C hA
  have c3 := over_own C hN
  refine codeAny_builtinAt F.entry ?_
  unfold Builtin.«BaseException.__new__»
  refine wpAt_bind ?_
  show wpAt _ _ _ (stack >>= _) _ _ _
  refine wpAt_bind (wpAt_stack fun p below => wpAt_of_wpAny ?_)
  wp_walk
  refine wpAt_of_wpAny ?_
  rw [F.owner]
  repeat (first | with_reducible refine wpAny_madeHere_exc F.canon hC ?_ | with_reducible refine wpAny_loadPart_at hC ?_ | (with_reducible refine wpAny_isSubtype_exc hC ?_; first | rw [c1] | rw [c2] | rw [c3]) | wp_step)
  show R _ _
  rw [Heap.size_push]
  exact hq
theorem type_call_y (F : ExcBaseFacts Bn newId iN bN) (hA : bm.contains (.type "AttributeError") = false) (hN : bm.contains (.type "NameError") = false) (hB : bm.contains (.type Bn) = true) {rest : List Value} {fI : Addr} {Q : Fin → Shared → Prop}
    (hC : h.get? C = some (excClassObj nm q C N bs bm hdct sn sub ab col dd k0 k1 k2 k3 k5 newId))
    (hi : PySem.W.Looks (model prog w) h (typeLookup (.ref C) "__init__") (some (.ref fI))) (hb : ∀ self, PySem.W.Looks (model prog w) h (bindSpecial (.ref fI) self) (.ref fI, [self])) (hl : rest.length ≤ sizeLine)
    (hq : codeAny (model prog w) A (.call (.ref fI) ⟨.ref (h.objs.size + 1) :: rest, []⟩)
      (fun r s' => match r with | .ok (.ret v) => v = .none ∧ Q (.done (.ret (.ref (h.objs.size + 1)))) s' | .ok _ => False | .error e => E e s')
      ⟨(h.push (PySem.W.kdv_tup rest)).push (PySem.HandSPX.excO C h.objs.size), g, d, t, os⟩) :
    wpAny (model prog w) A (Builtin.«type.__call__» ⟨.ref C :: rest, []⟩) Q E ⟨h, g, d, t, os⟩ := by
  repeat (first | with_reducible refine wpAny_loadPart_at hC ?_ | with_reducible refine wpAny_madeBy_exc hC ?_ | wp_step)
  refine codeAny_call_builtin_code (Code.quiet_builtin _ F.quiet) (check_new_y F hB hC ?_)
  refine new_y F hB hA hN hC ?_ hl
  show wpAny _ _ _ _ _ _
  have k : ∀ b o, h.get? b = some o → ((h.push (PySem.W.kdv_tup rest)).push (PySem.HandSPX.excO C h.objs.size)).get? b = some o := fun b o e => Heap.get?_push_of_some _ (Heap.get?_push_of_some _ e)
  have hC1 := k _ _ hC
  have he : ((h.push (PySem.W.kdv_tup rest)).push (PySem.HandSPX.excO C h.objs.size)).get? (h.objs.size + 1) = some (PySem.HandSPX.excO C h.objs.size) := by heap_get
  have cC : (Value.ref C :: bm).contains (.ref C) = true := by simp
  have i1 := hi.keeps k
  have b1 := (hb (.ref (h.objs.size + 1))).keeps k
  unfold isInstance
  repeat (first | with_reducible refine wpAny_loadPart_at he ?_ | (with_reducible refine wpAny_isSubtype_exc hC1 ?_; rw [cC]) | wp_step)
  show wpAny _ _ (typeLookup (.ref C) _) _ _ _
  refine i1.at (wpAny_holding (wpAny_bind (b1.at ?_)))
  refine wpAny_bind (wpAny_call (codeAny_mono hq fun r s' z => ?_))
  rcases r with e | (v | _ | _ | _) <;> first | exact z | exact z.elim | skip
  obtain ⟨rfl, z⟩ := z
  first
    | exact wpAny_pure (wpAny_pure z)
    | (wp_walk; exact z)
theorem call_y (F : ExcBaseFacts Bn newId iN bN) (hA : bm.contains (.type "AttributeError") = false) (hN : bm.contains (.type "NameError") = false) (hB : bm.contains (.type Bn) = true) {rest : List Value} {fI : Addr}
    (hC : h.get? C = some (excClassObj nm q C N bs bm hdct sn sub ab col dd k0 k1 k2 k3 k5 newId))
    (hi : PySem.W.Looks (model prog w) h (typeLookup (.ref C) "__init__") (some (.ref fI))) (hb : ∀ self, PySem.W.Looks (model prog w) h (bindSpecial (.ref fI) self) (.ref fI, [self])) (hl : rest.length ≤ sizeLine)
    (hq : codeAny (model prog w) (A.under (.builtin "type.__call__" ⟨.ref C :: rest, []⟩)) (.call (.ref fI) ⟨.ref (h.objs.size + 1) :: rest, []⟩) (PySem.W.InitBack (h.objs.size + 1) R)
      ⟨(h.push (PySem.W.kdv_tup rest)).push (PySem.HandSPX.excO C h.objs.size), g, d, t, os⟩) :
    codeAny (model prog w) A (.call (.ref C) ⟨rest, []⟩) R ⟨h, g, d, t, os⟩ := by
  have f1 := tc_lookup
  have f2 := tc_bind (.ref C)
  have hTy : (⟨h, g, d, t, os⟩ : Shared).TypeIs (.ref C) "type" := ⟨_, hC, rfl⟩
  refine codeAny_of_tree ?_
  show wpAny _ _ (callAny (.ref C) _) _ _ _
  repeat (any_goals (first | assumption | with_reducible refine wpAny_loadPart_at hC ?_ | wp_step))
  refine ⟨rfl, ?_⟩
  refine codeAny_call_builtin_at (Code.quiet_builtin _ (by decide +kernel)) PySem.entry_typeCall (wpAny_check_type_call_sub hC (type_call_y F hA hN hB hC hi hb hl (codeAny_mono hq fun r s' z => ?_)))
  rcases r with e | (v | _ | _ | _) <;> exact z
theorem init_y (F : ExcClass B newId initId) (hB : bm.contains (.type B) = true) {e t0 : Addr} {rest : List Value}
    (hC : h.get? C = some (excClassObj nm q C N bs bm hdct sn sub ab col dd k0 k1 k2 k3 k5 newId)) (he : h.get? e = some (PySem.HandSPX.excO C t0)) (hl : rest.length ≤ sizeLine)
    (hq : ∀ h' t1, (∀ b o, b ≠ e → h.get? b = some o → h'.get? b = some o) → h'.get? e = some (PySem.HandSPX.excO C t1) → R (.ok (.ret .none)) ⟨h', g, d, t, os⟩) :
    codeAny (model prog w) A (.call (.builtin initId) ⟨.ref e :: rest, []⟩) R ⟨h, g, d, t, os⟩ := by
  refine codeAny_call_builtin F.init.plain F.initEntry (check_init_y F hB hC he rfl ?_)
  wp_walk
  refine hq _ h.objs.size (fun b o hb ho => ?_) ?_
  · rw [Heap.get?_update_other _ _ (Ne.symm hb)]
    exact Heap.get?_push_of_some _ ho
  · rw [Heap.get?_update_self _ (Heap.get?_push_of_some _ he) rfl]
    rfl
end
end MM
namespace MM
open PySem PySem.Spec PySem.Calls PyProof.Rows L2
/-- what the written part says of the class at C, which stands right over the built-in B -/
structure OxY (K : PySem.W.Frag) (C : Addr) (B newId initId : String) (bm : List Value) : Prop where
  nf : ∃ Bn iN bN, ExcBaseFacts Bn newId iN bN ∧ bm.contains (.type Bn) = true
  nA : bm.contains (.type "AttributeError") = false
  nN : bm.contains (.type "NameError") = false
  cf : PyProof.Rows.ExcClass B newId initId
  cB : bm.contains (.type B) = true
  sf : StoreFacts B bm "object.__setattr__" "object"
  tl : PySem.W.excTail bm bm = true
  cls : ∃ nm q N bs sn sub ab col dd k0 k1 k2 k3 k5, K.lookup C = some (excClassObj nm q C N bs bm true sn sub ab col dd k0 k1 k2 k3 k5 newId)
  sa : PySem.W.findIn K (.ref C) "__setattr__" = some (some (.builtin "object.__setattr__"))
  exC : PySem.W.subIn K (.ref C) (.type "BaseException") = some true
  tyC : PySem.W.typeIn K (.ref C) = some (.type "type")
  kC : PySem.W.keepIn K (.ref C) = true
section
variable {K : PySem.W.Frag} {C : Addr} {B newId initId : String} {bm : List Value}
theorem OxY.dat (T : OxY K C B newId initId bm) : ∃ cd, PySem.W.clsIn K C = some cd ∧ cd.mro = .ref C :: bm ∧ cd.hasDict = true := by
  obtain ⟨nm, q, N, bs, sn, sub, ab, col, dd, k0, k1, k2, k3, k5, hC⟩ := T.cls
  exact ⟨_, (by unfold PySem.W.clsIn; rw [hC] <;> rfl), rfl, rfl⟩
theorem OxY.over (T : OxY K C B newId initId bm) : PySem.W.excOver K C bm = true := by
  obtain ⟨cd, hc, hm, _⟩ := T.dat
  unfold PySem.W.excOver
  rw [hc]
  show (match cd.mro with | .ref C' :: b => C' == C && PySem.W.excTail bm b | _ => false) = true
  rw [hm]
  show (C == C && PySem.W.excTail bm bm) = true
  rw [T.tl]
  simp
theorem OxY.taker (T : OxY K C B newId initId bm) {f : Str} (hno : PySem.W.findIn K (.ref C) f = some none) : PySem.W.takerIn K C f = some none := by
  unfold PySem.W.takerIn
  rw [hno]
  rfl
end
section
variable {X : Cx} {pins : List (Addr × Obj)} {σ : L2.St} {H : Hp} {s : Shared} {a C dx : Addr} {f : Str} {y : V} {u : Value} {fs : List (Str × V)} {Q : Unit → Shared → Prop} {E : Value → Shared → Prop} {A : Around} {B newId initId : String} {bm : List Value}
/-- the first field -/
theorem gy_new (T : OxY X.K C B newId initId bm) (I : Inv X pins σ H s) (e : H a = some (exo a C none)) (hno : PySem.W.findIn X.K (.ref C) f = some none) (ry : RelV y u)
    (h : ∀ dx s', H dx = none → dx ≠ a → Inv X pins σ (L2.upd (L2.upd H dx (exd dx [(f, y)])) a (exo a C (some dx))) s' → Q () s') : wpAny (model X.prog X.w) A (setAttr (.ref a) f u) Q E s := by
  obtain ⟨cd, hcd, hmr, hhd⟩ := T.dat
  obtain ⟨t1, ho⟩ := exo_at I.hok e
  obtain ⟨hp, g, dn, t, os⟩ := s
  have key : ∀ (h' : Heap) (tk' : Nat), (∀ b o, b ≠ a → hp.get? b = some o → h'.get? b = some o) → h'.get? a = some ({ cls := .ref C, dict := some hp.objs.size, data := .fields #[.ref t1, .none, .none, .none, .bool false, .none] } : Obj) →
      h'.Ns1 hp.objs.size (fun z => if z = f then some u else none) → Q () ⟨h', g, dn, tk', os⟩ := by
    intro h' tk' k hx hn
    have nlt : ∀ {b : Addr} {o : Obj}, hp.get? b = some o → b ≠ hp.objs.size := fun q => Nat.ne_of_lt (Heap.lt_size q)
    have hnd : H hp.objs.size = none := I.hok.fresh (Nat.le_refl _)
    have dne : hp.objs.size ≠ a := (nlt ho).symm
    have na : ∀ {b : Addr}, H b = none → b ≠ a := fun n z => by
      subst z
      cases e.symm.trans n
    refine h hp.objs.size _ hnd dne (I.un (t' := tk') ⟨fun b o q n _ _ => k b o (na n) q, fun b o q n _ _ => ⟨o.slots, k b o (na n) q⟩, fun b o q n _ => ?_, fun b o q _ => ?_, fun b xs q => ?_, fun b o v q => ?_, fun b ps q => ⟨#[], ?_⟩⟩ fun b o q => ?_)
    · rw [upd_ne (na n), upd_ne (nlt q)]
      exact n
    · by_cases hb : b = a
      · exact ⟨_, by rw [hb]; exact hx⟩
      · exact ⟨o, k b o hb q⟩
    · rw [upd_ne (at_ne e q exo_tup), upd_ne (ne_of_none q hnd)]
      exact q
    · rw [upd_ne (at_ne e q exo_frz), upd_ne (ne_of_none q hnd)]
      exact q
    · rw [upd_ne (at_ne e q exo_tbl), upd_ne (ne_of_none q hnd), q]
      simp
    · by_cases hb : b = a
      · subst hb
        cases upd_same.symm.trans q
        exact exo_ok hx
      rw [upd_ne hb] at q
      by_cases hd : b = hp.objs.size
      · subst hd
        cases upd_same.symm.trans q
        exact exd_ok hn (relO_put (fs := []) ry fun g => True.intro)
      rw [upd_ne hd] at q
      refine (I.hok b o q).stay (fun c v hc z => k c v ?_ z) (fun c hc => ?_) (fun c xs hc => ?_)
      · rcases hc with hc | hc
        · exact fun z => hb (hc ▸ z)
        · exact at_ne e hc exo_own
      · rw [upd_ne (at_ne e hc exo_own), upd_ne (ne_of_none hc hnd)]
        exact hc
      · rw [upd_ne (at_ne e hc exo_tup), upd_ne (ne_of_none hc hnd)]
        exact hc
  have J : PySem.W.InstAt hp a ({ cls := .ref C, dict := none, data := .fields #[.ref t1, .none, .none, .none, .bool false, .none] } : Obj) C none := ⟨ho, rfl, rfl, trivial⟩
  refine PySem.W.set_plain I.kIn J T.sa (PySem.W.osa_openX T.sf I.kIn J T.over (T.taker hno) fun b => ?_)
  have hs : a ≠ hp.objs.size := Nat.ne_of_lt (Heap.lt_size ho)
  refine wpAny_bind (wpAny_pure (wpAny_bind (PySem.W.instanceDict_exc (t := t1) (c2 := .none) ho (PySem.W.looks_clsIn I.kIn hcd) hhd ?_)))
  refine PySem.HandSPX.store_in_new ?_ fun h' tk' hn' hsb => ?_
  · exact ⟨_, #[], _, (Heap.get?_update_ne _ _ _ _ hs.symm).trans (Heap.get?_push_at rfl rfl), rfl, fun e he => absurd he (by simp), fun _ => rfl⟩
  · refine key h' _ (fun b o hb hq => ?_) ?_ hn'
    · exact (hsb.2 b (Nat.ne_of_lt (Heap.lt_size hq))).trans ((Heap.get?_update_ne _ _ _ _ hb).trans (Heap.get?_push_of_some _ hq))
    · exact (hsb.2 a hs).trans (Heap.get?_update_self _ (Heap.get?_push_of_some _ ho) rfl)
/-- a further field -/
theorem gy_old (T : OxY X.K C B newId initId bm) (I : Inv X pins σ H s) (e : H a = some (exo a C (some dx))) (ed : H dx = some (exd dx fs)) (hl : fs.length ≤ 900) (hno : PySem.W.findIn X.K (.ref C) f = some none) (ry : RelV y u)
    (h : ∀ s', Inv X pins σ (L2.upd H dx (exd dx ((f, y) :: fs))) s' → Q () s') : wpAny (model X.prog X.w) A (setAttr (.ref a) f u) Q E s := by
  obtain ⟨t1, ho⟩ := exo_at I.hok e
  obtain ⟨mA, hns, rel⟩ := exd_at I.hok ed
  obtain ⟨hp, g, dn, t, os⟩ := s
  obtain ⟨oD, _, _, hoD, _, _⟩ := hns.count (within_of rel)
  have J : PySem.W.InstAt hp a ({ cls := .ref C, dict := some dx, data := .fields #[.ref t1, .none, .none, .none, .bool false, .none] } : Obj) C (some oD) := ⟨ho, rfl, rfl, hoD⟩
  refine PySem.W.set_plain I.kIn J T.sa (PySem.W.osa_openX T.sf I.kIn J T.over (T.taker hno) fun b => ?_)
  refine wpAny_bind (wpAny_pure (wpAny_bind ?_))
  show wpAny _ _ (instanceDict a true) _ _ _
  unfold instanceDict
  refine wpAny_bind (wpAny_loadPart ho ?_)
  obtain ⟨cd, hcd, hmr, hhd⟩ := T.dat
  dsimp only
  refine wpAny_bind ((PySem.W.looks_clsIn I.kIn hcd).at ?_)
  rw [hhd]
  refine wpAny_pure ?_
  refine PySem.OEX.store_in_old hns (within_of rel) (by rw [List.length_map]; omega) fun h' tk' hn hsb => ?_
  have hd : ∃ o, h'.get? dx = some o := by
    obtain ⟨o, _, _, e', _⟩ := hn
    exact ⟨o, e'⟩
  exact h _ (I.write (t' := tk') (x := dx) (e := dx) (o := exd dx ((f, y) :: fs)) (by rw [ed]; exact True.intro) (.inl rfl) (fun b o hb q => (hsb.2 b hb).trans q) hd (exd_ok hn (relO_put ry rel)))
/-- B.__init__(self, ..) -/
theorem gy_init {us : List Value} {Q : Value → Shared → Prop} (T : OxY X.K C B newId initId bm) (I : Inv X pins σ H s) (e : H a = some (exo a C none)) (hl : us.length ≤ sizeLine) (h : ∀ s', Inv X pins σ H s' → Q .none s') : wpAny (model X.prog X.w) A (call (.builtin initId) (.ref a :: us)) Q E s := by
  obtain ⟨nm, q, N, bs, sn, sub, ab, col, dd, k0, k1, k2, k3, k5, hC⟩ := T.cls
  obtain ⟨t1, ho⟩ := exo_at I.hok e
  obtain ⟨hp, g, dn, t, os⟩ := s
  refine wpAny_call (init_y T.cf T.cB (I.kIn _ _ hC) ho hl fun h' t2 k hx => h _ ?_)
  have J := I.write (t' := t) (x := a) (e := a) (o := exo a C none) (by rw [e]; exact True.intro) (.inl rfl) k ⟨_, hx⟩ (exo_ok hx)
  rwa [show L2.upd H a (exo a C none) = H from funext fun b => by
    by_cases hb : b = a
    · rw [hb, upd_same, e]
    · rw [upd_ne hb]] at J
end
/-! ### the rules -/
/-- B.__init__(self, ..) -/
def tBy (K : PySem.W.Frag) (B newId initId : String) (bm : List Value) (ta : TA) : TE := fun σ H Q => ta σ H fun vs H1 => ∃ (a C : Addr) (ws : List V), vs = .ref a :: ws ∧ ws.length ≤ 1000 ∧ OxY K C B newId initId bm ∧ H1 a = some (exo a C none) ∧ Q .non H1
/-- self.f = e -/
def tGy (K : PySem.W.Frag) (B newId initId : String) (bm : List Value) (f : Str) (to te : TE) : TS := fun D σ H => te σ H fun y H1 => to σ H1 fun x H2 => ∃ a C : Addr, x = .ref a ∧ OxY K C B newId initId bm ∧ PySem.W.findIn K (.ref C) f = some none ∧
  ((H2 a = some (exo a C none) ∧ ∀ dx, H2 dx = none → dx ≠ a → D.nx σ (L2.upd (L2.upd H2 dx (exd dx [(f, y)])) a (exo a C (some dx)))) ∨
    ∃ (dx : Addr) (fs : List (Str × V)), H2 a = some (exo a C (some dx)) ∧ H2 dx = some (exd dx fs) ∧ fs.length ≤ 900 ∧ D.nx σ (L2.upd H2 dx (exd dx ((f, y) :: fs))))
section
variable {X : Cx} {o e : Expr} {es : List Expr} {to te : TE} {ta : TA} {f : Str} {p p' p1 p2 pos : Pos} {B newId initId : String} {bm : List Value} {bn : Str}
theorem pe_biny {pl : Sem Bool} (hg : Gl X bn) (hm : X.mg bn = none) (hbt : bootBuiltins bn = some (.type B)) (hty : typeOf (.type B) = pure (.type "type")) (vV : PySem.W.findCls X.K (.type B) (.type "type") "__init__" = some (.val (.builtin initId))) (ha : PA X (e :: es) ta)
    (hn : bn ≠ "__name__" := by decide) (hdb : (bn == ("__debug__" : Str)) = false := by decide) (hst : Manifest.isStub B = false := by decide +kernel) (hha : PySem.W.handedIn (.builtin initId) = true := by decide +kernel)
    (hc : eval (.Call (.Attribute (.Name bn p1) "__init__" p2) (e :: es) [] pos) X.env = (do
      let v0 ← eval (.Name bn p1) X.env
      standAt p2.atName
      let (f, first) ← holding [v0] (getMethod v0 "__init__" pl)
      callWith pos f first (backTo pos (starEach (e :: es) X.env)) (backToKw pos (keywordEach [] X.env))) := by rfl)
    (he : starEach (e :: es) X.env = (false, eval e X.env) :: starEach es X.env := by rfl) (hpl : (backTo pos (starEach es X.env)).any (·.1) = false := by rfl) :
    PE X (.Call (.Attribute (.Name bn p1) "__init__" p2) (e :: es) [] pos) (tBy X.K B newId initId bm ta) := by
  refine ⟨fun pins s σ H Q I h => ?_⟩
  refine PySem.W.methodCall_KW (ld_blt I hg hm hbt ?_ hn hdb) hc
  obtain ⟨m, fr⟩ := I.fr
  refine PySem.W.method_type fr I.ok.mod.kin hty hst vV hha ?_
  show wpAny _ _ (callWith pos (Value.builtin initId) [] (backTo pos (starEach (e :: es) X.env)) []) _ _ _
  refine PyProof.Rows.callWith_method1 (thn (ha.run pos pins _ σ H _ (I.tok _) h) fun us s1 hh => ?_) he hpl
  obtain ⟨vs, H1, I1, r1, a, C, ws, rfl, hl, T, ea, q⟩ := hh
  cases r1 with
  | @cons _ u0 _ ur ra rr =>
    cases (show u0 = Value.ref a from ra)
    exact gy_init T I1 ea (by rw [← Paired.length rr, sizeLine_eq]; omega) fun s' J => ⟨.non, H1, J, rfl, q⟩
theorem ps_gsy (ho : PE X o to) (he : PE X e te) (hs : swapsWith e (some (.Attribute o f p')) pos.line X.env = pure false := by rfl) : PS X (.Assign [.Attribute o f p'] e pos) (tGy X.K B newId initId bm f to te) := by
  refine ⟨fun pins s σ H D I h => ?_⟩
  refine plainObj_wpAny_Assign_Attribute (thn (he.run pins s σ H _ I h) fun v s1 ⟨y, H1, I1, r1, q1⟩ => thn (ho.run pins s1 σ H1 _ I1 q1) fun u s2 hh => ?_) hs
  obtain ⟨x, H2, I2, r2, a, C, rfl, T, hno, q⟩ := hh
  cases (show u = Value.ref a from r2)
  rcases q with ⟨ea, q⟩ | ⟨dx, fs, ea, ed, hl, q⟩
  · exact gy_new T I2 ea hno r1 fun dx s' n ne J => ⟨σ, _, J, q dx n ne⟩
  · exact gy_old T I2 ea ed hl hno r1 fun s' J => ⟨σ, _, J, q⟩
/-- C(e, ..), C's own __init__ keeping sp -/
theorem pmk_y {CX : CXT} {x : Str} {C fI : Addr} {k : Nat} {fd : FuncData} {ps : List Str} {sp : Sp} {ds : List Value} {dvs : List V} (T : OxY X.K C B newId initId bm) (iC : PySem.W.findIn X.K (.ref C) "__init__" = some (some (.ref fI))) (tI : PySem.W.typeIn X.K (.ref fI) = some (.type "function"))
    (F1 : FnOk X.prog X.w X.K X.mg X.base CX k fI fd ps sp) (hr : Room (k + 1) X.A) (hb : Binds X.K fd ps ds) (hd : Vals dvs ds) (hx : Passes CX X (fun _ _ _ => False)) (hg : Gl X x) (hm : X.mg x = some (.ref C)) (ha : PA X (e :: es) ta)
    (hdb : (x == ("__debug__" : Str)) = false := by decide) (he : starEach (e :: es) X.env = (false, eval e X.env) :: starEach es X.env := by rfl) (hpl : (backTo pos (starEach es X.env)).any (·.1) = false := by rfl) : PMk X (.Call (.Name x p) (e :: es) [] pos) (tMkO C sp dvs ta) := by
  intro pins s σ H Q I h
  obtain ⟨nm, q, N, bs, sn, sub, ab, col, dd, k0, k1, k2, k3, k5, hC⟩ := T.cls
  obtain ⟨Bn, iN, bN, nf, hnB⟩ := T.nf
  refine wpAny_Call_Name_kw (ld_glob I hg hm ?_ hdb)
  refine PySem.W.callWith_K (h₀ := X.base) I.ok.mod.kin T.kC (thn (ha.run pos pins s σ H _ I h) fun us s1 hh => ?_) he hpl
  obtain ⟨vs, H1, I1, r1, hz, q1⟩ := hh
  refine ⟨I1.kIn, ?_⟩
  show wpAny _ _ (call (.ref C) us) _ _ _
  obtain ⟨hp, g, dr, tk, os⟩ := s1
  have le1 : hp.objs.size ≤ hp.objs.size + 1 := Nat.le_succ _
  have hq := q1 (hp.objs.size + 1) (I1.hok.fresh le1)
  have grow : ∀ b o', hp.get? b = some o' → ((hp.push (PySem.W.kdv_tup us)).push (PySem.HandSPX.excO C hp.objs.size)).get? b = some o' := fun b o' z => Heap.get?_push_of_some _ (Heap.get?_push_of_some _ z)
  have got : ((hp.push (PySem.W.kdv_tup us)).push (PySem.HandSPX.excO C hp.objs.size)).get? (hp.objs.size + 1) = some (PySem.HandSPX.excO C hp.objs.size) := by heap_get
  have I2 := I1.laid (t' := tk) (a := hp.objs.size + 1) (o := exo (hp.objs.size + 1) C none) (h' := (hp.push (PySem.W.kdv_tup us)).push (PySem.HandSPX.excO C hp.objs.size)) grow le1 (exo_ok got)
  have r2 : Vals (V.ref (hp.objs.size + 1) :: (vs ++ dvs)) (Value.ref (hp.objs.size + 1) :: (us ++ ds)) := .cons rfl (r1.append hd)
  have hl : (Value.ref (hp.objs.size + 1) :: us ++ ds).length = ps.length := r2.length.symm.trans (F1.len _ _ _ _ hq)
  have hus : us.length ≤ sizeLine := by rw [← Paired.length r1, sizeLine_eq]; omega
  refine wpAny_call (call_y nf T.nA T.nN hnB (I1.kIn _ _ hC) (PySem.W.looks_findIn I1.kIn iC) (fun self => PySem.W.bind_fn I1.kIn self tI) hus (codeAny_mono (F1.run _ X.stack _ _ ⟨Value.ref (hp.objs.size + 1) :: us, []⟩ (Value.ref (hp.objs.size + 1) :: (us ++ ds)) _ _ (fun _ _ _ => False)
    (hr.make C us []) (I2.env0.make C us []) (hb _ (Value.ref (hp.objs.size + 1) :: us) I2.kIn hl) r2 hq) fun r s' hq' => ?_))
  match r, hq' with
  | .error er, hq' => exact hx pins σ _ _ er s' I2 hq'
  | .ok .next, hq' => exact hq'.elim
  | .ok .brk, hq' => exact hq'.elim
  | .ok .cont, hq' => exact hq'.elim
  | .ok (.ret u), hq' =>
    obtain ⟨v, H2, os2, bare2, un2, hok2, rv, rfl, d, fs, ea, ed, hd1, q2⟩ := hq'
    obtain ⟨h2, g2, d2, t2, os'⟩ := s'
    exact ⟨rv, mk_end (raises_own T.exC T.tyC) I1 le1 grow un2 hok2 os2 bare2 ea ed hd1 q2⟩
end
end MM
namespace MM
open PySem PySem.Spec PySem.Calls PyProof.Rows L2
abbrev bmK : List Value := [.type "KeyError", .type "LookupError", .type "Exception", .type "BaseException", .type "object"]
theorem store_K : StoreFacts "KeyError" bmK "object.__setattr__" "object" where
  mro := by kernel_rfl
  slot := .of (owner := "object") (n := "__setattr__") (by rw [typeLookup_type, builtinLookup_eq_fast]; kernel_rfl) (by decide +kernel) (by decide +kernel) (by decide +kernel)
    (by first | exact .inl (by decide +kernel) | exact .inr (by decide +kernel)) (by rw [isSubtype_type]; kernel_rfl)
  entry := PySem.F.entry_object_sa
  kind := by decide +kernel
  split := by decide +kernel
  hasOwner := by decide +kernel
  args := fun a b c => by unfold argsOk; kernel_rfl
  passes := fun self => by kernel_rfl
abbrev OxK (K : PySem.W.Frag) (C : Addr) : Prop := OxY K C "KeyError" "LookupError.__new__" "KeyError.__init__" bmK
theorem oxk_mk {K : PySem.W.Frag} {C : Addr} {nm q N bs sn sub ab col dd k0 k1 k2 k3 k5} (l : K.lookup C = some (excClassObj nm q C N bs bmK true sn sub ab col dd k0 k1 k2 k3 k5 "LookupError.__new__")) (sa : PySem.W.findIn K (.ref C) "__setattr__" = some (some (.builtin "object.__setattr__")))
    (exC : PySem.W.subIn K (.ref C) (.type "BaseException") = some true) (tyC : PySem.W.typeIn K (.ref C) = some (.type "type")) (kC : PySem.W.keepIn K (.ref C) = true) : OxK K C :=
  ⟨⟨_, _, _, PySem.F.excBase_LookupError, by decide +kernel⟩, by decide +kernel, by decide +kernel, PyProof.Rows.excClass_KeyError, by decide +kernel, store_K, by decide +kernel, ⟨_, _, _, _, _, _, _, _, _, _, _, _, _, _, l⟩, sa, exC, tyC, kC⟩
theorem typ_K : typeOf (.type "KeyError") = pure (.type "type") := by kernel_rfl
end MM
/-! a text times a small number -/
namespace MM
open PySem PySem.Spec PyProof.Rows L2
def rpS (z : Str) (n : Nat) : Str := ⟨(List.replicate n z.cps).foldl (· ++ ·) #[]⟩
theorem rp_zero (z : Str) : rpS z 0 = Str.empty := rfl
theorem rp_one (z : Str) : rpS z 1 = z := by
  show (⟨#[] ++ z.cps⟩ : Str) = z
  rw [Array.empty_append]
theorem rp_nil {z : Str} (h : z.length = 0) (n : Nat) : rpS z n = z := by
  have e : z.cps = #[] := Array.size_eq_zero_iff.mp h
  have key : ∀ n : Nat, (List.replicate n (#[] : Array Nat)).foldl (· ++ ·) #[] = #[] := fun n => by
    induction n with
    | zero => rfl
    | succ n ih => rw [List.replicate_succ, List.foldl_cons, Array.append_empty, ih]
  unfold rpS
  cases z with
  | mk c =>
    cases (show c = #[] from e)
    rw [key]
theorem rp_len (z : Str) (n : Nat) : (rpS z n).length = n * z.length := by
  have key : ∀ (n : Nat) (a : Array Nat), ((List.replicate n z.cps).foldl (· ++ ·) a).size = a.size + n * z.cps.size := fun n => by
    induction n with
    | zero => intro a; simp
    | succ n ih =>
      intro a
      rw [List.replicate_succ, List.foldl_cons, ih, Array.size_append, Nat.succ_mul]
      omega
  show ((List.replicate n z.cps).foldl (· ++ ·) #[]).size = n * z.cps.size
  rw [key]
  simp
theorem op_mulR {X : Cx} : OpR X (binaryOp .Mult) (fun x y H Q => ∃ (z : Str) (n : Nat), x = .str z ∧ y = .int (n : Int) ∧ n ≤ 1000 ∧ z.length ≤ 1000 ∧ Q (.str (rpS z n)) H) := by
  intro pins s σ H x y v u Q I rx ry h
  obtain ⟨z, n, rfl, rfl, hn, hz, q⟩ := h
  obtain ⟨t, rfl⟩ := rx
  obtain ⟨t', rfl⟩ := ry
  have p1 : z.length * n ≤ 1000 * 1000 := Nat.mul_le_mul hz hn
  refine P.mul_str (by rw [decide_eq_false (by omega), decide_eq_false (by omega)]; rfl) (fun h1 _ => ?_) (fun _ _ => ?_) ?_
  · have h2 : (z.length : Int) ≤ (2 ^ 63 - 1) / (n : Int) := Int.le_ediv_of_mul_le (by omega) (by
      have : ((z.length * n : Nat) : Int) ≤ ((1000 * 1000 : Nat) : Int) := by exact_mod_cast p1
      rw [Int.natCast_mul] at this
      omega)
    omega
  · rw [Int.toNat_natCast]
    show decide (z.length * n > sizeLine) = false
    exact decide_eq_false (by rw [sizeLine_eq]; omega)
  · by_cases h0 : (n : Int) < 1
    · rw [if_pos h0]
      have e : n = 0 := by omega
      subst e
      exact ⟨by decide, ⟨.str Str.empty, H, I.tok _, ⟨_, rfl⟩, q⟩⟩
    · rw [if_neg h0]
      by_cases h1 : ((n : Int) == 1 || z.length == 0) = true
      · rw [if_pos h1]
        have e : rpS z n = z := by
          rcases Bool.or_eq_true _ _ ▸ h1 with h2 | h2
          · have e1 : n = 1 := by have := beq_iff_eq.mp h2; omega
            rw [e1, rp_one]
          · exact rp_nil (beq_iff_eq.mp h2) n
        rw [e] at q
        exact ⟨.str z, H, I, ⟨_, rfl⟩, q⟩
      · rw [if_neg h1]
        rw [Int.toNat_natCast]
        refine ⟨?_, ⟨.str (rpS z n), H, I.tok _, ⟨_, rfl⟩, q⟩⟩
        show (rpS z n).length ≤ sizeLine
        rw [rp_len, sizeLine_eq]
        rw [Nat.mul_comm] at p1
        omega
end MM
namespace MM
open PySem L2
open PySem.Spec PyProof.Rows
/-! ### x < y of data; min(xs, key=f) -/
section
variable {X : Cx}
def rLtD (K : PySem.W.Frag) : R2 := fun x y H Q => ∃ d e, Dp K H x d ∧ Dp K H y e ∧ PySem.W.alike d e = true ∧ d ≠ .none ∧ d.depth ≤ 60 ∧ Q (.bl (PySem.W.dataLt d e)) H
theorem op_ltD (hu : X.A.units + 64 < cLine) : OpR X (compareOp .Lt) (rLtD X.K) := by
  intro pins s σ H x y v u Q I rx ry h
  obtain ⟨d, e, hd, he, al, nn, dp, q⟩ := h
  obtain ⟨as, r1⟩ := Dp.reads I d x v hd rx
  obtain ⟨bs, r2⟩ := Dp.reads I e y u he ry
  exact PySem.W.lt_data r1 r2 al nn (by have := Nat.min_le_left d.depth e.depth; omega) ⟨.bl _, H, I, rfl, q⟩
end
/-- whole numbers and truths, as data -/
def pD : V → PyData
  | .int i => .int i
  | .bl b => .bool b
  | _ => .none
def Pl (v : V) : Prop := (∃ i, v = .int i) ∨ ∃ b, v = .bl b
theorem relV_inj {k x : V} {u : Value} (p : Pl k) (h : L2.RelV k u) (h' : L2.RelV x u) : x = k := by
  rcases p with ⟨i, rfl⟩ | ⟨b, rfl⟩
  · obtain ⟨t, rfl⟩ := h
    cases x <;> simp [L2.RelV] at h'
    rw [h']
  · obtain rfl : u = Value.bool b := h
    cases x <;> simp [L2.RelV] at h'
    rw [h']
theorem pl_inj : ∀ {ks xs : List V} {its : List Value}, (∀ v ∈ ks, Pl v) → Vals ks its → Vals xs its → xs = ks
  | _, _, _, _, .nil, .nil => rfl
  | _, _, _, hp, .cons r t, .cons r' t' => by
    rw [relV_inj (hp _ List.mem_cons_self) r r', pl_inj (fun v hv => hp v (List.mem_cons_of_mem _ hv)) t t']
theorem pl_reads {h : Heap} : ∀ {ks : List V} {its : List Value}, (∀ v ∈ ks, Pl v) → Vals ks its → ∃ as, ReadsAll h its (ks.map pD) as
  | _, _, _, .nil => ⟨_, .nil⟩
  | k :: ks, u :: us, hp, .cons r t => by
    obtain ⟨as, q⟩ := pl_reads (h := h) (fun v hv => hp v (List.mem_cons_of_mem _ hv)) t
    have q1 : ∃ bs, Reads h u (pD k) bs := by
      rcases hp k List.mem_cons_self with ⟨i, rfl⟩ | ⟨b, rfl⟩
      · obtain ⟨t, rfl⟩ := r
        exact ⟨_, .int i t⟩
      · obtain rfl : u = Value.bool b := r
        exact ⟨_, .bool b⟩
    obtain ⟨bs, q1⟩ := q1
    exact ⟨_, .cons q1 q⟩
theorem isTup_inj {h : Heap} {c : Addr} {xs ys : List Value} (a : IsTup h c xs.toArray) (b : IsTup h c ys.toArray) : xs = ys := by
  obtain ⟨o, g, _, n, d⟩ := a
  obtain ⟨o', g', _, n', d'⟩ := b
  rw [g] at g'
  cases g'
  rw [d] at d'
  cases d'
  rfl
section
variable {X : Cx} {pins : List (Addr × Obj)} {σ : L2.St} {H : Hp} {s : Shared} {h' : Heap}
theorem inv_turnedL {t' : Nat} {it : List Addr} (I : Inv X pins σ H s) (k : ∀ b o, b ∉ it → s.heap.get? b = some o → h'.get? b = some o) (hf : ∀ b ∈ it, FpOk X pins H b) : Inv X pins σ H { s with heap := h', toks := t' } := by
  have nit : ∀ b u, H b = some u → b ∉ it := fun b u e z => by
    rw [(hf b z).1] at e
    cases e
  refine I.step (g' := s.gens) (d' := s.drawn) (ch := it) (fun b hb => ?_) (fun b o _ _ hc e _ => k b o hc e) (fun b o _ _ hc e _ => ⟨o.slots, k b o hc e⟩) (fun _ _ _ _ n => n)
    (fun b o hc e => ⟨o, k b o hc e⟩) (fun _ _ e => e) (fun _ _ _ e => e) (fun b ps e => ⟨#[], by rw [e]; simp⟩) (fun m hm => ?_) (fun b u e => ?_) I.bare
  · obtain ⟨_, f1, _, f3, f4, f5⟩ := hf b hb
    exact ⟨f3, f1, f4, f5⟩
  · obtain ⟨o, es, ep, ho, r⟩ := hm
    exact ⟨o, es, ep, k _ o (fun z => (hf _ z).2.1 rfl) ho, r⟩
  · refine (I.hok b u e).stay (fun c v hc q => k c v ?_ q) (fun _ q => q) fun _ _ q => q
    rcases hc with z | z
    · rw [z]; exact nit b u e
    · exact nit c _ z
/-- min(xs, key=f): the first item whose answer is the least -/
theorem call_minK {f : Addr} {fd : FuncData} {ps : List Str} {sp : Sp} {E : XK} {k : Nat} (F : FnOk X.prog X.w X.K X.mg X.base CX0 k f fd ps sp) (hb : Binds X.K fd ps []) (hr : Room (k + 1) X.A)
    {l : Addr} {xs : List V} {Q : VK} (I : L2.Inv X pins σ H s) (hl : H l = some (.lst xs)) (n0 : 0 < xs.length) (ks : Nat → List V) (bt : Nat → Nat → Bool) (hp : ∀ i, i < xs.length → ∀ v ∈ ks i, Pl v)
    (al : ∀ i j, i < xs.length → j < xs.length → PySem.W.alike (.tuple ((ks i).map pD)) (.tuple ((ks j).map pD)) = true ∧ (PyData.tuple ((ks i).map pD)).depth ≤ 60 ∧ PySem.W.dataLt (.tuple ((ks i).map pD)) (.tuple ((ks j).map pD)) = bt i j)
    (turn : ∀ i x H', xs[i]? = some x → (∀ b o, b ≠ l → H b = some o → H' b = some o) → sp [x] H' (fun v H2 => ∃ r, v = .ref r ∧ H' r = none ∧ H2 = L2.upd H' r (.tup (ks i))) E)
    (fin : ∀ x H', xs[argBest bt (xs.length - 1)]? = some x → (∀ b o, H b = some o → H' b = some o) → Q x H') :
    wpAny (model X.prog X.w) X.A (call (.builtin "min") [.ref l] [(Str.ofString "key", .ref f)]) (EP X pins σ Q) X.xe s := by
  obtain ⟨_, its, nn, rv, gl⟩ := I.hok l _ hl
  obtain ⟨od, I1⟩ := I.lock hl True.intro
  have hnf := I.nofrz hl True.intro
  have hl1 : (L2.upd H l (.frz od (.lst xs))) l = some (.frz od (.lst xs)) := upd_same
  have god : s.heap.get? l = some od := (I1.hok l _ hl1).1
  have eod : od = { cls := .type "list", data := .seq its.toArray nn } := by
    rw [gl] at god
    exact (Option.some.inj god).symm
  have hk1 : ∀ b o, b ≠ l → H b = some o → L2.upd H l (.frz od (.lst xs)) b = some o := fun b o hb e => by
    rw [upd_ne hb]
    exact e
  generalize hH1 : L2.upd H l (.frz od (.lst xs)) = H1 at *
  have hlist : s.heap.IsList l its.toArray := ⟨od, god, by rw [eod], nn, by rw [eod]⟩
  have ls : l < s.heap.objs.size := Heap.lt_size gl
  have hlen : its.toArray.size = xs.length := by
    rw [List.size_toArray]
    exact rv.length.symm
  have nh : X.A.in1.handled = none := hr.hd
  have hr1 : Room k X.A.in1 := hr.in1
  refine call_min_walkK (wpAny_pyIter_list hlist ?_)
  have e2 : (s.heap.push { cls := .type "list_iterator", data := .fields #[.ref l, .int 0 0] }).objs.size = s.heap.objs.size + 1 := Heap.size_push ..
  have kp0 : ∀ b o, s.heap.get? b = some o → (s.heap.push { cls := .type "list_iterator", data := .fields #[.ref l, .int 0 0] }).get? b = some o := fun b o e => Heap.get?_push_of_some _ e
  have I2 : L2.Inv X pins σ H1 { s with heap := s.heap.push { cls := .type "list_iterator", data := .fields #[.ref l, .int 0 0] }, toks := s.toks } := I1.kept (t' := s.toks) kp0
  have nlI : l ≠ s.heap.objs.size := Nat.ne_of_lt ls
  have frI : H1 s.heap.objs.size = none := I1.hok.fresh (Nat.le_refl _)
  have frS : H1 (s.heap.objs.size + 1) = none := I1.hok.fresh (Nat.le_succ _)
  have fpk : ∀ {H' : Hp} {b : Addr}, s.heap.objs.size ≤ b → H' b = none → FpOk X pins H' b := fun hb hn => I1.fpOk hb hn
  have nfr : ∀ {b : Addr}, s.heap.objs.size ≤ b → b ∉ frs X.stack := fun {b} hb z => by
    have f := fpk (H' := fun _ => none) hb rfl
    rcases List.mem_cons.mp (I1.stkSub b z) with e | e
    · exact f.2.1 e
    · exact f.2.2.1 e
  refine ⟨s.heap.objs.size, [s.heap.objs.size, l], [s.heap.objs.size], (fun a b => b = a), its.toArray.size, (fun i v => its.toArray[i]? = some v), (fun i s1 => s1.heap.IsListIter s.heap.objs.size l i ∧ s1.heap.IsList l its.toArray),
    fun s' => ∃ H', L2.Inv X pins σ H' s' ∧ (∀ b o, H1 b = some o → H' b = some o) ∧ (∀ c, H1 c = none → H' c = none ∨ ∃ ys, H' c = some (.tup ys)) ∧ H' s.heap.objs.size = none ∧ H' (s.heap.objs.size + 1) = none,
    fun i kv s' => i < xs.length ∧ ∃ (c : Addr) (us : List Value), kv = .ref c ∧ Vals (ks i) us ∧ IsTup s'.heap c us.toArray ∧ H1 c = none ∧ c ∉ frs X.stack ∧ c ≠ s.heap.objs.size ∧ c ≠ s.heap.objs.size + 1,
    bt, rfl, (Walks.list nh _ l nlI its.toArray).toS, ⟨⟨_, Heap.get?_push_size _ rfl, rfl, rfl⟩, hlist.push _⟩, fun b hb => ?_, by rw [hlen]; exact n0, ?_, ⟨H1, I2, fun _ _ e => e, fun _ e => .inl e, frI, frS⟩, fun v s' hv hJ => ?_⟩
  · rw [e2]
    rcases List.mem_cons.mp hb with rfl | hb
    · exact Nat.lt_succ_self _
    · rw [List.mem_singleton.mp hb]
      exact Nat.lt_succ_of_lt ls
  · rw [e2]
    have fps : ∀ {H' : Hp}, H' s.heap.objs.size = none → H' (s.heap.objs.size + 1) = none → ∀ b ∈ [s.heap.objs.size + 1, s.heap.objs.size], FpOk X pins H' b := fun h1 h2 b hb => by
      rcases List.mem_cons.mp hb with rfl | hb
      · exact fpk (Nat.le_succ _) h2
      · rw [List.mem_singleton.mp hb]
        exact fpk (Nat.le_refl _) h1
    refine ⟨?_, ?_, ?_, ?_⟩
    · rintro s1 s2 ⟨H', I', c1, c2, c3, c4⟩ mv
      obtain ⟨hp2, gg2, dd2, tk2, os2⟩ := s2
      have e1 : gg2 = s1.gens := mv.gens
      have e3 : dd2 = s1.drawn := mv.drawn
      have e4 : os2 = s1.os := mv.os
      subst e1; subst e3; subst e4
      exact ⟨H', inv_turnedL (t' := tk2) I' (fun b o hb e => mv.heap b o hb e) (fps c3 c4), c1, c2, c3, c4⟩
    · rintro i kv s1 s2 ⟨hi, c, us, e, r, ⟨o, g, z⟩, h1, h2, h3, h4⟩ mv
      exact ⟨hi, c, us, e, r, ⟨o, mv.heap c o (by simp only [List.mem_cons, List.not_mem_nil, or_false, not_or]; exact ⟨h4, h3⟩) g, z⟩, h1, h2, h3, h4⟩
    · rintro i v s1 o Q1 E1 hi hv ⟨H', I', c1, c2, c3, c4⟩ ⟨st1, st2⟩ gS hQ
      rw [hlen] at hi
      have hx : xs[i]? = some xs[i] := List.getElem?_eq_getElem hi
      obtain ⟨u, hu, rx⟩ := L2.Vals.get rv hx
      have hv' : its[i]? = some v := by
        rw [← List.getElem?_toArray]
        exact hv
      rw [hu] at hv'
      have evu : u = v := Option.some.inj hv'
      subst evu
      have T := turn i _ H' hx (fun b o hb e => c1 b o (hk1 b o hb e))
      have hl' : ([u] ++ ([] : List Value)).length = ps.length := F.len _ _ _ _ T
      refine wpAny_call (codeAny_mono (F.run X.A.in1 X.stack s1 H' ⟨[u], []⟩ [u] [xs[i]] _ E hr1 I'.env0.in1 (hb s1 [u] I'.kIn hl') (.cons rx .nil) T) fun res s2 hres => ?_)
      match res, hres with
      | .error er, hres => exact hres.elim
      | .ok .next, hres => exact hres.elim
      | .ok .brk, hres => exact hres.elim
      | .ok .cont, hres => exact hres.elim
      | .ok (.ret z0), hres =>
        obtain ⟨vv, H2, os, bare, un, hok, rz, r, rfl, nr, rfl⟩ := hres
        obtain rfl : z0 = Value.ref r := rz
        obtain ⟨hh, gg, dd, tt, os'⟩ := s2
        obtain rfl : os' = s1.os := os
        have I3 := I'.call (h' := hh) (g' := gg) (d' := dd) (t' := tt) (ch := []) un hok bare (fun b z => absurd z (by simp))
        obtain ⟨oI, gI, zI⟩ := st1
        have fI := un.free _ oI gI c3 (by simp)
        have fS := un.free _ o gS c4 (by simp)
        have kI := un.keep _ oI gI c3 (nfr (Nat.le_refl _)) (by simp)
        have kS := un.keep _ o gS c4 (nfr (Nat.le_succ _)) (by simp)
        have er : L2.upd H' r (.tup (ks i)) r = some (.tup (ks i)) := upd_same
        have n1r : H1 r = none := by
          cases hc : H1 r with
          | none => rfl
          | some oo => rw [c1 _ _ hc] at nr; cases nr
        have el' : L2.upd H' r (.tup (ks i)) l = some (.frz od (.lst xs)) := un.frzs _ _ _ (c1 _ _ hl1)
        have gl' : hh.get? l = some od := (hok l _ el').1
        obtain ⟨_, us, rus, tus⟩ := hok r _ er
        refine hQ (.ref r) _ ⟨_, I3, fun b oo e => ?_, fun c hc => ?_, fI, fS⟩ ⟨⟨oI, kI, zI⟩, ⟨od, gl', by rw [eod], nn, by rw [eod]⟩⟩ kS ⟨hi, r, us, rfl, rus, tus, n1r, fun z => ?_, fun z => ?_, fun z => ?_⟩ fun j k' hV => ?_
        · have e1 := c1 b oo e
          rw [upd_ne (ne_of_none e1 nr)]
          exact e1
        · by_cases hcr : c = r
          · exact .inr ⟨_, by rw [hcr]; exact upd_same⟩
          · rw [upd_ne hcr]
            exact c2 c hc
        · have := I3.stkFree r z
          rw [er] at this
          cases this
        · rw [← z, er] at fI
          cases fI
        · rw [← z, er] at fS
          cases fS
        · obtain ⟨hj, c, us', rfl, rus', tus', h1, h2, h3, h4⟩ := hV
          rcases c2 c h1 with hn | ⟨ys, hy⟩
          · obtain ⟨o2, g2, z2⟩ := tus'
            exact ⟨hj, c, us', rfl, rus', ⟨o2, un.keep c o2 g2 hn h2 (by simp), z2⟩, h1, h2, h3, h4⟩
          · obtain ⟨_, w1, rw1, tw1⟩ := I'.hok c _ hy
            have ew := isTup_inj tw1 tus'
            subst ew
            have ey := pl_inj (hp j hj) rus' rw1
            obtain ⟨_, w2, rw2, tw2⟩ := hok c _ (un.tups c ys hy)
            rw [ey] at rw2
            exact ⟨hj, c, w2, rfl, rw2, tw2, h1, h2, h3, h4⟩
    · rintro i j ki kj s1 Q1 E1 _ ⟨hi, c, us, rfl, r, ⟨o, g, cc, n, dd⟩, _⟩ ⟨hj, c', us', rfl, r', ⟨o', g', cc', n', dd'⟩, _⟩ q
      obtain ⟨as, q1⟩ := pl_reads (h := s1.heap) (hp i hi) r
      obtain ⟨bs, q2⟩ := pl_reads (h := s1.heap) (hp j hj) r'
      obtain ⟨a1, a2, a3⟩ := al i j hi hj
      have R1 : Reads s1.heap (.ref c) (.tuple ((ks i).map pD)) as := .tuple g cc dd q1
      have R2 : Reads s1.heap (.ref c') (.tuple ((ks j).map pD)) bs := .tuple g' cc' dd' q2
      refine PySem.W.lt_data R1 R2 a1 (fun z => by cases z) ?_ ?_
      · have h1 := Nat.min_le_left (PyData.tuple ((ks i).map pD)).depth (PyData.tuple ((ks j).map pD)).depth
        have h2 := hr1.un
        omega
      · rw [a3]
        exact q
  · obtain ⟨H', I', hs, _, _, _⟩ := hJ
    rw [hlen] at hv
    have hv' : its[argBest bt (xs.length - 1)]? = some v := by
      rw [← List.getElem?_toArray]
      exact hv
    have hj : argBest bt (xs.length - 1) < xs.length := by
      exact Nat.lt_of_lt_of_eq (List.getElem?_eq_some_iff.mp hv').1 rv.length.symm
    have hx : xs[argBest bt (xs.length - 1)]? = some xs[argBest bt (xs.length - 1)] := List.getElem?_eq_getElem hj
    obtain ⟨u, hu, rx⟩ := L2.Vals.get rv hx
    rw [hv'] at hu
    cases hu
    have e1 : H' l = some (.frz od (.lst xs)) := hs _ _ hl1
    refine ⟨_, _, I'.unlock e1 hnf, rx, fin _ _ hx fun b o e => ?_⟩
    by_cases hb : b = l
    · subst hb
      rw [upd_same, ← hl, e]
    · rw [upd_ne hb]
      exact hs b o (hk1 b o hb e)
/-- a def of the top, as a value -/
theorem pe_gdv {x : Str} {f : Addr} {p : Pos} (hg : Gl X x) (hm : X.mg x = some (.ref f)) (hdb : (x == ("__debug__" : Str)) = false := by decide) : PE X (.Name x p) (fun _ H Q => Q (.ref f) H) := by
  refine ⟨fun pins s σ H Q I h => ?_⟩
  exact ld_glob I hg hm (⟨.ref f, H, I, rfl, h⟩ : EP X pins σ Q _ _) hdb
/-- min(xs, key=f), as it is read -/
def rMinK (sp : Sp) (E : XK) (v : V) (H1 : Hp) (Q : VK) : Prop := ∃ (l : Addr) (xs : List V) (ks : Nat → List V) (bt : Nat → Nat → Bool), v = .ref l ∧ H1 l = some (.lst xs) ∧ 0 < xs.length ∧ (∀ i, i < xs.length → ∀ v ∈ ks i, Pl v) ∧
  (∀ i j, i < xs.length → j < xs.length → PySem.W.alike (.tuple ((ks i).map pD)) (.tuple ((ks j).map pD)) = true ∧ (PyData.tuple ((ks i).map pD)).depth ≤ 60 ∧ PySem.W.dataLt (.tuple ((ks i).map pD)) (.tuple ((ks j).map pD)) = bt i j) ∧
  (∀ i x H', xs[i]? = some x → (∀ b o, b ≠ l → H1 b = some o → H' b = some o) → sp [x] H' (fun v H2 => ∃ r, v = .ref r ∧ H' r = none ∧ H2 = L2.upd H' r (.tup (ks i))) E) ∧
  ∀ x H', xs[argBest bt (xs.length - 1)]? = some x → (∀ b o, H1 b = some o → H' b = some o) → Q x H'
def oneV (C : V → Hp → Prop) : List V → Hp → Prop
  | [v], H => C v H
  | _, _ => False
def tMinK (sp : Sp) (E : XK) (te : TE) : TE := fun σ H Q => te σ H fun v H1 => rMinK sp E v H1 Q
theorem pe_minK {x : Str} {st : Stmt} {ps : List Str} {sp : Sp} {E : XK} {k j : Nat} {p pos : Pos} {e : Expr} {te : TE} {kws : List Keyword} (c : Ca X.prog X.w X.K X.mg X.base CX0 k x st [] ps sp) (b : Bd x x st ps) (hr : Room j X.A) (hk : k + 1 ≤ j)
    (hkw : ∀ f, X.mg x = some (.ref f) → PK X kws (tCons (fun _ H Q => Q (.ref f) H) tNil)) (hg : Gl X "min") (hm : X.mg "min" = none) (ha : PA X [e] (tCons te tNil))
    (he : backTo pos (starEach [e] X.env) = (false, eval e X.env) :: backTo pos (starEach [] X.env) := by rfl) (hpl : (backTo pos (starEach [e] X.env)).any (·.1) = false := by rfl)
    (hall : (backToKw pos (keywordEach kws X.env)).all (·.1.isSome) = true := by rfl) (hnone : (backToKw pos (keywordEach kws X.env)).any (·.1.isNone) = false := by rfl) (hks : (backToKw pos (keywordEach kws X.env)).filterMap (·.1) = [Str.ofString "key"] := by rfl) :
    PE X (.Call (.Name "min" p) [e] kws pos) (tMinK sp E te) := by
  obtain ⟨f, fd, F, hf, G⟩ := c.ex
  refine ⟨fun pins s σ H Q I h => ?_⟩
  refine wpAny_Call_Name_kw (ld_blt (u := .builtin "min") I hg hm (by rfl) ?_ (by decide) (by decide))
  refine PyProof.Rows.callWith_kw (thn (ha.run pos pins s σ H (oneV fun v H1 => rMinK sp E v H1 Q) I h) fun us s1 ⟨vs, H1, I1, r1, q1⟩ => thn ((hkw f hf).run pos pins s1 σ H1 (fun zs H2 => zs = [.ref f] ∧ oneV (fun v H1 => rMinK sp E v H1 Q) vs H2) I1 ⟨rfl, q1⟩) fun ws s2 ⟨zs, H2, I2, r2, hz, q2⟩ => ?_) he hpl hall hnone
  rw [hks]
  subst hz
  match vs, q2, r1 with
  | [v], q2, r1 =>
    obtain ⟨l, xs, ks, bt, rfl, h1, h2, h3, h4, h5, h6⟩ := q2
    obtain rfl := Vals.ref1 r1
    obtain rfl := Vals.ref1 r2
    exact call_minK G (F.bindsN b) (hr.mono hk) I2 h1 h2 ks bt h3 h4 h5 h6
end
end MM
namespace MM
open PySem PySem.Spec PyProof.Rows L2
/-! ### methods with defaults -/
structure DmD (K : PySem.W.Frag) (C : Addr) (m qual : Str) (st : Stmt) (dvs : List V) : Prop where
  ex : ∃ (f : Addr) (fd : FuncData), FunD K m qual (defArgs st) (defBody st) (defScope st) dvs [] f fd ∧ Meth K C m f ∧ Cls K C
structure CmD (P : Program) (w : World) (K : PySem.W.Frag) (mg : Str → Option Value) (base : Heap) (CX : CXT) (k : Nat) (C : Addr) (m qual : Str) (st : Stmt) (dvs : List V) (ps : List Str) (sp : Sp) : Prop where
  ex : ∃ (f : Addr) (fd : FuncData), FunD K m qual (defArgs st) (defBody st) (defScope st) dvs [] f fd ∧ Meth K C m f ∧ Cls K C ∧ FnOk P w K mg base CX k f fd ps sp
section
variable {P : Program} {w : World} {K : PySem.W.Frag} {mg : Str → Option Value} {base : Heap} {x m qual : Str} {C : Addr} {st : Stmt} {dvs : List V} {N ps : List Str} {k : Nat} {sp : Sp}
theorem cmD0 (D : DmD K C m qual st dvs) (S : FnScope N ps (defScope st)) (len : ∀ vs H Q E, sp vs H Q E → vs.length = ps.length)
    (body : ∀ (f : Addr) (cdv : Value) (A : Around) (outer : List Env) (s : Shared) (H : Hp) (vs : List V) (Q : VK) (E : XK), Room k (A.deeper (envOfC qual (defScope st) s.heap.objs.size f cdv)) → sp vs H Q E →
      ∃ t, PSs (cxOf CX0 P w K mg base N qual (defScope st) f cdv A outer s H E).nox (defBody st) t ∧ t { nx := fun _ H' => Q .non H', rt := Q } (start N vs) H) : CmD P w K mg base CX0 (k + 1) C m qual st dvs ps sp := by
  obtain ⟨f, fd, F, M, hc⟩ := D.ex
  refine ⟨f, fd, F, M, hc, F.ok S len fun cdv A outer s H vs Q E hr h => ?_⟩
  obtain ⟨t, h1, h2⟩ := body f cdv A outer s H vs Q E hr h
  exact ⟨t, h1.nox, h2⟩
theorem dmD_mk {f T : Addr} {oc kV doc pm cdv ct : Value} {od an : Option Addr} {osl : Array (Option Value)} {nT : Nat} {its : List Value} (cl : Cls K C) (a : PySem.W.findIn K (.ref C) m = some (some (.ref f))) (i : PySem.W.isFn K (.ref f) = true)
    (l : K.lookup f = some ⟨oc, od, .func (PySem.W.fnOf m qual (defArgs st) (defBody st) (defScope st) (.ref T) kV doc pm an cdv ct), osl⟩) (c : PySem.W.codeIn K cdv qual = true) (k : PySem.W.keepIn K (.ref f) = true) {oT : Obj} (lT : K.lookup T = some oT) (eT : oT.data = .seq its.toArray nT) (r : Vals dvs its) (ne : dvs ≠ []) : DmD K C m qual st dvs :=
  ⟨f, _, ⟨⟨oc, od, .ref T, kV, doc, pm, an, cdv, ct, osl, rfl, l, c, .inr ⟨ne, T, _, its, nT, rfl, lT, eT, r⟩, .inl rfl⟩, k⟩, ⟨a, i, k⟩, cl⟩
end
section
variable {X : Cx} {CX : CXT} {k j n d : Nat} {C : Addr} {m qual : Str} {st : Stmt} {sp : Sp} {ps : List Str} {dvs : List V} {E : XK} {pos apos : Pos} {e o : Expr} {es : List Expr} {ta : TE} {t : TA}
/-- o.m(e, ..): n values with self, then the defaults from the d-th on -/
theorem pe_cmD {pl : Sem Bool} (c : CmD X.prog X.w X.K X.mg X.base CX k C m qual st dvs ps sp) (b : Bd1 m qual st ps n d dvs.length) (hd : dvs ≠ []) (hn : n + (dvs.length - d) = ps.length) (hr : Room j X.A) (hk : k ≤ j) (hx : Passes CX X E) (he : PE X o ta) (ha : PA X (e :: es) t)
    (hst : starEach (e :: es) X.env = (false, eval e X.env) :: starEach es X.env := by rfl) (hpl : (backTo pos (starEach es X.env)).any (·.1) = false := by rfl)
    (ht : eval (.Call (.Attribute o m apos) (e :: es) [] pos) X.env = (eval o X.env >>= fun ov => standAt apos.atName >>= fun _ => holding [ov] (getMethod ov m pl) >>= fun q => callWith pos q.1 q.2 (backTo pos (starEach (e :: es) X.env)) (backToKw pos (keywordEach [] X.env))) := by rfl) :
    PE X (.Call (.Attribute o m apos) (e :: es) [] pos) (tMeth C m sp (dvs.drop d) E ta t) := by
  obtain ⟨f, fd, F, M, hc, G⟩ := c.ex
  obtain ⟨ds, r, bb⟩ := F.binds1 n d hd hn b
  exact pe_meth (pl := pl) he hc M G (hr.mono hk) bb r hx ha hst hpl ht
end
/-! ### comprehensions of two clauses -/
section
variable {J J1 : It} {n n1 : Nat} {G G1 : Hp → Prop} {Y Y1 : Nat → Hp → V → Hp → Prop}
theorem lc2_it (w : Walk J n G Y) {g g1 : TG} {tt tt1 : TT} {te : TE} {wi1 : TI} {vs vs1 : List Nat} {σ : L2.St} {H1 : Hp} {D : Addr} {Qd : Hp → Prop} (Pv : Nat → Hp → Prop) (h0 : Pv 0 (L2.upd H1 D (.lst []))) (hG : ∀ i H, i ≤ n → Pv i H → G H)
    (hs : ∀ i x H H', i < n → Pv i H → Y i H x H' → g x (wipe σ vs) H' fun σ2 H2 => wipe σ2 vs = wipe σ vs ∧ tt σ2 H2 fun b H3 =>
      if b = true then wi1 σ2 H3 fun J1 H4 => ∃ W1 : Nat → Nat → Hp → Prop, (∃ m, W1 0 m H4) ∧ ∀ j k H, W1 j k H →
        (J1.stop j H ∧ Pv (i + 1) H) ∨ (J1.go j H ∧ ∃ Nx1 : Hp → Prop, (∀ H', Nx1 H' → ∃ k', k' < k ∧ W1 (j + 1) k' H') ∧ ∀ x H', J1.yld j H x H' → g1 x (wipe σ2 vs1) H' fun σ3 H5 => wipe σ3 vs1 = wipe σ2 vs1 ∧ tt1 σ3 H5 fun b H6 =>
          if b = true then te σ3 H6 fun y H7 => ∃ acc, H7 D = some (.lst acc) ∧ acc.length < sizeLine ∧ Nx1 (L2.upd H7 D (.lst (acc ++ [y]))) else Nx1 H6)
      else Pv (i + 1) H3) (hd : ∀ H, Pv n H → Qd H) :
    ∃ W : Nat → Nat → Hp → Prop, (∃ m, W 0 m (L2.upd H1 D (.lst []))) ∧ ∀ i m H, W i m H →
      (J.stop i H ∧ Qd H) ∨ (J.go i H ∧ ∃ Nx : Hp → Prop, (∀ H', Nx H' → ∃ m', m' < m ∧ W (i + 1) m' H') ∧ ∀ x H', J.yld i H x H' → g x (wipe σ vs) H' fun σ2 H2 => wipe σ2 vs = wipe σ vs ∧ tt σ2 H2 fun b H3 =>
        if b = true then wi1 σ2 H3 fun J1 H4 => ∃ W1 : Nat → Nat → Hp → Prop, (∃ m, W1 0 m H4) ∧ ∀ j k H, W1 j k H →
          (J1.stop j H ∧ Nx H) ∨ (J1.go j H ∧ ∃ Nx1 : Hp → Prop, (∀ H', Nx1 H' → ∃ k', k' < k ∧ W1 (j + 1) k' H') ∧ ∀ x H', J1.yld j H x H' → g1 x (wipe σ2 vs1) H' fun σ3 H5 => wipe σ3 vs1 = wipe σ2 vs1 ∧ tt1 σ3 H5 fun b H6 =>
            if b = true then te σ3 H6 fun y H7 => ∃ acc, H7 D = some (.lst acc) ∧ acc.length < sizeLine ∧ Nx1 (L2.upd H7 D (.lst (acc ++ [y]))) else Nx1 H6)
        else Nx H3) := by
  refine ⟨fun i m H => m = n - i ∧ i ≤ n ∧ Pv i H, ⟨n, by simp, Nat.zero_le _, h0⟩, ?_⟩
  rintro i m H ⟨rfl, hi, p⟩
  have q := hG i H hi p
  by_cases hlt : i < n
  · exact .inr ⟨w.goes i H hlt q, Pv (i + 1), fun H' p' => ⟨n - (i + 1), by omega, rfl, hlt, p'⟩, fun x H' y => hs i x H H' hlt p (w.yields i H x H' hlt q y)⟩
  · have e : i = n := by omega
    subst e
    exact .inl ⟨w.stops H q, hd H p⟩
/-- the second clause's own loop -/
theorem lc_in (w : Walk J1 n1 G1 Y1) {g1 : TG} {tt1 : TT} {te : TE} {vs1 : List Nat} {σ2 : L2.St} {H4 : Hp} {D : Addr} {Nd : Hp → Prop} (Pw : Nat → Hp → Prop) (h0 : Pw 0 H4) (hG : ∀ j H, j ≤ n1 → Pw j H → G1 H)
    (hs : ∀ j x H H', j < n1 → Pw j H → Y1 j H x H' → g1 x (wipe σ2 vs1) H' fun σ3 H5 => wipe σ3 vs1 = wipe σ2 vs1 ∧ tt1 σ3 H5 fun b H6 =>
      if b = true then te σ3 H6 fun y H7 => ∃ acc, H7 D = some (.lst acc) ∧ acc.length < sizeLine ∧ Pw (j + 1) (L2.upd H7 D (.lst (acc ++ [y]))) else Pw (j + 1) H6) (hd : ∀ H, Pw n1 H → Nd H) :
    ∃ W1 : Nat → Nat → Hp → Prop, (∃ m, W1 0 m H4) ∧ ∀ j k H, W1 j k H →
      (J1.stop j H ∧ Nd H) ∨ (J1.go j H ∧ ∃ Nx1 : Hp → Prop, (∀ H', Nx1 H' → ∃ k', k' < k ∧ W1 (j + 1) k' H') ∧ ∀ x H', J1.yld j H x H' → g1 x (wipe σ2 vs1) H' fun σ3 H5 => wipe σ3 vs1 = wipe σ2 vs1 ∧ tt1 σ3 H5 fun b H6 =>
        if b = true then te σ3 H6 fun y H7 => ∃ acc, H7 D = some (.lst acc) ∧ acc.length < sizeLine ∧ Nx1 (L2.upd H7 D (.lst (acc ++ [y]))) else Nx1 H6) := by
  refine ⟨fun i m H => m = n1 - i ∧ i ≤ n1 ∧ Pw i H, ⟨n1, by simp, Nat.zero_le _, h0⟩, ?_⟩
  rintro i m H ⟨rfl, hi, p⟩
  have q := hG i H hi p
  by_cases hlt : i < n1
  · exact .inr ⟨w.goes i H hlt q, Pw (i + 1), fun H' p' => ⟨n1 - (i + 1), by omega, rfl, hlt, p'⟩, fun x H' y => hs i x H H' hlt p (w.yields i H x H' hlt q y)⟩
  · have e : i = n1 := by omega
    subst e
    exact .inl ⟨w.stops H q, hd H p⟩
end
/-! ### rows of a whole number and a text -/
def encD (x : Int × Str) : PyData := .tuple [.int x.1, .str x.2]
def leD : Int × Str → Int × Str → Bool := PySem.W.dataLe false encD
theorem leD_total : PySem.W.TotalLe leD := PySem.W.sortLe_total _ false _
theorem leD_lt (x y : Int × Str) : leD x y = !PySem.W.DatumOrd.lt y x := by
  show (!PySem.W.dataLt (encD y) (encD x)) = _
  rw [show encD y = PySem.W.Datum.toD y from rfl, show encD x = PySem.W.Datum.toD x from rfl, PySem.W.DatumOrd.lt_eq]
theorem leD_day {x y : Int × Str} (h : leD x y = true) : x.1 ≤ y.1 := by
  rw [leD_lt, Bool.not_eq_true'] at h
  have h : (if y.1 = x.1 then PySem.W.DatumOrd.lt y.2 x.2 else decide (y.1 < x.1)) = false := h
  by_cases e : y.1 = x.1
  · omega
  · rw [if_neg e] at h
    have := of_decide_eq_false h
    omega
theorem leD_of_day {x y : Int × Str} (h : x.1 < y.1) : leD x y = true := by
  rw [leD_lt, Bool.not_eq_true']
  show (if y.1 = x.1 then PySem.W.DatumOrd.lt y.2 x.2 else decide (y.1 < x.1)) = false
  rw [if_neg (by omega), decide_eq_false (by omega)]
theorem minOf_sorted {y : Int × Str} {ys : List (Int × Str)} (h : ∀ z ∈ ys, leD y z = true) : PySem.W.minOf y ys = y := by
  unfold PySem.W.minOf
  induction ys with
  | nil => rfl
  | cons z zs ih =>
    have hz := h z List.mem_cons_self
    rw [leD_lt, Bool.not_eq_true'] at hz
    rw [List.foldl_cons, hz, if_neg Bool.false_ne_true]
    exact ih fun u hu => h u (List.mem_cons_of_mem _ hu)
def duoAt (H : Hp) (v : V) : Int × Str := match v with
  | .ref t => match H t with
    | some (.tup [.int a, .str s]) => (a, s)
    | _ => (0, "")
  | _ => (0, "")
theorem duoAt_eq {H : Hp} {t : Addr} {a : Int} {s : Str} (h : H t = some (.tup [.int a, .str s])) : duoAt H (.ref t) = (a, s) := by
  unfold duoAt
  simp only [h]
def Duo (H : Hp) (v : V) (x : Int × Str) : Prop := ∃ t : Addr, v = .ref t ∧ H t = some (.tup [.int x.1, .str x.2])
def Duos (H : Hp) (us : List V) (xs : List (Int × Str)) : Prop := xs.length = us.length ∧ ∀ (j : Nat) (v : V), us[j]? = some v → ∃ x, xs[j]? = some x ∧ Duo H v x
theorem Duo.same {H H1 : Hp} {v : V} {x : Int × Str} (h : Duo H v x) (s : ∀ t xs, H t = some (.tup xs) → H1 t = some (.tup xs)) : Duo H1 v x := by
  obtain ⟨t, e, h⟩ := h
  exact ⟨t, e, s _ _ h⟩
theorem Duos.same {H H1 : Hp} {us : List V} {xs : List (Int × Str)} (h : Duos H us xs) (s : ∀ t xs, H t = some (.tup xs) → H1 t = some (.tup xs)) : Duos H1 us xs := ⟨h.1, fun j v hj => by
  obtain ⟨x, e, d⟩ := h.2 j v hj
  exact ⟨x, e, d.same s⟩⟩
theorem Duos.nil {H : Hp} : Duos H [] [] := ⟨rfl, fun j v h => by simp at h⟩
theorem Duos.snoc {H : Hp} {us : List V} {xs : List (Int × Str)} {v : V} {x : Int × Str} (h : Duos H us xs) (d : Duo H v x) : Duos H (us ++ [v]) (xs ++ [x]) := ⟨by simp [h.1], fun j u hj => by
  by_cases c : j < us.length
  · rw [List.getElem?_append_left c] at hj
    rw [List.getElem?_append_left (by rw [h.1]; exact c)]
    exact h.2 j u hj
  · have ej : j = us.length := by
      have := (List.getElem?_eq_some_iff.mp hj).1
      rw [List.length_append, List.length_cons, List.length_nil] at this
      omega
    subst ej
    rw [List.getElem?_append_right (Nat.le_refl _), Nat.sub_self] at hj
    cases hj
    rw [← h.1, List.getElem?_append_right (Nat.le_refl _), Nat.sub_self]
    exact ⟨x, rfl, d⟩⟩
theorem Duos.append {H : Hp} {us vs : List V} {xs ys : List (Int × Str)} (h : Duos H us xs) (k : Duos H vs ys) : Duos H (us ++ vs) (xs ++ ys) := ⟨by simp [h.1, k.1], fun j u hj => by
  by_cases c : j < us.length
  · rw [List.getElem?_append_left c] at hj
    rw [List.getElem?_append_left (by rw [h.1]; exact c)]
    exact h.2 j u hj
  · rw [List.getElem?_append_right (by omega)] at hj
    rw [List.getElem?_append_right (by rw [h.1]; omega), h.1]
    exact k.2 _ u hj⟩
theorem Duos.get {H : Hp} {us : List V} {xs : List (Int × Str)} (h : Duos H us xs) {j : Nat} {x : Int × Str} (hj : xs[j]? = some x) : ∃ v, us[j]? = some v ∧ Duo H v x := by
  have hl := (List.getElem?_eq_some_iff.mp hj).1
  have e := List.getElem?_eq_getElem (show j < us.length by rw [← h.1]; exact hl)
  obtain ⟨x', e', d⟩ := h.2 j _ e
  rw [hj] at e'
  cases e'
  exact ⟨_, e, d⟩
theorem Duos.eq {H : Hp} {us : List V} {xs : List (Int × Str)} (h : Duos H us xs) : xs = us.map (duoAt H) := by
  refine List.ext_getElem? fun j => ?_
  rw [List.getElem?_map]
  cases hu : us[j]? with
  | none => rw [List.getElem?_eq_none_iff.mpr (by rw [h.1]; exact List.getElem?_eq_none_iff.mp hu)]; rfl
  | some v =>
    obtain ⟨x, e, t, rfl, ht⟩ := h.2 j v hu
    rw [e]
    show some x = some (duoAt H (.ref t))
    rw [duoAt_eq ht]
theorem Duos.at {H : Hp} {us : List V} {xs : List (Int × Str)} (h : Duos H us xs) : ∀ v ∈ us, Duo H v (duoAt H v) := fun v hv => by
  obtain ⟨j, hj⟩ := List.getElem?_of_mem hv
  obtain ⟨x, _, t, rfl, ht⟩ := h.2 j v hj
  refine ⟨t, rfl, ?_⟩
  rw [duoAt_eq ht]
  exact ht
theorem Duos.of {H : Hp} {us : List V} (h : ∀ v ∈ us, Duo H v (duoAt H v)) : Duos H us (us.map (duoAt H)) := ⟨by simp, fun j v hj => ⟨duoAt H v, by rw [List.getElem?_map, hj]; rfl, h v (List.mem_of_getElem? hj)⟩⟩
theorem duo_dp {K : PySem.W.Frag} {H : Hp} {v : V} {x : Int × Str} (h : Duo H v x) : Dp K H v (encD x) := by
  obtain ⟨t, rfl, ht⟩ := h
  exact .tup (SqT.of ht) (.cons (.int _) (.cons (.str _) .nil))
theorem duos_dps {K : PySem.W.Frag} {H : Hp} : ∀ {us : List V} {xs : List (Int × Str)}, Duos H us xs → DpAll K H us (xs.map encD)
  | [], [], _ => .nil
  | [], x :: xs, h => by have := h.1; simp at this
  | u :: us, [], h => by have := h.1; simp at this
  | u :: us, x :: xs, h => by
    obtain ⟨x', e, d⟩ := h.2 0 u rfl
    cases e
    exact .cons (duo_dp d) (duos_dps ⟨by have := h.1; simpa using this, fun j v hj => h.2 (j + 1) v hj⟩)
theorem each_of_vals : ∀ {us : List V} {its : List Value}, Vals us its → PySem.W.EachIs (fun u v => L2.RelV v u) its us
  | _, _, .nil => .nil
  | _, _, .cons r t => .cons r (each_of_vals t)
theorem vals_of_each : ∀ {us : List V} {its : List Value}, PySem.W.EachIs (fun u v => L2.RelV v u) its us → Vals us its
  | _, _, .nil => .nil
  | _, _, .cons r t => .cons r (vals_of_each t)
def rSrtD (K : PySem.W.Frag) : List V → Hp → VK → Prop := fun vs H Q => ∃ (a : Addr) (us : List V) (xs : List (Int × Str)), vs = [V.ref a] ∧ SqL K H a us ∧ Duos H us xs ∧ ∀ (us' : List V) (p : Addr), Duos H us' (xs.mergeSort leD) → H p = none → Q (.ref p) (L2.upd H p (.lst us'))
theorem cr_srtD {X : Cx} (hu : X.A.units + 20 < cLine) : CallR X (.builtin "sorted") (rSrtD X.K) := by
  intro pins s σ H vs us Q I r h
  obtain ⟨a, xs, ps, rfl, hs, hx, q⟩ := h
  obtain ⟨its, rv, hl, hz⟩ := I.list hs
  obtain ⟨u, rfl, ru⟩ := vals1 r
  obtain rfl : u = Value.ref a := ru
  have hat := hx.at
  have rd : ∀ {us0 : List V} {its0 : List Value}, Vals us0 its0 → (∀ v ∈ us0, Duo H v (duoAt H v)) → PySem.W.EachIs (fun v b => ∃ as, Reads s.heap v (encD (duoAt H b)) as) its0 us0 := by
    intro us0 its0 hv
    induction hv with
    | nil => exact fun _ => .nil
    | cons r t ih =>
      intro h0
      exact .cons (Dp.reads I _ _ _ (duo_dp (h0 _ List.mem_cons_self)) r) (ih fun v hv => h0 v (List.mem_cons_of_mem _ hv))
  refine PySem.W.sorted_data (β := V) (bs := xs) (enc := fun v => encD (duoAt H v)) (R := fun u v => L2.RelV v u) hl.isList (each_of_vals rv) (rd rv hat) (PySem.W.AllAlike.of fun b b' => PySem.W.DatumOrd.alike (duoAt H b) (duoAt H b')) (PySem.W.Sortable.tuples fun b => ⟨_, _, rfl⟩) hz
    (fun b _ => ?_) fun out ho hE => ?_
  · have h2 : (encD (duoAt H b)).depth = 1 := by
      unfold encD
      simp [PyData.depth, PyData.depthAll]
    show X.A.units + 2 + (encD (duoAt H b)).depth < cLine
    rw [h2]
    omega
  · have hv' := vals_of_each hE
    have em : (xs.mergeSort (PySem.W.dataLe false fun v => encD (duoAt H v))).map (duoAt H) = ps.mergeSort leD := by
      rw [PySem.W.sort_maps (r := PySem.W.dataLe false fun v => encD (duoAt H v)) (s := leD) (duoAt H) (fun _ _ _ _ => rfl), ← hx.eq]
    have hd : Duos H (xs.mergeSort (PySem.W.dataLe false fun v => encD (duoAt H v))) (ps.mergeSort leD) := by
      rw [← em]
      exact Duos.of fun v hv => hat v (List.mem_mergeSort.mp hv)
    have hn : H (s.heap.objs.size + 1) = none := I.hok.fresh (Nat.le_succ _)
    obtain ⟨n, hat2⟩ := PyProof.Rows.sortedAll_at s.heap its out.toArray
    exact ⟨.ref (s.heap.objs.size + 1), L2.upd H (s.heap.objs.size + 1) (.lst (xs.mergeSort (PySem.W.dataLe false fun v => encD (duoAt H v)))), I.laid (t' := s.toks) (fun b o e => PyProof.Rows.sortedAll_old e) (Nat.le_succ _) ⟨by rw [List.length_mergeSort]; exact hz, out, n, hv', hat2⟩, rfl, q _ _ hd hn⟩
/-! ### min(rows, default=None) -/
def rMinD (K : PySem.W.Frag) (v : V) (H : Hp) (Q : VK) : Prop := ∃ (l : Addr) (us : List V) (xs : List (Int × Str)), v = .ref l ∧ SqL K H l us ∧ Duos H us xs ∧ (xs = [] → Q .non H) ∧ ∀ y ys t, xs = y :: ys → H t = some (.tup [.int (PySem.W.minOf y ys).1, .str (PySem.W.minOf y ys).2]) → Q (.ref t) H
def tMinD (K : PySem.W.Frag) (te : TE) : TE := fun σ H Q => te σ H fun v H1 => rMinD K v H1 Q
theorem pe_minD {X : Cx} {j : Nat} {p pos : Pos} {e : Expr} {te : TE} {kws : List Keyword} (hr : Room j X.A) (hc : X.calm = true)
    (hkw : PK X kws (tCons (tC .non) tNil)) (hg : Gl X "min") (hm : X.mg "min" = none) (ha : PA X [e] (tCons te tNil))
    (he : backTo pos (starEach [e] X.env) = (false, eval e X.env) :: backTo pos (starEach [] X.env) := by rfl) (hpl : (backTo pos (starEach [e] X.env)).any (·.1) = false := by rfl)
    (hall : (backToKw pos (keywordEach kws X.env)).all (·.1.isSome) = true := by rfl) (hnone : (backToKw pos (keywordEach kws X.env)).any (·.1.isNone) = false := by rfl) (hks : (backToKw pos (keywordEach kws X.env)).filterMap (·.1) = [Str.ofString "default"] := by rfl) :
    PE X (.Call (.Name "min" p) [e] kws pos) (tMinD X.K te) := by
  refine ⟨fun pins s σ H Q I h => ?_⟩
  refine wpAny_Call_Name_kw (ld_blt (u := .builtin "min") I hg hm (by rfl) ?_ (by decide) (by decide))
  refine PyProof.Rows.callWith_kw (thn (ha.run pos pins s σ H (oneV fun v H1 => rMinD X.K v H1 Q) I h) fun us s1 ⟨vs, H1, I1, r1, q1⟩ => thn (hkw.run pos pins s1 σ H1 (fun zs H2 => zs = [.non] ∧ oneV (fun v H1 => rMinD X.K v H1 Q) vs H2) I1 ⟨rfl, q1⟩) fun ws s2 ⟨zs, H2, I2, r2, hz, q2⟩ => ?_) he hpl hall hnone
  rw [hks]
  subst hz
  match vs, q2, r1 with
  | [v], q2, r1 =>
  obtain ⟨l, vs, xs, rfl, hl, hd, h0, h1⟩ := q2
  obtain rfl := Vals.ref1 r1
  obtain ⟨u, rfl, ru⟩ := vals1 r2
  obtain rfl : u = Value.none := ru
  obtain ⟨its, rv, hl2, hz⟩ := I2.list hl
  have hat := hd.at
  have ex := hd.eq
  have ho : ∀ {us0 : List V} {its0 : List Value}, Vals us0 its0 → (∀ v ∈ us0, Duo H2 v (duoAt H2 v)) → PySem.W.HoldAll s2.heap its0 (us0.map (duoAt H2)) := by
    intro us0 its0 hv
    induction hv with
    | nil => exact fun _ => ⟨_, .nil⟩
    | cons r t ih =>
      intro h0
      exact PySem.W.HoldAll.cons (Dp.reads I2 _ _ _ (duo_dp (h0 _ List.mem_cons_self)) r) (ih fun v hv => h0 v (List.mem_cons_of_mem _ hv))
  have hold := ho rv hat
  rw [← ex] at hold
  have hun := hr.units
  refine PySem.W.min_list_datum_default (xs := xs) (I2.ok.hd hc) hl2.isList hold (by show X.A.units + 1 + PySem.W.Datum.depth (Int × Str) < cLine; have : PySem.W.Datum.depth (Int × Str) = 1 := rfl; omega) (fun e h' tk kp => ?_) fun y ys i v h' tk e hi hv kp => ?_
  · exact ⟨.non, H2, I2.kept (t' := tk) kp, rfl, h0 e⟩
  · have hi' : its[i]? = some v := by
      rw [← List.getElem?_toArray]
      exact hi
    have hil := (List.getElem?_eq_some_iff.mp hi').1
    have hil' : i < vs.length := by
      rw [rv.length]
      exact hil
    obtain ⟨u, hu, ru⟩ := L2.Vals.get rv (List.getElem?_eq_getElem hil')
    rw [hi'] at hu
    cases hu
    have I3 := I2.kept (t' := tk) kp
    obtain ⟨x, ex', t, et, ht⟩ := hd.2 i _ (List.getElem?_eq_getElem hil')
    rw [et] at ru
    obtain ⟨as, rd⟩ := Dp.reads I3 _ _ _ (duo_dp (K := X.K) ⟨t, rfl, ht⟩) ru
    obtain ⟨bs, rd2⟩ := hv
    have eq := PySem.W.alike_unique _ _ _ _ _ (PySem.W.DatumOrd.alike x (PySem.W.minOf y ys)) rd rd2
    have eq : PyData.tuple [.int x.1, .str x.2] = .tuple [.int (PySem.W.minOf y ys).1, .str (PySem.W.minOf y ys).2] := eq
    injection eq with e1
    injection e1 with e2 e3
    injection e3 with e4 _
    injection e2 with e2
    injection e4 with e4
    refine ⟨.ref t, H2, I3, ru, h1 y ys t e ?_⟩
    rw [← e2, ← e4]
    exact ht
end MM
/-! own errors over IndexError and RuntimeError; an error without any field -/
namespace MM
open PySem PySem.Spec PySem.Calls PyProof.Rows L2
section
variable {X : Cx} {C a : Addr}
/-- C() is made and let go: it has no dict of its own -/
theorem mk_endN {pins : List (Addr × Obj)} {σ : L2.St} {K1 K2 : Hp} {Q : XK} {hA hB hC : Heap} {gA gC : Array GenState} {dA dC : Drawn} {tA tC : Nat} {oA oC : OsState} (T : Raises X (.ref C)) (I : Inv X pins σ K1 ⟨hA, gA, dA, tA, oA⟩)
    (le : hA.objs.size ≤ a) (grow : ∀ b o, hA.get? b = some o → hB.get? b = some o) (U : Un (frs X.stack) [] (L2.upd K1 a (exo a C none)) K2 hB hC) (ok : HOk X.prog X.w K2 hC) (eo : oC = oA) (bare : AllBare gC) (e2 : K2 a = some (exo a C none)) (q : Q (.ref C) none (del K2 a)) :
    MkP X pins σ Q (.ref a) ⟨hC, gC, dC, tC, oC⟩ := by
  obtain ⟨tt, there⟩ := exo_at ok e2
  have free1 : K1 a = none := I.hok.fresh le
  obtain ⟨G, keepG, dropG⟩ := restrict hC fun b => decide (b ≠ a)
  have same : ∀ {b}, b ≠ a → G.get? b = hC.get? b := fun n => keepG _ (decide_eq_true n)
  have gone : G.get? a = none := dropG _ (decide_eq_false fun n => n rfl)
  have old : ∀ {b : Addr} {o : Obj}, hA.get? b = some o → b ≠ a := fun z => Nat.ne_of_lt (Nat.lt_of_lt_of_le (Heap.lt_size z) le)
  have none1 : ∀ {b : Addr}, b ≠ a → K1 b = none → (L2.upd K1 a (exo a C none)) b = none := fun n z => (upd_ne n).trans z
  have some1 : ∀ {b : Addr} {u : HO}, K1 b = some u → (L2.upd K1 a (exo a C none)) b = some u := fun z => (upd_ne (ne_of_none z free1)).trans z
  have V : Un (frs X.stack) [] K1 (del K2 a) hA G :=
    ⟨fun b o z n f x => (same (old z)).trans (U.keep b o (grow b o z) (none1 (old z) n) f x), fun b o z n f x => by rw [same (old z)]; exact U.slot b o (grow b o z) (none1 (old z) n) f x,
      fun b o z n x => by rw [del_ne (old z)]; exact U.free b o (grow b o z) (none1 (old z) n) x, fun b o z x => by rw [same (old z)]; exact U.there b o (grow b o z) x,
      fun b xs z => by rw [del_ne (ne_of_none z free1)]; exact U.tups b xs (some1 z), fun b o v z => by rw [del_ne (ne_of_none z free1)]; exact U.frzs b o v (some1 z), fun b ps z => by rw [del_ne (ne_of_none z free1)]; exact U.tbls b ps (some1 z)⟩
  have ok' : HOk X.prog X.w (del K2 a) G := fun b o z => by
    have n : b ≠ a := fun e => by subst e; cases del_same.symm.trans z
    rw [del_ne n] at z
    have own : ∀ {c : Addr}, K2 c = some (.own b) → c ≠ a := fun hc => at_ne e2 hc exo_own
    refine (ok b o z).stay (fun c v hc y => ?_) (fun c hc => (del_ne (own hc)).trans hc) fun c xs hc => (del_ne (at_ne e2 hc exo_tup)).trans hc
    refine (same ?_).trans y
    rcases hc with rfl | hc
    · exact n
    · exact own hc
  have J : Inv X pins σ (del K2 a) ⟨G, gC, dC, tC, oC⟩ := I.call' (ch := []) eo V ok' bare fun b z => absurd z (by simp)
  refine ⟨a, _, _, ⟨G, gC, dC, tC, oC⟩, _, .ref C, none, rfl, J, fun b o z => ?_, gone, there, ⟨rfl, rfl⟩, rfl, rfl, del_same, rfl, bare, T, q⟩
  by_cases n : b = a
  · subst n
    cases gone.symm.trans z
  · exact (same n).symm.trans z
/-- what raise C() wishes -/
def tMkN (C : Addr) (sp : Sp) : L2.St → Hp → XK → Prop := fun _ H Q => ∀ a, H a = none → sp [.ref a] (L2.upd H a (exo a C none)) (fun v H2 => v = .non ∧ H2 a = some (exo a C none) ∧ Q (.ref C) none (del H2 a)) (fun _ _ _ => False)
theorem pmk_g0 {CX : CXT} {x : Str} {fI : Addr} {k : Nat} {fd : FuncData} {ps : List Str} {sp : Sp} {p pos : Pos} {B newId initId : String} {bm : List Value} (T : OxG X.K C B newId initId bm) (iC : PySem.W.findIn X.K (.ref C) "__init__" = some (some (.ref fI)))
    (tI : PySem.W.typeIn X.K (.ref fI) = some (.type "function")) (F1 : FnOk X.prog X.w X.K X.mg X.base CX k fI fd ps sp) (hr : Room (k + 1) X.A) (hb : Binds X.K fd ps []) (hx : Passes CX X (fun _ _ _ => False)) (hg : Gl X x) (hm : X.mg x = some (.ref C))
    (hdb : (x == ("__debug__" : Str)) = false := by decide) : PMk X (.Call (.Name x p) [] [] pos) (tMkN C sp) := by
  intro pins s σ H Q I h
  obtain ⟨_, _, _, _, _, _, _, _, _, _, _, _, _, _, hC⟩ := T.cls
  refine wpAny_Call_Name_kw (ld_glob I hg hm ?_ hdb)
  refine PySem.W.callWith_K0 I.kIn T.kC ?_
  show wpAny _ _ (call (.ref C) []) _ _ _
  obtain ⟨hp, g, dr, tk, os⟩ := s
  have le1 : hp.objs.size ≤ hp.objs.size + 1 := Nat.le_succ _
  have hq := h (hp.objs.size + 1) (I.hok.fresh le1)
  have grow : ∀ b o', hp.get? b = some o' → ((hp.push (PySem.W.kdv_tup [])).push (PySem.HandSPX.excO C hp.objs.size)).get? b = some o' := fun b o' z => Heap.get?_push_of_some _ (Heap.get?_push_of_some _ z)
  have got : ((hp.push (PySem.W.kdv_tup [])).push (PySem.HandSPX.excO C hp.objs.size)).get? (hp.objs.size + 1) = some (PySem.HandSPX.excO C hp.objs.size) := by heap_get
  have I2 := I.laid (t' := tk) (a := hp.objs.size + 1) (o := exo (hp.objs.size + 1) C none) (h' := (hp.push (PySem.W.kdv_tup [])).push (PySem.HandSPX.excO C hp.objs.size)) grow le1 (exo_ok got)
  have r2 : Vals [V.ref (hp.objs.size + 1)] [Value.ref (hp.objs.size + 1)] := .cons rfl .nil
  have hl : ([Value.ref (hp.objs.size + 1)] : List Value).length = ps.length := r2.length.symm.trans (F1.len _ _ _ _ hq)
  refine wpAny_call (PySem.HandSPX.call_own T.bf (fun _ => rfl) (I.kIn _ _ hC) (PySem.W.looks_findIn I.kIn iC) (fun self => PySem.W.bind_fn I.kIn self tI) (Nat.zero_le _) (codeAny_mono (F1.run _ X.stack _ _ ⟨[Value.ref (hp.objs.size + 1)], []⟩ ([Value.ref (hp.objs.size + 1)] ++ []) _ _ (fun _ _ _ => False)
    (hr.make C [] []) (I2.env0.make C [] []) (hb _ [Value.ref (hp.objs.size + 1)] I2.kIn (by simpa using hl)) (by simpa using r2) hq) fun r s' hq' => ?_))
  match r, hq' with
  | .error er, hq' => exact hx pins σ _ _ er s' I2 hq'
  | .ok .next, hq' => exact hq'.elim
  | .ok .brk, hq' => exact hq'.elim
  | .ok .cont, hq' => exact hq'.elim
  | .ok (.ret u), hq' =>
    obtain ⟨v, H2, os2, bare2, un2, hok2, rv, rfl, ea, q2⟩ := hq'
    obtain ⟨h2, g2, d2, t2, os'⟩ := s'
    exact ⟨rv, mk_endN (raises_own T.exC T.tyC) I le1 grow un2 hok2 os2 bare2 ea q2⟩
/-- a kept error without a dict, asked for its class -/
def rIsN (K : PySem.W.Frag) (D : Addr) : List V → Hp → VK → Prop := fun xs H Q => ∃ (a : Addr) (c : V) (u : Value) (b : Bool), xs = [.ref a, c] ∧ H a = some (KX a (.ref D) none) ∧ ClsV c u ∧ PySem.W.kitOne K (.ref D) u = some b ∧ Q (.bl b) H
theorem kept_instN {D : Addr} {pins : List (Addr × Obj)} {σ : L2.St} {H : Hp} {s : Shared} (I : Inv X pins σ H s) (ha : H a = some (KX a (.ref D) none)) : ∃ ox, PySem.W.InstAt s.heap a ox D none := by
  have x1 : ObjOk X.prog X.w H s.heap a (KX a (.ref D) none) := I.hok a _ ha
  obtain ⟨⟨ox, vs, e, z, dd⟩, _, _⟩ := x1
  exact ⟨ox, e, z.1, by unfold PySem.W.notCls; rw [dd], by rw [z.2]; trivial⟩
theorem call_isN {D : Addr} (Y : XcF X.K D) : CallR X (.builtin "isinstance") (rIsN X.K D) := by
  intro pins s σ H xs us Q I r h
  obtain ⟨a, c, u, b, rfl, ha, hc, e, q⟩ := h
  obtain ⟨u1, u2, rfl, r1, r2⟩ := vals2 r
  cases (show u1 = Value.ref a from r1)
  cases hc.eq r2
  obtain ⟨ox, J⟩ := kept_instN I ha
  exact PySem.W.kia_one (kitx_kept Y) I.kIn ⟨ox, _, J⟩ e (fun z => nomatch z) fun tk => ⟨.bl b, H, I.kept (t' := tk) fun _ _ z => z, rfl, q⟩
end
section
variable {P : Program} {w : World} {K : PySem.W.Frag} {mg : Str → Option Value} {base : Heap} {m qual : Str} {C : Addr} {st : Stmt} {N ps : List Str} {k : Nat} {sp : Sp}
/-- a method that may raise -/
theorem cmX (D : Dm K C m qual st) (S : FnScope N ps (defScope st)) (len : ∀ vs H Q E, sp vs H Q E → vs.length = ps.length)
    (body : ∀ (f : Addr) (cdv : Value) (A : Around) (outer : List Env) (s : Shared) (H : Hp) (vs : List V) (Q : VK) (E : XK), Room k (A.deeper (envOfC qual (defScope st) s.heap.objs.size f cdv)) → sp vs H Q E →
      ∃ t, PSs (cxOf (L2.CX P w) P w K mg base N qual (defScope st) f cdv A outer s H E) (defBody st) t ∧ t { nx := fun _ H' => Q .non H', rt := Q } (start N vs) H) : Cm P w K mg base (L2.CX P w) (k + 1) C m qual st ps sp := by
  obtain ⟨f, fd, F, M, hc⟩ := D.ex
  exact ⟨f, fd, F, M, hc, F.ok S len fun cdv A outer s H vs Q E hr h => body f cdv A outer s H vs Q E hr h⟩
end
abbrev bmI : List Value := [.type "IndexError", .type "LookupError", .type "Exception", .type "BaseException", .type "object"]
abbrev bmR : List Value := [.type "RuntimeError", .type "Exception", .type "BaseException", .type "object"]
theorem store_I : StoreFacts "IndexError" bmI "object.__setattr__" "object" where
  mro := by kernel_rfl
  slot := .of (owner := "object") (n := "__setattr__") (by rw [typeLookup_type, builtinLookup_eq_fast]; kernel_rfl) (by decide +kernel) (by decide +kernel) (by decide +kernel) (by first | exact .inl (by decide +kernel) | exact .inr (by decide +kernel)) (by rw [isSubtype_type]; kernel_rfl)
  entry := PySem.F.entry_object_sa
  kind := by decide +kernel
  split := by decide +kernel
  hasOwner := by decide +kernel
  args := fun a b c => by unfold argsOk; kernel_rfl
  passes := fun self => by kernel_rfl
theorem store_R : StoreFacts "RuntimeError" bmR "object.__setattr__" "object" where
  mro := by kernel_rfl
  slot := .of (owner := "object") (n := "__setattr__") (by rw [typeLookup_type, builtinLookup_eq_fast]; kernel_rfl) (by decide +kernel) (by decide +kernel) (by decide +kernel) (by first | exact .inl (by decide +kernel) | exact .inr (by decide +kernel)) (by rw [isSubtype_type]; kernel_rfl)
  entry := PySem.F.entry_object_sa
  kind := by decide +kernel
  split := by decide +kernel
  hasOwner := by decide +kernel
  args := fun a b c => by unfold argsOk; kernel_rfl
  passes := fun self => by kernel_rfl
abbrev OxI (K : PySem.W.Frag) (C : Addr) : Prop := OxG K C "IndexError" "IndexError.__new__" "IndexError.__init__" bmI
abbrev OxR (K : PySem.W.Frag) (C : Addr) : Prop := OxG K C "RuntimeError" "RuntimeError.__new__" "RuntimeError.__init__" bmR
theorem oxi_mk {K : PySem.W.Frag} {C : Addr} {nm q N bs sn sub ab col dd k0 k1 k2 k3 k5} (l : K.lookup C = some (excClassObj nm q C N bs bmI true sn sub ab col dd k0 k1 k2 k3 k5 "IndexError.__new__")) (sa : PySem.W.findIn K (.ref C) "__setattr__" = some (some (.builtin "object.__setattr__")))
    (exC : PySem.W.subIn K (.ref C) (.type "BaseException") = some true) (tyC : PySem.W.typeIn K (.ref C) = some (.type "type")) (kC : PySem.W.keepIn K (.ref C) = true) : OxI K C := ⟨PySem.F.excBase_IndexError, store_I, by decide +kernel, ⟨_, _, _, _, _, _, _, _, _, _, _, _, _, _, l⟩, sa, exC, tyC, kC⟩
theorem oxr_mk {K : PySem.W.Frag} {C : Addr} {nm q N bs sn sub ab col dd k0 k1 k2 k3 k5} (l : K.lookup C = some (excClassObj nm q C N bs bmR true sn sub ab col dd k0 k1 k2 k3 k5 "RuntimeError.__new__")) (sa : PySem.W.findIn K (.ref C) "__setattr__" = some (some (.builtin "object.__setattr__")))
    (exC : PySem.W.subIn K (.ref C) (.type "BaseException") = some true) (tyC : PySem.W.typeIn K (.ref C) = some (.type "type")) (kC : PySem.W.keepIn K (.ref C) = true) : OxR K C := ⟨PySem.F.excBase_RuntimeError, store_R, by decide +kernel, ⟨_, _, _, _, _, _, _, _, _, _, _, _, _, _, l⟩, sa, exC, tyC, kC⟩
theorem typ_I : typeOf (.type "IndexError") = pure (.type "type") := by kernel_rfl
theorem typ_R : typeOf (.type "RuntimeError") = pure (.type "type") := by kernel_rfl
end MM
namespace MM
open PySem PySem.Spec PyProof.Rows L2
/-! ### methods with defaults that may raise -/
section
variable {P : Program} {w : World} {K : PySem.W.Frag} {mg : Str → Option Value} {base : Heap} {x m qual : Str} {C : Addr} {st : Stmt} {dvs : List V} {N ps : List Str} {k : Nat} {sp : Sp}
theorem cmDX (D : DmD K C m qual st dvs) (S : FnScope N ps (defScope st)) (len : ∀ vs H Q E, sp vs H Q E → vs.length = ps.length)
    (body : ∀ (f : Addr) (cdv : Value) (A : Around) (outer : List Env) (s : Shared) (H : Hp) (vs : List V) (Q : VK) (E : XK), Room k (A.deeper (envOfC qual (defScope st) s.heap.objs.size f cdv)) → sp vs H Q E →
      ∃ t, PSs (cxOf (L2.CX P w) P w K mg base N qual (defScope st) f cdv A outer s H E) (defBody st) t ∧ t { nx := fun _ H' => Q .non H', rt := Q } (start N vs) H) : CmD P w K mg base (L2.CX P w) (k + 1) C m qual st dvs ps sp := by
  obtain ⟨f, fd, F, M, hc⟩ := D.ex
  exact ⟨f, fd, F, M, hc, F.ok S len fun cdv A outer s H vs Q E hr h => body f cdv A outer s H vs Q E hr h⟩
end
/-- how o.m(.., k = v, ..) binds where m has defaults -/
structure Kdm (m qual : Str) (st : Stmt) (dn n : Nat) (ks ps : List Str) (g : {α : Type} → List α → List α → List α → List α) : Prop where
  bind : ∀ (T : Addr) (kV doc pm : Value) (an : Option Addr) (cdv ct : Value) (us its ws : List Value), us.length = n → its.length = dn → ws.length = ks.length →
    ∃ k, bindArgs (PySem.W.fnOf m qual (defArgs st) (defBody st) (defScope st) (.ref T) kV doc pm an cdv ct) ⟨us, ks.zip ws⟩ = seqItems? (.ref T) >>= k ∧ k (some its.toArray) = pure (ps.zip (g us its ws))
  rel : ∀ {vs ds zs : List V} {us its ws : List Value}, Vals vs us → Vals ds its → Vals zs ws → Vals (g vs ds zs) (g us its ws)
section
variable {X : Cx} {CX : CXT} {k j n : Nat} {C : Addr} {m qual : Str} {st : Stmt} {sp : Sp} {ps ks : List Str} {dvs : List V} {E : XK} {pos apos : Pos} {e o : Expr} {es : List Expr} {kws : List Keyword} {ta : TE} {t tk : TA}
/-- o.m(e, .., k = v, ..) of a method with defaults -/
theorem pe_cmDK {pl : Sem Bool} {g : {α : Type} → List α → List α → List α → List α} (c : CmD X.prog X.w X.K X.mg X.base CX k C m qual st dvs ps sp) (b : Kdm m qual st dvs.length (n + 1) ks ps g) (hd : dvs ≠ []) (hr : Room j X.A) (hk : k ≤ j) (hx : Passes CX X E) (he : PE X o ta) (ha : PA X (e :: es) t) (hkw : PK X kws tk)
    (hall : (backToKw pos (keywordEach kws X.env)).all (·.1.isSome) = true := by rfl) (hks : (backToKw pos (keywordEach kws X.env)).filterMap (·.1) = ks := by rfl)
    (hst : starEach (e :: es) X.env = (false, eval e X.env) :: starEach es X.env := by rfl)
    (hpl : ((backTo pos (starEach (e :: es) X.env)).any (·.1) || (backToKw pos (keywordEach kws X.env)).any (·.1.isNone)) = false := by rfl)
    (ht : eval (.Call (.Attribute o m apos) (e :: es) kws pos) X.env = (eval o X.env >>= fun ov => standAt apos.atName >>= fun _ => holding [ov] (getMethod ov m pl) >>= fun q => callWith pos q.1 q.2 (backTo pos (starEach (e :: es) X.env)) (backToKw pos (keywordEach kws X.env))) := by rfl) :
    PE X (.Call (.Attribute o m apos) (e :: es) kws pos) (fun σ H Q => ta σ H fun x H1 => ∃ a dx fs, x = .ref a ∧ H1 a = some (.ins C dx fs) ∧ fs.lookup m = none ∧ t σ H1 fun vs H2 => tk σ H2 fun zs H3 => vs.length = n ∧ zs.length = ks.length ∧ sp (g (.ref a :: vs) dvs zs) H3 Q E) := by
  obtain ⟨f, fd, F, M, hc, G⟩ := c.ex
  obtain ⟨its, hb⟩ := F.kbindsD (n + 1) ks g hd b.rel b.bind
  refine ⟨fun pins s σ H Q I h => ?_⟩
  refine PySem.W.methodCall_KW (pl := pl) (thn (he.run pins s σ H _ I h) fun u s1 ⟨y, H1, I1, ry, a, dx, fs, ey, ea, l, q⟩ => ?_) ht
  subst ey
  obtain rfl : u = Value.ref a := ry
  refine getmeth_ok I1 ea hc M l ?_
  refine PySem.W.callWith_KW (first := [.ref a]) (h₀ := X.base) I.ok.mod.kin M.kp hall (thn (ha.run pos pins s1 σ H1 _ I1 q) fun us s2 ⟨vs, H2, I2, rv, q2⟩ => ?_) hpl hst
  refine thn (hkw.run pos pins s2 σ H2 _ I2 q2) fun ws s3 ⟨zs, H3, I3, rz, l1, l2, q3⟩ => ⟨I3.kIn, ?_⟩
  rw [hks]
  have r2 := hb.rel (vs := V.ref a :: vs) (us := Value.ref a :: us) (.cons rfl rv) rz
  refine wpAny_call (codeAny_mono (G.run X.A X.stack s3 H3 ⟨[.ref a] ++ us, ks.zip ws⟩ _ _ Q E (hr.mono hk) I3.env0 (hb.to s3 (Value.ref a :: us) ws I3.kIn (by rw [List.length_cons, ← rv.length, l1]) (rz.length.symm.trans l2)) r2 q3) fun r s' hq => ?_)
  match r, hq with
  | .error e, hq => exact hx pins σ H3 s3 e s' I3 hq
  | .ok (.ret u), hq => exact I3.after hq
  | .ok .next, hq => exact False.elim hq
  | .ok .brk, hq => exact False.elim hq
  | .ok .cont, hq => exact False.elim hq
end
end MM
namespace MM
open PySem PySem.Spec PyProof.Rows L2
/-! ### methods called by keywords that may raise, the names as they stand at the call -/
section
variable {X : Cx} {k j n : Nat} {C : Addr} {m qual : Str} {st : Stmt} {sp : Sp} {ps ks : List Str} {dvs : List V} {pos apos : Pos} {e o : Expr} {es : List Expr} {kws : List Keyword} {ta : TE} {t tk : TA} {W : WX}
theorem pe_cmKS {pl : Sem Bool} {g : {α : Type} → List α → List α → List α} (c : Cm X.prog X.w X.K X.mg X.base (L2.CX X.prog X.w) k C m qual st ps sp) (b : Kbm m qual st 1 ks ps g) (hr : Room j X.A) (hk : k ≤ j) (ht' : Takes X W) (he : PE X o ta) (hkw : PK X kws tk)
    (hall : (backToKw pos (keywordEach kws X.env)).all (·.1.isSome) = true := by rfl) (hks : (backToKw pos (keywordEach kws X.env)).filterMap (·.1) = ks := by rfl)
    (hpl : ((backTo pos (starEach [] X.env)).any (·.1) || (backToKw pos (keywordEach kws X.env)).any (·.1.isNone)) = false := by rfl)
    (ht : eval (.Call (.Attribute o m apos) [] kws pos) X.env = (eval o X.env >>= fun ov => standAt apos.atName >>= fun _ => holding [ov] (getMethod ov m pl) >>= fun q => callWith pos q.1 q.2 (backTo pos (starEach [] X.env)) (backToKw pos (keywordEach kws X.env))) := by rfl) :
    PE X (.Call (.Attribute o m apos) [] kws pos) (fun σ H Q => ta σ H fun x H1 => ∃ a dx fs, x = .ref a ∧ H1 a = some (.ins C dx fs) ∧ fs.lookup m = none ∧ tk σ H1 fun zs H2 => zs.length = ks.length ∧ sp (g [.ref a] zs) H2 Q (fun c d H' => W c d σ H')) := by
  obtain ⟨f, fd, F, M, hc, G⟩ := c.ex
  obtain ⟨kV, doc, pm, an, cdv, ct, rfl⟩ := FunD.none F
  refine ⟨fun pins s σ H Q I h => ?_⟩
  refine PySem.W.methodCall_KW (pl := pl) (thn (he.run pins s σ H _ I h) fun u s1 ⟨y, H1, I1, ry, a, dx, fs, ey, ea, l, q⟩ => ?_) ht
  subst ey
  obtain rfl : u = Value.ref a := ry
  refine getmeth_ok I1 ea hc M l ?_
  refine PySem.W.callWith_KW0 (first := [.ref a]) (h₀ := X.base) I.ok.mod.kin M.kp hall ?_ hpl
  refine thn (hkw.run pos pins s1 σ H1 _ I1 q) fun ws s2 ⟨zs, H2, I2, rz, l2, q2⟩ => ⟨I2.kIn, ?_⟩
  rw [hks]
  have r2 : Vals (g [V.ref a] zs) (g [Value.ref a] ws) := b.rel rfl l2 (.cons rfl .nil) rz
  refine wpAny_call (codeAny_mono (G.run X.A X.stack s2 H2 ⟨[.ref a], ks.zip ws⟩ (g [.ref a] ws) (g [.ref a] zs) Q _ (hr.mono hk) I2.env0 (.of_eq (b.bind kV doc pm an cdv ct [.ref a] ws rfl (rz.length.symm.trans l2))) r2 q2) fun r s' hq => ?_)
  match r, hq with
  | .error e, hq => exact ht' e s' (XE.of_call I2 (fun _ _ _ z => z) hq)
  | .ok (.ret u), hq => exact I2.after hq
  | .ok .next, hq => exact False.elim hq
  | .ok .brk, hq => exact False.elim hq
  | .ok .cont, hq => exact False.elim hq
theorem pe_cmDKS {pl : Sem Bool} {g : {α : Type} → List α → List α → List α → List α} (c : CmD X.prog X.w X.K X.mg X.base (L2.CX X.prog X.w) k C m qual st dvs ps sp) (b : Kdm m qual st dvs.length (n + 1) ks ps g) (hd : dvs ≠ []) (hr : Room j X.A) (hk : k ≤ j) (ht' : Takes X W) (he : PE X o ta) (ha : PA X (e :: es) t) (hkw : PK X kws tk)
    (hall : (backToKw pos (keywordEach kws X.env)).all (·.1.isSome) = true := by rfl) (hks : (backToKw pos (keywordEach kws X.env)).filterMap (·.1) = ks := by rfl)
    (hst : starEach (e :: es) X.env = (false, eval e X.env) :: starEach es X.env := by rfl)
    (hpl : ((backTo pos (starEach (e :: es) X.env)).any (·.1) || (backToKw pos (keywordEach kws X.env)).any (·.1.isNone)) = false := by rfl)
    (ht : eval (.Call (.Attribute o m apos) (e :: es) kws pos) X.env = (eval o X.env >>= fun ov => standAt apos.atName >>= fun _ => holding [ov] (getMethod ov m pl) >>= fun q => callWith pos q.1 q.2 (backTo pos (starEach (e :: es) X.env)) (backToKw pos (keywordEach kws X.env))) := by rfl) :
    PE X (.Call (.Attribute o m apos) (e :: es) kws pos) (fun σ H Q => ta σ H fun x H1 => ∃ a dx fs, x = .ref a ∧ H1 a = some (.ins C dx fs) ∧ fs.lookup m = none ∧ t σ H1 fun vs H2 => tk σ H2 fun zs H3 => vs.length = n ∧ zs.length = ks.length ∧ sp (g (.ref a :: vs) dvs zs) H3 Q (fun c d H' => W c d σ H')) := by
  obtain ⟨f, fd, F, M, hc, G⟩ := c.ex
  obtain ⟨its, hb⟩ := F.kbindsD (n + 1) ks g hd b.rel b.bind
  refine ⟨fun pins s σ H Q I h => ?_⟩
  refine PySem.W.methodCall_KW (pl := pl) (thn (he.run pins s σ H _ I h) fun u s1 ⟨y, H1, I1, ry, a, dx, fs, ey, ea, l, q⟩ => ?_) ht
  subst ey
  obtain rfl : u = Value.ref a := ry
  refine getmeth_ok I1 ea hc M l ?_
  refine PySem.W.callWith_KW (first := [.ref a]) (h₀ := X.base) I.ok.mod.kin M.kp hall (thn (ha.run pos pins s1 σ H1 _ I1 q) fun us s2 ⟨vs, H2, I2, rv, q2⟩ => ?_) hpl hst
  refine thn (hkw.run pos pins s2 σ H2 _ I2 q2) fun ws s3 ⟨zs, H3, I3, rz, l1, l2, q3⟩ => ⟨I3.kIn, ?_⟩
  rw [hks]
  have r2 := hb.rel (vs := V.ref a :: vs) (us := Value.ref a :: us) (.cons rfl rv) rz
  refine wpAny_call (codeAny_mono (G.run X.A X.stack s3 H3 ⟨[.ref a] ++ us, ks.zip ws⟩ _ _ Q _ (hr.mono hk) I3.env0 (hb.to s3 (Value.ref a :: us) ws I3.kIn (by rw [List.length_cons, ← rv.length, l1]) (rz.length.symm.trans l2)) r2 q3) fun r s' hq => ?_)
  match r, hq with
  | .error e, hq => exact ht' e s' (XE.of_call I3 (fun _ _ _ z => z) hq)
  | .ok (.ret u), hq => exact I3.after hq
  | .ok .next, hq => exact False.elim hq
  | .ok .brk, hq => exact False.elim hq
  | .ok .cont, hq => exact False.elim hq
theorem pe_cmDK0 {CX : CXT} {E : XK} {pl : Sem Bool} {g : {α : Type} → List α → List α → List α → List α} (c : CmD X.prog X.w X.K X.mg X.base CX k C m qual st dvs ps sp) (b : Kdm m qual st dvs.length 1 ks ps g) (hd : dvs ≠ []) (hr : Room j X.A) (hk : k ≤ j) (hx : Passes CX X E) (he : PE X o ta) (hkw : PK X kws tk)
    (hall : (backToKw pos (keywordEach kws X.env)).all (·.1.isSome) = true := by rfl) (hks : (backToKw pos (keywordEach kws X.env)).filterMap (·.1) = ks := by rfl)
    (hpl : ((backTo pos (starEach [] X.env)).any (·.1) || (backToKw pos (keywordEach kws X.env)).any (·.1.isNone)) = false := by rfl)
    (ht : eval (.Call (.Attribute o m apos) [] kws pos) X.env = (eval o X.env >>= fun ov => standAt apos.atName >>= fun _ => holding [ov] (getMethod ov m pl) >>= fun q => callWith pos q.1 q.2 (backTo pos (starEach [] X.env)) (backToKw pos (keywordEach kws X.env))) := by rfl) :
    PE X (.Call (.Attribute o m apos) [] kws pos) (fun σ H Q => ta σ H fun x H1 => ∃ a dx fs, x = .ref a ∧ H1 a = some (.ins C dx fs) ∧ fs.lookup m = none ∧ tk σ H1 fun zs H3 => zs.length = ks.length ∧ sp (g [.ref a] dvs zs) H3 Q E) := by
  obtain ⟨f, fd, F, M, hc, G⟩ := c.ex
  obtain ⟨its, hb⟩ := F.kbindsD 1 ks g hd b.rel b.bind
  refine ⟨fun pins s σ H Q I h => ?_⟩
  refine PySem.W.methodCall_KW (pl := pl) (thn (he.run pins s σ H _ I h) fun u s1 ⟨y, H1, I1, ry, a, dx, fs, ey, ea, l, q⟩ => ?_) ht
  subst ey
  obtain rfl : u = Value.ref a := ry
  refine getmeth_ok I1 ea hc M l ?_
  refine PySem.W.callWith_KW0 (first := [.ref a]) (h₀ := X.base) I.ok.mod.kin M.kp hall ?_ hpl
  refine thn (hkw.run pos pins s1 σ H1 _ I1 q) fun ws s3 ⟨zs, H3, I3, rz, l2, q3⟩ => ⟨I3.kIn, ?_⟩
  rw [hks]
  have r2 := hb.rel (vs := [V.ref a]) (us := [Value.ref a]) (.cons rfl .nil) rz
  refine wpAny_call (codeAny_mono (G.run X.A X.stack s3 H3 ⟨[.ref a], ks.zip ws⟩ _ _ Q E (hr.mono hk) I3.env0 (hb.to s3 [Value.ref a] ws I3.kIn rfl (rz.length.symm.trans l2)) r2 q3) fun r s' hq => ?_)
  match r, hq with
  | .error e, hq => exact hx pins σ H3 s3 e s' I3 hq
  | .ok (.ret u), hq => exact I3.after hq
  | .ok .next, hq => exact False.elim hq
  | .ok .brk, hq => exact False.elim hq
  | .ok .cont, hq => exact False.elim hq
end
end MM
namespace MM
open PySem PySem.Spec PySem.Calls PyProof.Rows L2
open AutoSeq1 (wpAny_loadPart')
open GQ (FinOf call_here)
theorem get_arr {xs : List V} {its : List Value} (r : Vals xs its) {i : Nat} (h1 : i < its.toArray.size) : ∃ x, xs[i]? = some x ∧ RelV x its.toArray[i] := by
  have hi : i < its.length := by simpa using h1
  have hx : i < xs.length := by rw [r.length]; exact hi
  obtain ⟨w, hw, rw'⟩ := r.get (List.getElem?_eq_getElem hx)
  refine ⟨_, List.getElem?_eq_getElem hx, ?_⟩
  have ew : its.toArray[i] = w := by
    rw [List.getElem?_eq_getElem hi] at hw
    simpa using Option.some.inj hw
  rw [ew]
  exact rw'
section
variable {prog : Program} {w : World} {A : Around}
/-! ### [..].count(x) of flat things -/
theorem count_loopG {R : Result → Shared → Prop} (l : Addr) (x : Value) (N : Nat) (B : Nat → Bool) (Iv : Nat → Shared → Prop)
    (hl : ∀ i s, Iv i s → ∃ (its : Array Value) (n : Nat), s.heap.get? l = some { cls := .type "list", data := .seq its n } ∧ its.size = N ∧ ∀ h : i < its.size, wpAny (model prog w) A.in1 (eqBool its[i] x) (fun r s' => r = B i ∧ Iv (i + 1) s') (fun e s' => R (.error e) s') s)
    (fin : ∀ s t k, Iv N s → R (.ok (.ret (.int (((List.range N).countP B : Nat) : Int) t))) { s with toks := k }) (k : Nat) :
    ∀ i : Nat, N - i = k → i ≤ N → ∀ s, Iv i s →
      wpAny (model prog w) A.in1 (Builtin.«list.count.loop» ⟨[.ref l, x, rawInt i, rawInt ((((List.range i).countP B : Nat)) : Int)], []⟩) (FinOf prog w A R) (fun e s' => R (.error e) s') s := by
  induction k with
  | zero =>
    intro i hk hi s h
    obtain ⟨its, n, h1, hs, _⟩ := hl _ _ h
    have ei : i = N := by omega
    subst ei
    have hR := fin s
    obtain ⟨hp, g, d, tk, os⟩ := s
    wp_walk using wpAny_loadPart' h1
    have e1 : its[((i : Nat) : Int).toNat]? = none := by simp; omega
    rw [e1]
    wp_walk
    exact hR _ _ h
  | succ k ih =>
    intro i hk hi s h
    obtain ⟨its, n, h1, hs, turn⟩ := hl _ _ h
    have hlt : i < its.size := by omega
    have ht := turn hlt
    obtain ⟨hp, g, d, tk, os⟩ := s
    wp_walk using wpAny_loadPart' h1
    have e1 : its[((i : Nat) : Int).toNat]? = some its[i] := by simp [hlt]
    have hc : ((i : Int) + 1) = ((i + 1 : Nat) : Int) := by omega
    rw [e1]
    refine wpAny_bind (wpAny_mono ht (fun r s2 h2 => ?_) fun _ _ z => z)
    obtain ⟨hr, h2⟩ := h2
    subst hr
    have hrec := ih (i + 1) (by omega) (by omega) s2 h2
    have ec : (if B i = true then (((List.range i).countP B : Nat) : Int) + 1 else (((List.range i).countP B : Nat) : Int)) = (((List.range (i + 1)).countP B : Nat) : Int) := by
      rw [List.range_succ, List.countP_append]
      rw [show List.countP B [i] = if B i = true then 1 else 0 by rw [List.countP_cons]; simp]
      split <;> omega
    obtain ⟨hp2, g2, d2, tk2, os2⟩ := s2
    wp_walk
    rw [hc, ec]
    exact ⟨plainId_quiet PySem.MeetsSeq.plain_count_loop _, codeAny_builtin PySem.MeetsSeq.entry_count_loop (by
      rw [Around.under_plainId PySem.MeetsSeq.plain_count_loop _]
      exact hrec)⟩
end
/-- the i-th thing of the list at p beside x, in whatever state came -/
theorem turn_lst {X : Cx} {n : Nat} {D : V → V → Hp → Bool → Prop} (h : EqB X n D) {A : Around} (sb : L2.Sub X n A) {pins : List (Addr × Obj)} {σ : L2.St} {H : Hp} {p : Addr} {xs : List V} {x : V} {v : Value} {B : Nat → Bool} (hp : H p = some (.lst xs)) (rx : RelV x v)
    (hD : ∀ i z, xs[i]? = some z → ∀ H', Ext H H' → D z x H' (B i)) : ∀ (i : Nat) (s' : Shared), LoopI X pins σ H s' → ∃ (its : Array Value) (k : Nat), s'.heap.get? p = some { cls := .type "list", data := .seq its k } ∧ its.size = xs.length ∧ ∀ h1 : i < its.size, wpAny (model X.prog X.w) A (eqBool its[i] v) (fun r s2 => r = B i ∧ LoopI X pins σ H s2) X.xe s' := by
  rintro i s' ⟨H', I', e⟩
  obtain ⟨z, its, k, r, ek⟩ := I'.hok p _ (e _ _ hp)
  refine ⟨its.toArray, k, ek, by rw [List.size_toArray, ← r.length], fun h1 => ?_⟩
  obtain ⟨y, hy, ry⟩ := get_arr r h1
  refine wpAny_mono (h A pins s' σ H' _ x _ v (B i) sb I' ry rx (hD i _ hy H' e)) (fun c s2 z2 => ?_) fun _ _ y => y
  obtain ⟨hc, H2, I2, e2⟩ := z2
  exact ⟨hc, H2, I2, e.trans e2⟩
/-- [..].count(x) -/
def rCountG (D : V → V → Hp → Bool → Prop) : V → List V → Hp → VK → Prop := fun y vs H Q => ∃ (p : Addr) (xs : List V) (x : V) (B : Nat → Bool), y = .ref p ∧ vs = [x] ∧ H p = some (.lst xs) ∧ (∀ i z, xs[i]? = some z → ∀ H', Ext H H' → D z x H' (B i)) ∧ ∀ H', Ext H H' → Q (.int (((List.range xs.length).countP B : Nat) : Int)) H'
theorem mt_countG {X : Cx} {n : Nat} {D : V → V → Hp → Bool → Prop} (h : EqB X n D) (hr : Room (n + 1) X.A) : MtR X "list.count" (rCountG D) := by
  intro pins s σ H y vs v us Q I ry rs hq
  obtain ⟨p, xs, x, B, rfl, rfl, hp, hD, q⟩ := hq
  cases (show v = Value.ref p from ry)
  obtain ⟨u, rfl, rx⟩ := vals1 rs
  have sb : L2.Sub X (n + 1) X.A := ⟨hr, rfl⟩
  obtain ⟨z, its, k, r, ek⟩ := I.hok p _ hp
  refine call_here PySem.F.slot_list_count ⟨_, ek, rfl⟩ PySem.F.entry_list_count (PySem.F.args_list_count_2 _ _) ?_
  have go := count_loopG (prog := X.prog) (w := X.w) (A := X.A) (R := wants (EP X pins σ Q) X.xe) p u xs.length B (fun _ s' => LoopI X pins σ H s') (fun i s' hl => turn_lst h sb.in1 hp rx hD i s' hl) (fun s' t k ⟨H', I', e⟩ => ⟨.int _, H', I'.tok _, ⟨t, rfl⟩, q H' e⟩) xs.length 0 rfl (Nat.zero_le _) s ⟨H, I, Ext.rfl'⟩
  obtain ⟨hp2, g, d, tk, os⟩ := s
  wp_walk
  exact ⟨plainId_quiet PySem.MeetsSeq.plain_count_loop _, codeAny_builtin PySem.MeetsSeq.entry_count_loop (by
    rw [Around.under_plainId PySem.MeetsSeq.plain_count_loop _]
    exact go)⟩
/-! ### == of flat things inside a builtin -/
theorem eqB_flat {X : Cx} : EqB X 0 (fun x y _ b => flatV x = true ∧ flatV y = true ∧ eqV x y = b) := by
  intro A pins s σ H x y u v b sb I rx ry d
  obtain ⟨fx, fy, e⟩ := d
  have q := eqAt_V (A := A) (s := s) rx ry fx fy
  rw [e] at q
  exact q X.prog X.w X.xe _ ⟨rfl, H, I, Ext.rfl'⟩
end MM
namespace MM
open PySem PySem.Spec PyProof.Rows L2
/-! ### a small head: what the end asks of the written part, looked at by one hook -/
abbrev AlB : Type := Bool × (Bool × List He.FnW)
def obsB (chk : PySem.W.Frag → List Bool) (fn : List He.DefD) (K : PySem.W.Frag) : AlB := ((chk K).all (fun b => b), (fn.all fun d => d.ok K, fn.map fun d => He.fnW K d.at_))
def valB (fn : List He.DefD) : AlB := (true, (true, fn.map He.DefD.val))
def SaysB (chk : PySem.W.Frag → List Bool) (fn : List He.DefD) (K : PySem.W.Frag) : Prop := obsB chk fn K = valB fn
/-- the first n objects -/
def frB (n : Nat) (g : Addr → Option Obj) : PySem.W.Frag := He.frG g (List.range n)
def hookB (n : Nat) (chk : PySem.W.Frag → List Bool) (fn : List He.DefD) : PySem.W.Hook where
  α := AlB
  obs := fun s => obsB chk fn (frB n s.heap.get?)
  val := fun _ => valB fn
  says := fun _ h => ∃ K : PySem.W.Frag, K.In h ∧ SaysB chk fn K
  of := fun _ _ e => ⟨_, He.frG_in, e⟩
  keeps := fun _ _ _ ⟨K, hi, cc⟩ kk => ⟨K, PySem.W.Frag.In.keeps hi kk, cc⟩
theorem obsB_eq {n : Nat} {chk : PySem.W.Frag → List Bool} {fn : List He.DefD} {g : Addr → Option Obj} {s : Shared} (h : ∀ a, g a = s.heap.get? a) : obsB chk fn (frB n g) = (hookB n chk fn).obs s := by
  have eg : g = s.heap.get? := funext h
  rw [eg] <;> rfl
/-- the run looked at in five goes -/
theorem run_join {α β γ δ : Type} {x : Option α} {f : α → β} {g : α → γ} {h h1 h2 : α → Bool} {i i1 i2 : α → Bool × List δ} {a : β} {b : γ} {l1 l2 : List δ} (e1 : x.map (fun s => (f s, g s)) = some (a, b)) (e2 : x.map h1 = some true) (e3 : x.map h2 = some true) (e4 : x.map i1 = some (true, l1)) (e5 : x.map i2 = some (true, l2))
    (hh : ∀ s, h s = (h1 s && h2 s)) (hi : ∀ s, i s = ((i1 s).1 && (i2 s).1, (i1 s).2 ++ (i2 s).2)) : x.map (fun s => (f s, g s, (h s, i s))) = some (a, b, (true, (true, l1 ++ l2))) := by
  cases x with
  | none => cases e1
  | some s =>
    have e1 := Option.some.inj e1
    have e2 : h1 s = true := Option.some.inj e2
    have e3 : h2 s = true := Option.some.inj e3
    have e4 : i1 s = (true, l1) := Option.some.inj e4
    have e5 : i2 s = (true, l2) := Option.some.inj e5
    injection e1 with e6 e7
    show some (f s, g s, (h s, i s)) = _
    rw [hh, hi, e2, e3, e4, e5, e6, e7]
    rfl
section
variable {chk : PySem.W.Frag → List Bool} {fn : List He.DefD} {K : PySem.W.Frag}
theorem SaysB.fact (c : SaysB chk fn K) (i : Nat) {b : Bool} (h : (chk K)[i]? = some b) : b = true := by
  have c1 : (chk K).all (fun b => b) = true := congrArg (fun z : AlB => z.1) c
  exact List.all_eq_true.mp c1 b (List.mem_of_getElem? h)
theorem SaysB.dec (c : SaysB chk fn K) (i : Nat) {p : Prop} [Decidable p] (h : (chk K)[i]? = some (decide p)) : p := of_decide_eq_true (c.fact i h)
theorem SaysB.def_ (c : SaysB chk fn K) (i : Nat) {d : He.DefD} (h : fn[i]? = some d) : ∃ fd, FunD K d.name d.qual d.params d.body d.scope (d.dvs K) (d.kws K) (He.fAd K d.at_) fd := by
  have c2 : (fn.all fun d => d.ok K) = true := congrArg (fun z : AlB => z.2.1) c
  have e : fn.map (fun d => He.fnW K d.at_) = fn.map He.DefD.val := congrArg (fun z : AlB => z.2.2) c
  have e3 : (fn.map fun d => He.fnW K d.at_)[i]? = (fn.map He.DefD.val)[i]? := by rw [e]
  rw [List.getElem?_map, h, List.getElem?_map, h] at e3
  exact He.DefD.funD (Option.some.inj e3) (List.all_eq_true.mp c2 d (List.mem_of_getElem? h))
end
def slB (newId : String) : List (Option Value) → Bool
  | [_, _, _, _, some (.builtin n), _] => decide (n = newId)
  | _ => false
theorem slB_ok {newId : String} {l : List (Option Value)} (h : slB newId l = true) : ∃ k0 k1 k2 k3 k5, l = [k0, k1, k2, k3, some (.builtin newId), k5] := by
  unfold slB at h
  split at h
  · rw [of_decide_eq_true h]
    exact ⟨_, _, _, _, _, rfl⟩
  · cases h
/-- a class right over bm, its maker newId -/
def clsB (K : PySem.W.Frag) (C : Addr) (bm : List Value) (hd : Bool) (newId : String) : Bool := match K.lookup C with
  | some ⟨.type t, _, .cls cd, sl⟩ => decide (t = "type") && (decide (cd.mro = .ref C :: bm) && (decide (cd.hasDict = hd) && (!cd.hasDel && slB newId sl.toList)))
  | _ => false
theorem clsB_ok {K : PySem.W.Frag} {C : Addr} {bm : List Value} {hd : Bool} {newId : String} (h : clsB K C bm hd newId = true) : ∃ nm q N bs sn sub ab col dd k0 k1 k2 k3 k5, K.lookup C = some (excClassObj nm q C N bs bm hd sn sub ab col dd k0 k1 k2 k3 k5 newId) := by
  unfold clsB at h
  cases q : K.lookup C with
  | none =>
    rw [q] at h
    cases h
  | some o =>
    obtain ⟨oc, od, dt, osl⟩ := o
    rw [q] at h
    cases oc with
    | type t =>
      cases dt with
      | cls cd =>
        obtain ⟨h1, h'⟩ := He.ba (show (decide (t = "type") && (decide (cd.mro = .ref C :: bm) && (decide (cd.hasDict = hd) && (!cd.hasDel && slB newId osl.toList)))) = true from h)
        obtain ⟨h2, h'⟩ := He.ba h'
        obtain ⟨h3, h'⟩ := He.ba h'
        obtain ⟨h4, h5⟩ := He.ba h'
        clear h q h'
        have h1 := of_decide_eq_true h1
        have h2 := of_decide_eq_true h2
        have h3 := of_decide_eq_true h3
        obtain ⟨k0, k1, k2, k3, k5, h6⟩ := slB_ok h5
        have h7 : osl = #[k0, k1, k2, k3, some (.builtin newId), k5] := Array.toList_inj.mp h6
        have h4 : cd.hasDel = false := by simpa using h4
        obtain ⟨a1, a2, a3, a4, a5, a6, a7, a8, a9, a10, a11⟩ := cd
        have h2 : a3 = .ref C :: bm := h2
        have h3 : a6 = hd := h3
        have h4 : a11 = false := h4
        rw [h1, h2, h3, h4, h7]
        exact ⟨_, _, _, _, _, _, _, _, _, _, _, _, _, _, rfl⟩
      | _ => cases h
    | _ => cases dt <;> cases h
def valC (r : Option PySem.W.CFound) (v : Value) : Bool := match r with
  | some (.val u) => decide (u = v)
  | _ => false
theorem valC_ok {r : Option PySem.W.CFound} {v : Value} (h : valC r v = true) : r = some (.val v) := by
  unfold valC at h
  split at h
  · rw [of_decide_eq_true h]
  · cases h
section
variable {K : PySem.W.Frag} {h : Heap} {mg : Str → Option Value} {C f : Addr} {x m qual : Str} {st : Stmt} {dvs : List V}
theorem dfB (X : K.In h) (G : h.Ns mainGlobals mg) (e : ∃ fd, FunD K x x (defArgs st) (defBody st) (defScope st) dvs [] f fd) (a : PySem.W.nsIn K mainGlobals x = some (some (.ref f))) : Df K mg x st dvs :=
  let ⟨fd, F⟩ := e
  ⟨f, fd, F, PySem.W.mg_of X G a⟩
theorem dmB (cl : Cls K C) (e : ∃ fd, FunD K m qual (defArgs st) (defBody st) (defScope st) [] [] f fd) (a : PySem.W.findIn K (.ref C) m = some (some (.ref f))) (i : PySem.W.isFn K (.ref f) = true) : Dm K C m qual st :=
  let ⟨fd, F⟩ := e
  ⟨f, fd, F, ⟨a, i, F.kp⟩, cl⟩
theorem diB (hC : mg x = some (.ref C)) (e : ∃ fd, FunD K "__init__" qual (defArgs st) (defBody st) (defScope st) dvs [] f fd) (a : PySem.W.findIn K (.ref C) "__init__" = some (some (.ref f))) (i : PySem.W.isFn K (.ref f) = true)
    (mk : PySem.W.makesIn K C = true) (kc : PySem.W.keepIn K (.ref C) = true) : Di K mg x C qual st dvs :=
  let ⟨fd, F⟩ := e
  ⟨f, fd, F, ⟨mk, a, i, kc⟩, hC⟩
end
end MM
namespace MM
open PySem PySem.Spec PyProof.Rows L2
/-- the text by places -/
def top (i : Nat) : Stmt := PySem.Challenge.pw_meanmoon_k67_books_of_feasts.main.body.getD i (.Pass ⟨0, 0, 0, 0⟩)
abbrev s_NoShare_init : Stmt := inClass (top 1) 0
theorem c_NoShare_init : FnScope ["self", "top"] ["self", "top"] (defScope s_NoShare_init) := ⟨rfl, rfl, rfl, by decide +kernel, rfl, by decide +kernel, by decide +kernel⟩
theorem b_NoShare_init : Bd "__init__" "NoShare.__init__" s_NoShare_init ["self", "top"] := fun _ _ _ _ _ _ us hl => match us, hl with | [_, _], _ => rfl
abbrev s_NoCalendar_init : Stmt := inClass (top 2) 0
theorem c_NoCalendar_init : FnScope ["self", "why"] ["self", "why"] (defScope s_NoCalendar_init) := ⟨rfl, rfl, rfl, by decide +kernel, rfl, by decide +kernel, by decide +kernel⟩
theorem b_NoCalendar_init : Bd "__init__" "NoCalendar.__init__" s_NoCalendar_init ["self", "why"] := fun _ _ _ _ _ _ us hl => match us, hl with | [_, _], _ => rfl
abbrev s_NoDate_init : Stmt := inClass (top 3) 0
theorem c_NoDate_init : FnScope ["self", "date", "why"] ["self", "date", "why"] (defScope s_NoDate_init) := ⟨rfl, rfl, rfl, by decide +kernel, rfl, by decide +kernel, by decide +kernel⟩
theorem b_NoDate_init : Bd "__init__" "NoDate.__init__" s_NoDate_init ["self", "date", "why"] := fun _ _ _ _ _ _ us hl => match us, hl with | [_, _, _], _ => rfl
abbrev s_NoWheel_init : Stmt := inClass (top 4) 0
theorem c_NoWheel_init : FnScope ["self", "names"] ["self", "names"] (defScope s_NoWheel_init) := ⟨rfl, rfl, rfl, by decide +kernel, rfl, by decide +kernel, by decide +kernel⟩
theorem b_NoWheel_init : Bd "__init__" "NoWheel.__init__" s_NoWheel_init ["self", "names"] := fun _ _ _ _ _ _ us hl => match us, hl with | [_, _], _ => rfl
abbrev s_NoName_init : Stmt := inClass (top 5) 0
theorem c_NoName_init : FnScope ["self", "name"] ["self", "name"] (defScope s_NoName_init) := ⟨rfl, rfl, rfl, by decide +kernel, rfl, by decide +kernel, by decide +kernel⟩
theorem b_NoName_init : Bd "__init__" "NoName.__init__" s_NoName_init ["self", "name"] := fun _ _ _ _ _ _ us hl => match us, hl with | [_, _], _ => rfl
abbrev s_NoDay_init : Stmt := inClass (top 6) 0
theorem c_NoDay_init : FnScope ["self", "one", "two"] ["self", "one", "two"] (defScope s_NoDay_init) := ⟨rfl, rfl, rfl, by decide +kernel, rfl, by decide +kernel, by decide +kernel⟩
theorem b_NoDay_init : Bd "__init__" "NoDay.__init__" s_NoDay_init ["self", "one", "two"] := fun _ _ _ _ _ _ us hl => match us, hl with | [_, _, _], _ => rfl
abbrev s_Taken_init : Stmt := inClass (top 7) 0
theorem c_Taken_init : FnScope ["self", "name"] ["self", "name"] (defScope s_Taken_init) := ⟨rfl, rfl, rfl, by decide +kernel, rfl, by decide +kernel, by decide +kernel⟩
theorem b_Taken_init : Bd "__init__" "Taken.__init__" s_Taken_init ["self", "name"] := fun _ _ _ _ _ _ us hl => match us, hl with | [_, _], _ => rfl
abbrev s_NoText_init : Stmt := inClass (top 8) 0
theorem c_NoText_init : FnScope ["self", "at"] ["self", "at"] (defScope s_NoText_init) := ⟨rfl, rfl, rfl, by decide +kernel, rfl, by decide +kernel, by decide +kernel⟩
theorem b_NoText_init : Bd "__init__" "NoText.__init__" s_NoText_init ["self", "at"] := fun _ _ _ _ _ _ us hl => match us, hl with | [_, _], _ => rfl
abbrev s_NoNote_init : Stmt := inClass (top 9) 0
theorem c_NoNote_init : FnScope ["self", "at"] ["self", "at"] (defScope s_NoNote_init) := ⟨rfl, rfl, rfl, by decide +kernel, rfl, by decide +kernel, by decide +kernel⟩
theorem b_NoNote_init : Bd "__init__" "NoNote.__init__" s_NoNote_init ["self", "at"] := fun _ _ _ _ _ _ us hl => match us, hl with | [_, _], _ => rfl
abbrev s_NoDeed_init : Stmt := inClass (top 10) 0
theorem c_NoDeed_init : FnScope ["self"] ["self"] (defScope s_NoDeed_init) := ⟨rfl, rfl, rfl, by decide +kernel, rfl, by decide +kernel, by decide +kernel⟩
theorem b_NoDeed_init : Bd "__init__" "NoDeed.__init__" s_NoDeed_init ["self"] := fun _ _ _ _ _ _ us hl => match us, hl with | [_], _ => rfl
abbrev s_numeral : Stmt := top 13
theorem c_numeral : FnScope ["number", "base", "rest", "signs"] ["number", "base"] (defScope s_numeral) := ⟨rfl, rfl, rfl, by decide +kernel, rfl, by decide +kernel, by decide +kernel⟩
abbrev s_Share_init : Stmt := inClass (top 15) 0
theorem c_Share_init : FnScope ["self", "top", "bottom", "common"] ["self", "top", "bottom"] (defScope s_Share_init) := ⟨rfl, rfl, rfl, by decide +kernel, rfl, by decide +kernel, by decide +kernel⟩
abbrev s_Share_eq : Stmt := inClass (top 15) 1
theorem c_Share_eq : FnScope ["self", "other"] ["self", "other"] (defScope s_Share_eq) := ⟨rfl, rfl, rfl, by decide +kernel, rfl, by decide +kernel, by decide +kernel⟩
theorem b_Share_eq : Bd "__eq__" "Share.__eq__" s_Share_eq ["self", "other"] := fun _ _ _ _ _ _ us hl => match us, hl with | [_, _], _ => rfl
abbrev s_Share_str : Stmt := inClass (top 15) 2
theorem c_Share_str : FnScope ["self"] ["self"] (defScope s_Share_str) := ⟨rfl, rfl, rfl, by decide +kernel, rfl, by decide +kernel, by decide +kernel⟩
theorem b_Share_str : Bd "__str__" "Share.__str__" s_Share_str ["self"] := fun _ _ _ _ _ _ us hl => match us, hl with | [_], _ => rfl
abbrev s_Share_repr : Stmt := inClass (top 15) 3
theorem c_Share_repr : FnScope ["self"] ["self"] (defScope s_Share_repr) := ⟨rfl, rfl, rfl, by decide +kernel, rfl, by decide +kernel, by decide +kernel⟩
theorem b_Share_repr : Bd "__repr__" "Share.__repr__" s_Share_repr ["self"] := fun _ _ _ _ _ _ us hl => match us, hl with | [_], _ => rfl
abbrev s_common_divisor : Stmt := top 16
theorem c_common_divisor : FnScope ["one", "two"] ["one", "two"] (defScope s_common_divisor) := ⟨rfl, rfl, rfl, by decide +kernel, rfl, by decide +kernel, by decide +kernel⟩
theorem b_common_divisor : Bd "common_divisor" "common_divisor" s_common_divisor ["one", "two"] := fun _ _ _ _ _ _ us hl => match us, hl with | [_, _], _ => rfl
abbrev s_as_share : Stmt := top 17
theorem c_as_share : FnScope ["number"] ["number"] (defScope s_as_share) := ⟨rfl, rfl, rfl, by decide +kernel, rfl, by decide +kernel, by decide +kernel⟩
theorem b_as_share : Bd "as_share" "as_share" s_as_share ["number"] := fun _ _ _ _ _ _ us hl => match us, hl with | [_], _ => rfl
abbrev s_plus : Stmt := top 18
theorem c_plus : FnScope ["one", "two", "first", "second"] ["one", "two"] (defScope s_plus) := ⟨rfl, rfl, rfl, by decide +kernel, rfl, by decide +kernel, by decide +kernel⟩
theorem b_plus : Bd "plus" "plus" s_plus ["one", "two"] := fun _ _ _ _ _ _ us hl => match us, hl with | [_, _], _ => rfl
abbrev s_minus : Stmt := top 19
theorem c_minus : FnScope ["one", "two", "first", "second"] ["one", "two"] (defScope s_minus) := ⟨rfl, rfl, rfl, by decide +kernel, rfl, by decide +kernel, by decide +kernel⟩
theorem b_minus : Bd "minus" "minus" s_minus ["one", "two"] := fun _ _ _ _ _ _ us hl => match us, hl with | [_, _], _ => rfl
abbrev s_times : Stmt := top 20
theorem c_times : FnScope ["one", "two", "first", "second"] ["one", "two"] (defScope s_times) := ⟨rfl, rfl, rfl, by decide +kernel, rfl, by decide +kernel, by decide +kernel⟩
theorem b_times : Bd "times" "times" s_times ["one", "two"] := fun _ _ _ _ _ _ us hl => match us, hl with | [_, _], _ => rfl
abbrev s_over : Stmt := top 21
theorem c_over : FnScope ["one", "two", "first", "second"] ["one", "two"] (defScope s_over) := ⟨rfl, rfl, rfl, by decide +kernel, rfl, by decide +kernel, by decide +kernel⟩
theorem b_over : Bd "over" "over" s_over ["one", "two"] := fun _ _ _ _ _ _ us hl => match us, hl with | [_, _], _ => rfl
abbrev s_before : Stmt := top 22
theorem c_before : FnScope ["one", "two", "first", "second"] ["one", "two"] (defScope s_before) := ⟨rfl, rfl, rfl, by decide +kernel, rfl, by decide +kernel, by decide +kernel⟩
theorem b_before : Bd "before" "before" s_before ["one", "two"] := fun _ _ _ _ _ _ us hl => match us, hl with | [_, _], _ => rfl
abbrev s_whole : Stmt := top 23
theorem c_whole : FnScope ["share", "number"] ["share"] (defScope s_whole) := ⟨rfl, rfl, rfl, by decide +kernel, rfl, by decide +kernel, by decide +kernel⟩
theorem b_whole : Bd "whole" "whole" s_whole ["share"] := fun _ _ _ _ _ _ us hl => match us, hl with | [_], _ => rfl
abbrev s_rounded_up : Stmt := top 24
theorem c_rounded_up : FnScope ["share", "number"] ["share"] (defScope s_rounded_up) := ⟨rfl, rfl, rfl, by decide +kernel, rfl, by decide +kernel, by decide +kernel⟩
theorem b_rounded_up : Bd "rounded_up" "rounded_up" s_rounded_up ["share"] := fun _ _ _ _ _ _ us hl => match us, hl with | [_], _ => rfl
abbrev s_Calendar_init : Stmt := inClass (top 27) 0
theorem c_Calendar_init : FnScope ["self", "month", "year", "moon", "mark"] ["self", "month", "year", "moon", "mark"] (defScope s_Calendar_init) := ⟨rfl, rfl, rfl, by decide +kernel, rfl, by decide +kernel, by decide +kernel⟩
abbrev s_Calendar_start : Stmt := inClass (top 27) 1
theorem c_Calendar_start : FnScope ["self", "k"] ["self", "k"] (defScope s_Calendar_start) := ⟨rfl, rfl, rfl, by decide +kernel, rfl, by decide +kernel, by decide +kernel⟩
theorem b_Calendar_start : Bd "start" "Calendar.start" s_Calendar_start ["self", "k"] := fun _ _ _ _ _ _ us hl => match us, hl with | [_, _], _ => rfl
abbrev s_Calendar_month_at : Stmt := inClass (top 27) 2
theorem c_Calendar_month_at : FnScope ["self", "day"] ["self", "day"] (defScope s_Calendar_month_at) := ⟨rfl, rfl, rfl, by decide +kernel, rfl, by decide +kernel, by decide +kernel⟩
theorem b_Calendar_month_at : Bd "month_at" "Calendar.month_at" s_Calendar_month_at ["self", "day"] := fun _ _ _ _ _ _ us hl => match us, hl with | [_, _], _ => rfl
abbrev s_Calendar_mark_day : Stmt := inClass (top 27) 3
theorem c_Calendar_mark_day : FnScope ["self", "j"] ["self", "j"] (defScope s_Calendar_mark_day) := ⟨rfl, rfl, rfl, by decide +kernel, rfl, by decide +kernel, by decide +kernel⟩
theorem b_Calendar_mark_day : Bd "mark_day" "Calendar.mark_day" s_Calendar_mark_day ["self", "j"] := fun _ _ _ _ _ _ us hl => match us, hl with | [_, _], _ => rfl
abbrev s_Calendar_month_with : Stmt := inClass (top 27) 4
theorem c_Calendar_month_with : FnScope ["self", "j"] ["self", "j"] (defScope s_Calendar_month_with) := ⟨rfl, rfl, rfl, by decide +kernel, rfl, by decide +kernel, by decide +kernel⟩
theorem b_Calendar_month_with : Bd "month_with" "Calendar.month_with" s_Calendar_month_with ["self", "j"] := fun _ _ _ _ _ _ us hl => match us, hl with | [_, _], _ => rfl
abbrev s_Calendar_mark_in : Stmt := inClass (top 27) 5
theorem c_Calendar_mark_in : FnScope ["self", "k", "j"] ["self", "k"] (defScope s_Calendar_mark_in) := ⟨rfl, rfl, rfl, by decide +kernel, rfl, by decide +kernel, by decide +kernel⟩
theorem b_Calendar_mark_in : Bd "mark_in" "Calendar.mark_in" s_Calendar_mark_in ["self", "k"] := fun _ _ _ _ _ _ us hl => match us, hl with | [_, _], _ => rfl
abbrev s_Calendar_name_of : Stmt := inClass (top 27) 6
theorem c_Calendar_name_of : FnScope ["self", "k", "j", "odd"] ["self", "k"] (defScope s_Calendar_name_of) := ⟨rfl, rfl, rfl, by decide +kernel, rfl, by decide +kernel, by decide +kernel⟩
theorem b_Calendar_name_of : Bd "name_of" "Calendar.name_of" s_Calendar_name_of ["self", "k"] := fun _ _ _ _ _ _ us hl => match us, hl with | [_, _], _ => rfl
abbrev s_Calendar_eq : Stmt := inClass (top 27) 7
theorem c_Calendar_eq : FnScope ["self", "other"] ["self", "other"] (defScope s_Calendar_eq) := ⟨rfl, rfl, rfl, by decide +kernel, rfl, by decide +kernel, by decide +kernel⟩
theorem b_Calendar_eq : Bd "__eq__" "Calendar.__eq__" s_Calendar_eq ["self", "other"] := fun _ _ _ _ _ _ us hl => match us, hl with | [_, _], _ => rfl
abbrev s_Calendar_str : Stmt := inClass (top 27) 8
theorem c_Calendar_str : FnScope ["self"] ["self"] (defScope s_Calendar_str) := ⟨rfl, rfl, rfl, by decide +kernel, rfl, by decide +kernel, by decide +kernel⟩
theorem b_Calendar_str : Bd "__str__" "Calendar.__str__" s_Calendar_str ["self"] := fun _ _ _ _ _ _ us hl => match us, hl with | [_], _ => rfl
abbrev s_Calendar_repr : Stmt := inClass (top 27) 9
theorem c_Calendar_repr : FnScope ["self"] ["self"] (defScope s_Calendar_repr) := ⟨rfl, rfl, rfl, by decide +kernel, rfl, by decide +kernel, by decide +kernel⟩
theorem b_Calendar_repr : Bd "__repr__" "Calendar.__repr__" s_Calendar_repr ["self"] := fun _ _ _ _ _ _ us hl => match us, hl with | [_], _ => rfl
abbrev s_refuse_unfit : Stmt := top 28
theorem c_refuse_unfit : FnScope ["month", "year"] ["month", "year"] (defScope s_refuse_unfit) := ⟨rfl, rfl, rfl, by decide +kernel, rfl, by decide +kernel, by decide +kernel⟩
theorem b_refuse_unfit : Bd "refuse_unfit" "refuse_unfit" s_refuse_unfit ["month", "year"] := fun _ _ _ _ _ _ us hl => match us, hl with | [_, _], _ => rfl
abbrev s_moment_or_nought : Stmt := top 29
theorem c_moment_or_nought : FnScope ["moment"] ["moment"] (defScope s_moment_or_nought) := ⟨rfl, rfl, rfl, by decide +kernel, rfl, by decide +kernel, by decide +kernel⟩
theorem b_moment_or_nought : Bd "moment_or_nought" "moment_or_nought" s_moment_or_nought ["moment"] := fun _ _ _ _ _ _ us hl => match us, hl with | [_], _ => rfl
abbrev s_twelfth : Stmt := top 30
theorem c_twelfth : FnScope ["year"] ["year"] (defScope s_twelfth) := ⟨rfl, rfl, rfl, by decide +kernel, rfl, by decide +kernel, by decide +kernel⟩
theorem b_twelfth : Bd "twelfth" "twelfth" s_twelfth ["year"] := fun _ _ _ _ _ _ us hl => match us, hl with | [_], _ => rfl
abbrev s_nth_day : Stmt := top 31
theorem c_nth_day : FnScope ["first", "step", "n"] ["first", "step", "n"] (defScope s_nth_day) := ⟨rfl, rfl, rfl, by decide +kernel, rfl, by decide +kernel, by decide +kernel⟩
theorem b_nth_day : Bd "nth_day" "nth_day" s_nth_day ["first", "step", "n"] := fun _ _ _ _ _ _ us hl => match us, hl with | [_, _, _], _ => rfl
abbrev s_first_from : Stmt := top 32
theorem c_first_from : FnScope ["first", "step", "day"] ["first", "step", "day"] (defScope s_first_from) := ⟨rfl, rfl, rfl, by decide +kernel, rfl, by decide +kernel, by decide +kernel⟩
theorem b_first_from : Bd "first_from" "first_from" s_first_from ["first", "step", "day"] := fun _ _ _ _ _ _ us hl => match us, hl with | [_, _, _], _ => rfl
abbrev s_kept_form : Stmt := top 33
theorem c_kept_form : FnScope ["calendar", "month", "moon", "first_moon", "mark"] ["calendar"] (defScope s_kept_form) := ⟨rfl, rfl, rfl, by decide +kernel, rfl, by decide +kernel, by decide +kernel⟩
theorem b_kept_form : Bd "kept_form" "kept_form" s_kept_form ["calendar"] := fun _ _ _ _ _ _ us hl => match us, hl with | [_], _ => rfl
abbrev s_least_alike : Stmt := top 34
theorem c_least_alike : FnScope ["first", "step"] ["first", "step"] (defScope s_least_alike) := ⟨rfl, rfl, rfl, by decide +kernel, rfl, by decide +kernel, by decide +kernel⟩
theorem b_least_alike : Bd "least_alike" "least_alike" s_least_alike ["first", "step"] := fun _ _ _ _ _ _ us hl => match us, hl with | [_, _], _ => rfl
abbrev s_days_of : Stmt := top 36
theorem c_days_of : FnScope ["calendar", "k", "many"] ["calendar", "k", "many"] (defScope s_days_of) := ⟨rfl, rfl, rfl, by decide +kernel, rfl, by decide +kernel, by decide +kernel⟩
theorem b_days_of : Bd "days_of" "days_of" s_days_of ["calendar", "k", "many"] := fun _ _ _ _ _ _ us hl => match us, hl with | [_, _, _], _ => rfl
abbrev s_plain_month : Stmt := top 38
theorem c_plain_month : FnScope ["calendar", "year", "number"] ["calendar", "year", "number"] (defScope s_plain_month) := ⟨rfl, rfl, rfl, by decide +kernel, rfl, by decide +kernel, by decide +kernel⟩
theorem b_plain_month : Bd "plain_month" "plain_month" s_plain_month ["calendar", "year", "number"] := fun _ _ _ _ _ _ us hl => match us, hl with | [_, _, _], _ => rfl
abbrev s_odd_month : Stmt := top 39
theorem c_odd_month : FnScope ["calendar", "year", "number", "k"] ["calendar", "year", "number"] (defScope s_odd_month) := ⟨rfl, rfl, rfl, by decide +kernel, rfl, by decide +kernel, by decide +kernel⟩
theorem b_odd_month : Bd "odd_month" "odd_month" s_odd_month ["calendar", "year", "number"] := fun _ _ _ _ _ _ us hl => match us, hl with | [_, _, _], _ => rfl
abbrev s_day_in : Stmt := top 40
theorem c_day_in : FnScope ["calendar", "k", "count"] ["calendar", "k", "count"] (defScope s_day_in) := ⟨rfl, rfl, rfl, by decide +kernel, rfl, by decide +kernel, by decide +kernel⟩
theorem b_day_in : Bd "day_in" "day_in" s_day_in ["calendar", "k", "count"] := fun _ _ _ _ _ _ us hl => match us, hl with | [_, _, _], _ => rfl
abbrev s_month_in_year : Stmt := top 41
theorem c_month_in_year : FnScope ["calendar", "year", "number", "odd", "k"] ["calendar", "year", "number", "odd"] (defScope s_month_in_year) := ⟨rfl, rfl, rfl, by decide +kernel, rfl, by decide +kernel, by decide +kernel⟩
theorem b_month_in_year : Bd "month_in_year" "month_in_year" s_month_in_year ["calendar", "year", "number", "odd"] := fun _ _ _ _ _ _ us hl => match us, hl with | [_, _, _, _], _ => rfl
abbrev s_held_in : Stmt := top 42
theorem c_held_in : FnScope ["calendar", "k", "count"] ["calendar", "k", "count"] (defScope s_held_in) := ⟨rfl, rfl, rfl, by decide +kernel, rfl, by decide +kernel, by decide +kernel⟩
theorem b_held_in : Bd "held_in" "held_in" s_held_in ["calendar", "k", "count"] := fun _ _ _ _ _ _ us hl => match us, hl with | [_, _, _], _ => rfl
abbrev s_year_with : Stmt := top 44
theorem c_year_with : FnScope ["calendar", "day"] ["calendar", "day"] (defScope s_year_with) := ⟨rfl, rfl, rfl, by decide +kernel, rfl, by decide +kernel, by decide +kernel⟩
theorem b_year_with : Bd "year_with" "year_with" s_year_with ["calendar", "day"] := fun _ _ _ _ _ _ us hl => match us, hl with | [_, _], _ => rfl
abbrev s_Feast_init : Stmt := inClass (top 46) 0
theorem c_Feast_init : FnScope ["self", "name", "number", "day", "when"] ["self", "name", "number", "day", "when"] (defScope s_Feast_init) := ⟨rfl, rfl, rfl, by decide +kernel, rfl, by decide +kernel, by decide +kernel⟩
abbrev s_feast_months : Stmt := top 47
theorem c_feast_months : FnScope ["calendar", "feast", "year", "months", "k"] ["calendar", "feast", "year"] (defScope s_feast_months) := ⟨rfl, rfl, rfl, by decide +kernel, rfl, by decide +kernel, by decide +kernel⟩
theorem b_feast_months : Bd "feast_months" "feast_months" s_feast_months ["calendar", "feast", "year"] := fun _ _ _ _ _ _ us hl => match us, hl with | [_, _, _], _ => rfl
abbrev s_feast_days : Stmt := top 48
theorem c_feast_days : FnScope ["calendar", "feast", "year", "months", "k"] ["calendar", "feast", "year"] (defScope s_feast_days) := ⟨rfl, rfl, rfl, by decide +kernel, rfl, by decide +kernel, by decide +kernel⟩
theorem b_feast_days : Bd "feast_days" "feast_days" s_feast_days ["calendar", "feast", "year"] := fun _ _ _ _ _ _ us hl => match us, hl with | [_, _, _], _ => rfl
abbrev s_Feasts_init : Stmt := inClass (top 49) 0
theorem c_Feasts_init : FnScope ["self", "calendar"] ["self", "calendar"] (defScope s_Feasts_init) := ⟨rfl, rfl, rfl, by decide +kernel, rfl, by decide +kernel, by decide +kernel⟩
theorem b_Feasts_init : Bd "__init__" "Feasts.__init__" s_Feasts_init ["self", "calendar"] := fun _ _ _ _ _ _ us hl => match us, hl with | [_, _], _ => rfl
abbrev s_Feasts_add : Stmt := inClass (top 49) 1
theorem c_Feasts_add : FnScope ["self", "feast"] ["self", "feast"] (defScope s_Feasts_add) := ⟨rfl, rfl, rfl, by decide +kernel, rfl, by decide +kernel, by decide +kernel⟩
theorem b_Feasts_add : Bd "add" "Feasts.add" s_Feasts_add ["self", "feast"] := fun _ _ _ _ _ _ us hl => match us, hl with | [_, _], _ => rfl
abbrev s_Feasts_drop : Stmt := inClass (top 49) 2
theorem c_Feasts_drop : FnScope ["self", "name"] ["self", "name"] (defScope s_Feasts_drop) := ⟨rfl, rfl, rfl, by decide +kernel, rfl, by decide +kernel, by decide +kernel⟩
theorem b_Feasts_drop : Bd "drop" "Feasts.drop" s_Feasts_drop ["self", "name"] := fun _ _ _ _ _ _ us hl => match us, hl with | [_, _], _ => rfl
abbrev s_Feasts_refuse_missing : Stmt := inClass (top 49) 3
theorem c_Feasts_refuse_missing : FnScope ["self", "name"] ["self", "name"] (defScope s_Feasts_refuse_missing) := ⟨rfl, rfl, rfl, by decide +kernel, rfl, by decide +kernel, by decide +kernel⟩
theorem b_Feasts_refuse_missing : Bd "refuse_missing" "Feasts.refuse_missing" s_Feasts_refuse_missing ["self", "name"] := fun _ _ _ _ _ _ us hl => match us, hl with | [_, _], _ => rfl
abbrev s_Feasts_called : Stmt := inClass (top 49) 4
theorem c_Feasts_called : FnScope ["self"] ["self"] (defScope s_Feasts_called) := ⟨rfl, rfl, rfl, by decide +kernel, rfl, by decide +kernel, by decide +kernel⟩
theorem b_Feasts_called : Bd "called" "Feasts.called" s_Feasts_called ["self"] := fun _ _ _ _ _ _ us hl => match us, hl with | [_], _ => rfl
abbrev s_Feasts_on_day : Stmt := inClass (top 49) 5
theorem c_Feasts_on_day : FnScope ["self", "day", "there", "name"] ["self", "day"] (defScope s_Feasts_on_day) := ⟨rfl, rfl, rfl, by decide +kernel, rfl, by decide +kernel, by decide +kernel⟩
theorem b_Feasts_on_day : Bd "on_day" "Feasts.on_day" s_Feasts_on_day ["self", "day"] := fun _ _ _ _ _ _ us hl => match us, hl with | [_, _], _ => rfl
abbrev s_Feasts_in_year : Stmt := inClass (top 49) 6
theorem c_Feasts_in_year : FnScope ["self", "year", "name", "feast", "day"] ["self", "year"] (defScope s_Feasts_in_year) := ⟨rfl, rfl, rfl, by decide +kernel, rfl, by decide +kernel, by decide +kernel⟩
theorem b_Feasts_in_year : Bd "in_year" "Feasts.in_year" s_Feasts_in_year ["self", "year"] := fun _ _ _ _ _ _ us hl => match us, hl with | [_, _], _ => rfl
abbrev s_Feasts_next_feast : Stmt := inClass (top 49) 7
theorem c_Feasts_next_feast : FnScope ["self", "day", "name", "year", "rows", "row"] ["self", "day", "name"] (defScope s_Feasts_next_feast) := ⟨rfl, rfl, rfl, by decide +kernel, rfl, by decide +kernel, by decide +kernel⟩
abbrev s_l_draws : Stmt := top 51
theorem c_l_draws : FnScope ["_law_cell", "_law_cut", "_law_k"] ["_law_cell"] (defScope s_l_draws) := ⟨rfl, rfl, rfl, by decide +kernel, rfl, by decide +kernel, by decide +kernel⟩
theorem b_l_draws : Bd "_law_draws" "_law_draws" s_l_draws ["_law_cell"] := fun _ _ _ _ _ _ us hl => match us, hl with | [_], _ => rfl
abbrev s_l_next : Stmt := top 52
theorem c_l_next : FnScope ["_law_draws_here", "_law_k", "_law_number"] ["_law_draws_here"] (defScope s_l_next) := ⟨rfl, rfl, rfl, by decide +kernel, rfl, by decide +kernel, by decide +kernel⟩
theorem b_l_next : Bd "_law_next" "_law_next" s_l_next ["_law_draws_here"] := fun _ _ _ _ _ _ us hl => match us, hl with | [_], _ => rfl
abbrev s_l_low : Stmt := top 53
theorem c_l_low : FnScope ["_law_top", "_law_bottom", "_law_one", "_law_two"] ["_law_top", "_law_bottom"] (defScope s_l_low) := ⟨rfl, rfl, rfl, by decide +kernel, rfl, by decide +kernel, by decide +kernel⟩
theorem b_l_low : Bd "_law_low" "_law_low" s_l_low ["_law_top", "_law_bottom"] := fun _ _ _ _ _ _ us hl => match us, hl with | [_, _], _ => rfl
abbrev s_l_plus : Stmt := top 54
theorem c_l_plus : FnScope ["_law_one", "_law_two"] ["_law_one", "_law_two"] (defScope s_l_plus) := ⟨rfl, rfl, rfl, by decide +kernel, rfl, by decide +kernel, by decide +kernel⟩
theorem b_l_plus : Bd "_law_plus" "_law_plus" s_l_plus ["_law_one", "_law_two"] := fun _ _ _ _ _ _ us hl => match us, hl with | [_, _], _ => rfl
abbrev s_l_by : Stmt := top 55
theorem c_l_by : FnScope ["_law_one", "_law_two"] ["_law_one", "_law_two"] (defScope s_l_by) := ⟨rfl, rfl, rfl, by decide +kernel, rfl, by decide +kernel, by decide +kernel⟩
theorem b_l_by : Bd "_law_by" "_law_by" s_l_by ["_law_one", "_law_two"] := fun _ _ _ _ _ _ us hl => match us, hl with | [_, _], _ => rfl
abbrev s_l_part : Stmt := top 56
theorem c_l_part : FnScope ["_law_draws_here", "_law_pick", "_law_bottom"] ["_law_draws_here"] (defScope s_l_part) := ⟨rfl, rfl, rfl, by decide +kernel, rfl, by decide +kernel, by decide +kernel⟩
theorem b_l_part : Bd "_law_part" "_law_part" s_l_part ["_law_draws_here"] := fun _ _ _ _ _ _ us hl => match us, hl with | [_], _ => rfl
abbrev s_l_moment : Stmt := top 57
theorem c_l_moment : FnScope ["_law_draws_here", "_law_part_here", "_law_pick", "_law_far"] ["_law_draws_here"] (defScope s_l_moment) := ⟨rfl, rfl, rfl, by decide +kernel, rfl, by decide +kernel, by decide +kernel⟩
theorem b_l_moment : Bd "_law_moment" "_law_moment" s_l_moment ["_law_draws_here"] := fun _ _ _ _ _ _ us hl => match us, hl with | [_], _ => rfl
abbrev s_l_four : Stmt := top 58
theorem c_l_four : FnScope ["_law_draws_here", "_law_pick", "_law_told", "_law_a_month", "_law_a_year", "_law_w", "_law_s", "_law_r"] ["_law_draws_here"] (defScope s_l_four) := ⟨rfl, rfl, rfl, by decide +kernel, rfl, by decide +kernel, by decide +kernel⟩
theorem b_l_four : Bd "_law_four" "_law_four" s_l_four ["_law_draws_here"] := fun _ _ _ _ _ _ us hl => match us, hl with | [_], _ => rfl
abbrev s_l_floor : Stmt := top 59
theorem c_l_floor : FnScope ["_law_fraction"] ["_law_fraction"] (defScope s_l_floor) := ⟨rfl, rfl, rfl, by decide +kernel, rfl, by decide +kernel, by decide +kernel⟩
theorem b_l_floor : Bd "_law_floor" "_law_floor" s_l_floor ["_law_fraction"] := fun _ _ _ _ _ _ us hl => match us, hl with | [_], _ => rfl
abbrev s_l_start : Stmt := top 60
theorem c_l_start : FnScope ["_law_four_here", "_law_k"] ["_law_four_here", "_law_k"] (defScope s_l_start) := ⟨rfl, rfl, rfl, by decide +kernel, rfl, by decide +kernel, by decide +kernel⟩
theorem b_l_start : Bd "_law_start" "_law_start" s_l_start ["_law_four_here", "_law_k"] := fun _ _ _ _ _ _ us hl => match us, hl with | [_, _], _ => rfl
abbrev s_l_mark_day : Stmt := top 61
theorem c_l_mark_day : FnScope ["_law_four_here", "_law_j"] ["_law_four_here", "_law_j"] (defScope s_l_mark_day) := ⟨rfl, rfl, rfl, by decide +kernel, rfl, by decide +kernel, by decide +kernel⟩
theorem b_l_mark_day : Bd "_law_mark_day" "_law_mark_day" s_l_mark_day ["_law_four_here", "_law_j"] := fun _ _ _ _ _ _ us hl => match us, hl with | [_, _], _ => rfl
abbrev s_l_month_at : Stmt := top 62
theorem c_l_month_at : FnScope ["_law_four_here", "_law_a_day", "_law_left", "_law_k"] ["_law_four_here", "_law_a_day"] (defScope s_l_month_at) := ⟨rfl, rfl, rfl, by decide +kernel, rfl, by decide +kernel, by decide +kernel⟩
theorem b_l_month_at : Bd "_law_month_at" "_law_month_at" s_l_month_at ["_law_four_here", "_law_a_day"] := fun _ _ _ _ _ _ us hl => match us, hl with | [_, _], _ => rfl
abbrev s_l_mark_in : Stmt := top 63
theorem c_l_mark_in : FnScope ["_law_four_here", "_law_k", "_law_first", "_law_left", "_law_j"] ["_law_four_here", "_law_k"] (defScope s_l_mark_in) := ⟨rfl, rfl, rfl, by decide +kernel, rfl, by decide +kernel, by decide +kernel⟩
theorem b_l_mark_in : Bd "_law_mark_in" "_law_mark_in" s_l_mark_in ["_law_four_here", "_law_k"] := fun _ _ _ _ _ _ us hl => match us, hl with | [_, _], _ => rfl
abbrev s_l_name : Stmt := top 64
theorem c_l_name : FnScope ["_law_four_here", "_law_k", "_law_j"] ["_law_four_here", "_law_k"] (defScope s_l_name) := ⟨rfl, rfl, rfl, by decide +kernel, rfl, by decide +kernel, by decide +kernel⟩
theorem b_l_name : Bd "_law_name" "_law_name" s_l_name ["_law_four_here", "_law_k"] := fun _ _ _ _ _ _ us hl => match us, hl with | [_, _], _ => rfl
abbrev s_l_month_with : Stmt := top 65
theorem c_l_month_with : FnScope ["_law_four_here", "_law_j"] ["_law_four_here", "_law_j"] (defScope s_l_month_with) := ⟨rfl, rfl, rfl, by decide +kernel, rfl, by decide +kernel, by decide +kernel⟩
theorem b_l_month_with : Bd "_law_month_with" "_law_month_with" s_l_month_with ["_law_four_here", "_law_j"] := fun _ _ _ _ _ _ us hl => match us, hl with | [_, _], _ => rfl
abbrev s_l_long : Stmt := top 66
theorem c_l_long : FnScope ["_law_four_here", "_law_k"] ["_law_four_here", "_law_k"] (defScope s_l_long) := ⟨rfl, rfl, rfl, by decide +kernel, rfl, by decide +kernel, by decide +kernel⟩
theorem b_l_long : Bd "_law_long" "_law_long" s_l_long ["_law_four_here", "_law_k"] := fun _ _ _ _ _ _ us hl => match us, hl with | [_, _], _ => rfl
abbrev s_l_feast_days : Stmt := top 67
theorem c_l_feast_days : FnScope ["_law_four_here", "_law_number", "_law_a_day", "_law_a_when", "_law_a_year", "_law_plain", "_law_months", "_law_k"] ["_law_four_here", "_law_number", "_law_a_day", "_law_a_when", "_law_a_year"] (defScope s_l_feast_days) := ⟨rfl, rfl, rfl, by decide +kernel, rfl, by decide +kernel, by decide +kernel⟩
theorem b_l_feast_days : Bd "_law_feast_days" "_law_feast_days" s_l_feast_days ["_law_four_here", "_law_number", "_law_a_day", "_law_a_when", "_law_a_year"] := fun _ _ _ _ _ _ us hl => match us, hl with | [_, _, _, _, _], _ => rfl
abbrev s_l_year_of : Stmt := top 68
theorem c_l_year_of : FnScope ["_law_four_here", "_law_a_day"] ["_law_four_here", "_law_a_day"] (defScope s_l_year_of) := ⟨rfl, rfl, rfl, by decide +kernel, rfl, by decide +kernel, by decide +kernel⟩
theorem b_l_year_of : Bd "_law_year_of" "_law_year_of" s_l_year_of ["_law_four_here", "_law_a_day"] := fun _ _ _ _ _ _ us hl => match us, hl with | [_, _], _ => rfl
abbrev s_l_cal : Stmt := top 69
theorem c_l_cal : FnScope ["_law_draws_here", "_law_four_here", "_law_parts", "_law_one"] ["_law_draws_here", "_law_four_here"] (defScope s_l_cal) := ⟨rfl, rfl, rfl, by decide +kernel, rfl, by decide +kernel, by decide +kernel⟩
theorem b_l_cal : Bd "_law_cal" "_law_cal" s_l_cal ["_law_draws_here", "_law_four_here"] := fun _ _ _ _ _ _ us hl => match us, hl with | [_, _], _ => rfl
abbrev s_l_kinds : Stmt := top 70
theorem c_l_kinds : FnScope ["_law_kept", "_law_told"] ["_law_kept"] (defScope s_l_kinds) := ⟨rfl, rfl, rfl, by decide +kernel, rfl, by decide +kernel, by decide +kernel⟩
theorem b_l_kinds : Bd "_law_kinds" "_law_kinds" s_l_kinds ["_law_kept"] := fun _ _ _ _ _ _ us hl => match us, hl with | [_], _ => rfl
abbrev s_l_in_year : Stmt := top 71
theorem c_l_in_year : FnScope ["_law_four_here", "_law_kept", "_law_a_year", "_law_told", "_law_a_name", "_law_number", "_law_a_day", "_law_a_when", "_law_one"] ["_law_four_here", "_law_kept", "_law_a_year"] (defScope s_l_in_year) := ⟨rfl, rfl, rfl, by decide +kernel, rfl, by decide +kernel, by decide +kernel⟩
theorem b_l_in_year : Bd "_law_in_year" "_law_in_year" s_l_in_year ["_law_four_here", "_law_kept", "_law_a_year"] := fun _ _ _ _ _ _ us hl => match us, hl with | [_, _, _], _ => rfl
abbrev s_l_next_feast : Stmt := top 72
theorem c_l_next_feast : FnScope ["_law_four_here", "_law_kept", "_law_a_day", "_law_a_name", "_law_a_year", "_law_rows", "_law_row"] ["_law_four_here", "_law_kept", "_law_a_day", "_law_a_name"] (defScope s_l_next_feast) := ⟨rfl, rfl, rfl, by decide +kernel, rfl, by decide +kernel, by decide +kernel⟩
theorem b_l_next_feast : Bd "_law_next_feast" "_law_next_feast" s_l_next_feast ["_law_four_here", "_law_kept", "_law_a_day", "_law_a_name"] := fun _ _ _ _ _ _ us hl => match us, hl with | [_, _, _, _], _ => rfl
abbrev s_l_deed : Stmt := top 73
theorem c_l_deed : FnScope ["_law_book", "_law_way", "_law_a_name", "_law_fields", "_law_kept", "_law_told", "e", "_law_sorts"] ["_law_book", "_law_way", "_law_a_name", "_law_fields"] (defScope s_l_deed) := ⟨rfl, rfl, rfl, by decide +kernel, rfl, by decide +kernel, by decide +kernel⟩
theorem b_l_deed : Bd "_law_deed" "_law_deed" s_l_deed ["_law_book", "_law_way", "_law_a_name", "_law_fields"] := fun _ _ _ _ _ _ us hl => match us, hl with | [_, _, _, _], _ => rfl
abbrev s_l_done : Stmt := top 74
theorem c_l_done : FnScope ["_law_book", "_law_kept", "_law_draws_here", "_law_pick", "_law_a_name", "_law_due", "_law_a_when", "_law_fields"] ["_law_book", "_law_kept", "_law_draws_here"] (defScope s_l_done) := ⟨rfl, rfl, rfl, by decide +kernel, rfl, by decide +kernel, by decide +kernel⟩
theorem b_l_done : Bd "_law_done" "_law_done" s_l_done ["_law_book", "_law_kept", "_law_draws_here"] := fun _ _ _ _ _ _ us hl => match us, hl with | [_, _, _], _ => rfl
abbrev s_l_asked : Stmt := top 75
theorem c_l_asked : FnScope ["_law_book", "_law_kept", "_law_four_here", "_law_draws_here", "_law_pick", "_law_a_year", "_law_rows", "_law_told", "_law_some", "_law_first", "_law_days", "_law_a_day", "_law_due", "_law_a_name", "_law_row", "_law_one"] ["_law_book", "_law_kept", "_law_four_here", "_law_draws_here"] (defScope s_l_asked) := ⟨rfl, rfl, rfl, by decide +kernel, rfl, by decide +kernel, by decide +kernel⟩
theorem b_l_asked : Bd "_law_asked" "_law_asked" s_l_asked ["_law_book", "_law_kept", "_law_four_here", "_law_draws_here"] := fun _ _ _ _ _ _ us hl => match us, hl with | [_, _, _, _], _ => rfl
abbrev s_l_filled : Stmt := top 76
theorem c_l_filled : FnScope ["_law_book", "_law_kept", "_law_four_here", "_law_draws_here", "_law_k", "_law_pick", "_law_fields", "_law_a_name"] ["_law_book", "_law_kept", "_law_four_here", "_law_draws_here"] (defScope s_l_filled) := ⟨rfl, rfl, rfl, by decide +kernel, rfl, by decide +kernel, by decide +kernel⟩
theorem b_l_filled : Bd "_law_filled" "_law_filled" s_l_filled ["_law_book", "_law_kept", "_law_four_here", "_law_draws_here"] := fun _ _ _ _ _ _ us hl => match us, hl with | [_, _, _, _], _ => rfl
abbrev s_l_right : Stmt := top 77
theorem c_l_right : FnScope ["_law_draws_here", "_law_four_here", "_law_a_calendar", "_law_book", "_law_other", "_law_kept", "_law_k"] ["_law_draws_here"] (defScope s_l_right) := ⟨rfl, rfl, rfl, by decide +kernel, rfl, by decide +kernel, by decide +kernel⟩
theorem b_l_right : Bd "_law_right" "_law_right" s_l_right ["_law_draws_here"] := fun _ _ _ _ _ _ us hl => match us, hl with | [_], _ => rfl
abbrev s_law : Stmt := top 78
theorem c_law : FnScope ["_law_script", "_law_cell"] ["_law_script"] (defScope s_law) := ⟨rfl, rfl, rfl, by decide +kernel, rfl, by decide +kernel, by decide +kernel⟩
theorem b_law : Bd "law" "law" s_law ["_law_script"] := fun _ _ _ _ _ _ us hl => match us, hl with | [_], _ => rfl
/-! ### the greatest common divisor -/
def spGcd : Sp := fun vs H Q _ => ∃ a b : Int, vs = [.int a, .int b] ∧ Q (.int (Int.gcd a b)) H
def mu2 (i : Nat) : L2.St → Hp → Nat := fun σ _ => match σ[i]? with
  | some (some (.int b)) => b.natAbs
  | _ => 0
theorem abs_gcd {a : Int} (c : Int) (h : Int.gcd a 0 = c) : (if a < 0 then -a else a) = c := by
  rw [Int.gcd_zero_right] at h
  split <;> omega
section
variable {P : Program} {w : World} {K : PySem.W.Frag} {mg : Str → Option Value} {base : Heap}
theorem ok_gcd (D : Df K mg "common_divisor" s_common_divisor []) (hab : mg "abs" = none) : Ca P w K mg base CX0 1 "common_divisor" s_common_divisor [] ["one", "two"] spGcd := by
  refine ca0 (k := 0) D c_common_divisor (fun vs H Q E h => ?_) fun f cdv A outer s H vs Q E hr h => ?_
  · obtain ⟨a, b, rfl, _⟩ := h
    rfl
  · obtain ⟨a, b, rfl, q⟩ := h
    refine ⟨_, pss_cons (ps_while PassesOwn.never (pt_cmpR op_ne (pv 1) pe_int (nomark _)) (pss_one (ps_par (i := 0) (j := 1) rfl c_common_divisor.nd rfl rfl (by decide) rfl rfl (pa_cons (pv 1) (pa_cons (pe_op op_modN (pv 0) (pv 1)) pa_nil)) rfl)))
      (pss_one (ps_ret (pe_callB call_abs rfl hab (by decide +kernel) (pa_cons (pv 0) pa_nil)))), ?_⟩
    refine while_by (fun σ H' => ∃ a' b' : Int, σ = [some (.int a'), some (.int b')] ∧ Int.gcd a' b' = Int.gcd a b ∧ H' = H) (mu2 1) ⟨a, b, rfl, rfl, rfl⟩ ?_ (fun σ H' R R' hq ⟨v, h1, h2, k, h3, h4⟩ => ⟨v, h1, h2, k, h3, hq _ _ h4⟩)
    rintro σ H' ⟨a', b', rfl, hg, rfl⟩
    refine ⟨_, rfl, rfl, _, rfl, ?_⟩
    by_cases hb : b' = 0
    · subst hb
      refine iteF ?_
      refine ⟨_, rfl, a', rfl, ?_⟩
      rw [abs_gcd _ (congrArg _ hg)]
      exact q
    · rw [show (!decide (V.int b' = V.int 0)) = true by simpa using hb]
      refine iteT ?_
      refine ⟨_, rfl, _, rfl, _, rfl, _, _, rfl, rfl, hb, _, _, rfl, ⟨b', a'.fmod b', rfl, ?_, rfl⟩, ?_⟩
      · rw [gcd_fmod]
        exact hg
      · exact fmod_lt a' hb
end
/-! ### lowest terms, as the law makes them -/
def spLow : Sp := fun vs H Q _ => ∃ t b : Int, vs = [.int t, .int b] ∧ b ≠ 0 ∧ Sz 8800 t ∧ Sz 8800 b ∧ ∀ p, H p = none → Q (.ref p) (upd H p (.tup [.int (Rat.divInt t b).num, .int (Rat.divInt t b).den]))
theorem gcd_sz {t b : Int} (h : b ≠ 0) (hb : Sz 8800 b) : Sz 8800 (Int.gcd t b : Int) := by
  unfold Sz
  rw [Int.natAbs_natCast]
  exact Nat.lt_of_le_of_lt (Nat.le_of_dvd (by omega) (Int.gcd_dvd_natAbs_right t b)) hb
theorem gs_sz {t b : Int} (h : b ≠ 0) (hb : Sz 8800 b) : Sz 8900 (gs t b) := by
  unfold gs
  split
  · exact (gcd_sz h hb).neg.mono (by decide)
  · exact (gcd_sz h hb).mono (by decide)
section
variable {P : Program} {w : World} {K : PySem.W.Frag} {mg : Str → Option Value} {base : Heap}
theorem ok_low (D : Df K mg "_law_low" s_l_low []) (hab : mg "abs" = none) : Ca P w K mg base CX0 1 "_law_low" s_l_low [] ["_law_top", "_law_bottom"] spLow := by
  refine ca0 (k := 0) D c_l_low (fun vs H Q E h => ?_) fun f cdv A outer s H vs Q E hr h => ?_
  · obtain ⟨t, b, rfl, _⟩ := h
    rfl
  · obtain ⟨t, b, rfl, hb, zt, zb, q⟩ := h
    refine ⟨_, pss_cons (ps_par (i := 2) (j := 3) rfl c_l_low.nd rfl rfl (by decide) rfl rfl (pa_cons (pe_callB call_abs rfl hab (by decide +kernel) (pa_cons (pv 0) pa_nil)) (pa_cons (pe_callB call_abs rfl hab (by decide +kernel) (pa_cons (pv 1) pa_nil)) pa_nil)) rfl)
      (pss_cons (ps_while PassesOwn.never (pt_cmpR op_gt (pv 3) pe_int (nomark _)) (pss_one (ps_par (i := 2) (j := 3) rfl c_l_low.nd rfl rfl (by decide) rfl rfl (pa_cons (pv 3) (pa_cons (pe_op op_mod (pv 2) (pv 3)) pa_nil)) rfl)))
      (pss_cons (ps_if (pt_cmpR op_lt (pv 1) pe_int (nomark _)) (pss_one (ps_set (i := 2) c_l_low.nd rfl (.inl rfl) (pe_op op_sub pe_int (pv 2)))) pss_nil)
      (pss_one (ps_ret (pe_tup (pa_cons (pe_op op_fdivA (pv 0) (pv 2)) (pa_cons (pe_op op_fdivA (pv 1) (pv 2)) pa_nil))))))), ?_⟩
    refine ⟨_, rfl, t, rfl, _, rfl, b, rfl, _, _, rfl, ?_⟩
    refine while_by (fun σ H' => ∃ c d : Int, σ = [some (.int t), some (.int b), some (.int c), some (.int d)] ∧ 0 ≤ c ∧ 0 ≤ d ∧ Int.gcd c d = Int.gcd t b ∧ H' = H) (mu2 3) ⟨_, _, rfl, ?_, ?_, ?_, rfl⟩ ?_ (fun σ H' R R' hq ⟨v, h1, i, j, h2, h3, k, h4, h5⟩ => ⟨v, h1, i, j, h2, h3, k, h4, hq _ _ h5⟩)
    · split <;> omega
    · split <;> omega
    · have e : ∀ x : Int, (if x < 0 then -x else x) = (x.natAbs : Int) := fun x => by split <;> omega
      rw [e, e]
      show Nat.gcd _ _ = Nat.gcd _ _
      rw [Int.natAbs_natCast, Int.natAbs_natCast]
    rintro σ H' ⟨c, d, rfl, hc, hd, hg, rfl⟩
    refine ⟨_, rfl, _, _, rfl, rfl, _, rfl, ?_⟩
    by_cases h0 : 0 < d
    · rw [decide_eq_true h0]
      refine iteT ?_
      refine ⟨_, rfl, _, rfl, _, rfl, _, _, rfl, rfl, h0, _, _, rfl, ⟨d, c % d, rfl, hd, Int.emod_nonneg _ (by omega), ?_, rfl⟩, ?_⟩
      · rw [gcd_emod']
        exact hg
      · have h1 := Int.emod_nonneg c (show d ≠ 0 by omega)
        have h2 := Int.emod_lt_of_pos c h0
        show (c % d).natAbs < d.natAbs
        omega
    · rw [decide_eq_false h0]
      refine iteF ?_
      have d0 : d = 0 := by omega
      subst d0
      have ec : c = (Int.gcd t b : Int) := by
        rw [← hg, Int.gcd_zero_right]
        omega
      subst ec
      have fin : ∀ σ' : L2.St, σ' = [some (.int t), some (.int b), some (.int (gs t b)), some (.int 0)] → (tRet (tTup (tCons (tOp (rI CDivA fun i j => .int (i.fdiv j)) (tVar 0) (tVar 2)) (tCons (tOp (rI CDivA fun i j => .int (i.fdiv j)) (tVar 1) (tVar 2)) tNil)))) { nx := fun _ H' => Q .non H', rt := Q } σ' H' := by
        rintro σ' rfl
        refine ⟨_, rfl, _, rfl, _, _, rfl, rfl, ⟨gs_ne hb, gs_sz hb zb⟩, _, rfl, _, rfl, _, _, rfl, rfl, ⟨gs_ne hb, gs_sz hb zb⟩, (by show 2 ≤ sizeLine; decide), fun p hp => ?_⟩
        have z := q p hp
        rw [← low_num hb, ← low_den hb] at z
        exact z
      refine ⟨_, rfl, _, _, rfl, rfl, _, rfl, ?_⟩
      by_cases hn : b < 0
      · rw [decide_eq_true hn]
        refine iteT ?_
        refine ⟨_, rfl, _, _, rfl, rfl, fin _ ?_⟩
        show [some (V.int t), some (V.int b), some (V.int (0 - (Int.gcd t b : Int))), some (V.int 0)] = _
        unfold gs
        rw [if_pos hn, Int.zero_sub]
      · rw [decide_eq_false hn]
        refine iteF (fin _ ?_)
        unfold gs
        rw [if_neg hn]
end
/-! ### the law's draws -/
theorem md {j : Int} (h : 0 < j := by decide) : 0 < j := h
/-- at l stand draws, of which at most n were taken -/
def Dr (H : Hp) (l : Addr) (n : Nat) : Prop := ∃ (d k : Int) (f : Bool), H l = some (.lst [.int d, .int k, .bl f]) ∧ 0 ≤ k ∧ k ≤ n
/-- all but what stands at l is as it was -/
def But (l : Addr) (H H' : Hp) : Prop := ∀ b o, b ≠ l → H b = some o → H' b = some o
theorem But.refl {l : Addr} {H : Hp} : But l H H := fun _ _ _ h => h
theorem But.trans {l : Addr} {H H1 H2 : Hp} (a : But l H H1) (b : But l H1 H2) : But l H H2 := fun c o hc h => b c o hc (a c o hc h)
theorem But.same {l : Addr} {H H1 : Hp} (a : Same H H1) : But l H H1 := fun c o _ h => a c o h
theorem But.upd {l : Addr} {H H1 : Hp} {p : Addr} {o : HO} (a : But l H H1) (h : H1 p = none) : But l H (upd H1 p o) := fun c u hc e => by
  rw [upd_ne (ne_of_none (a c u hc e) h)]
  exact a c u hc e
theorem But.tup {l p : Addr} {H H1 : Hp} {n : Nat} {xs : List V} (a : But l H H1) (d : Dr H l n) (h : H p = some (.tup xs)) : H1 p = some (.tup xs) := by
  obtain ⟨_, _, _, hl, _⟩ := d
  exact a _ _ (ne_of h hl (by intro z; cases z)) h
theorem But.ins {l p C dx : Addr} {H H1 : Hp} {n : Nat} {fs : List (Str × V)} (a : But l H H1) (d : Dr H l n) (h : H p = some (.ins C dx fs)) : H1 p = some (.ins C dx fs) := by
  obtain ⟨_, _, _, hl, _⟩ := d
  exact a _ _ (ne_of h hl (by intro z; cases z)) h
theorem Same.upd {H H1 : Hp} {p : Addr} {o : HO} (a : Same H H1) (h : H1 p = none) : Same H (upd H1 p o) := fun c u e => by
  rw [upd_ne (ne_of_none (a c u e) h)]
  exact a c u e
theorem Same.new {H : Hp} {p : Addr} {o : HO} (h : H p = none) : Same H (L2.upd H p o) := Same.upd (Same.refl H) h
theorem Dr.same {H H1 : Hp} {l : Addr} {n m : Nat} (d : Dr H l n) (s : Same H H1) (h : n ≤ m) : Dr H1 l m := by
  obtain ⟨d, k, f, hl, h1, h2⟩ := d
  exact ⟨d, k, f, s _ _ hl, h1, by omega⟩
theorem Dr.mono {H : Hp} {l : Addr} {n m : Nat} (d : Dr H l n) (h : n ≤ m) : Dr H l m := d.same (Same.refl H) h
theorem Dr.new {H : Hp} {l p : Addr} {n : Nat} {o : HO} (d : Dr H l n) (h : H p = none) : Dr (L2.upd H p o) l n := d.same (Same.new h) (Nat.le_refl _)
def spDraws : Sp := fun vs H Q _ => ∃ c : Int, vs = [.int c] ∧ ∀ p H', H p = none → Same H H' → Dr H' p 0 → Q (.ref p) H'
def spNext : Sp := fun vs H Q _ => ∃ (l : Addr) (n : Nat), vs = [.ref l] ∧ Dr H l n ∧ n ≤ 1000000 ∧ ∀ v H', 0 ≤ v → v < 306783369 → But l H H' → Dr H' l (n + 1) → Q (.int v) H'
section
variable {P : Program} {w : World} {K : PySem.W.Frag} {mg : Str → Option Value} {base : Heap}
theorem ok_draws (D : Df K mg "_law_draws" s_l_draws []) (hra : mg "range" = none) : Ca P w K mg base CX0 1 "_law_draws" s_l_draws [] ["_law_cell"] spDraws := by
  refine ca0 (k := 0) D c_l_draws (fun vs H Q E h => ?_) fun f cdv A outer s H vs Q E hr h => ?_
  · obtain ⟨c, rfl, _⟩ := h
    rfl
  · obtain ⟨c, rfl, q⟩ := h
    refine ⟨_, pss_cons (ps_set (i := 1) c_l_draws.nd rfl (.inl rfl) (pe_op op_pow pe_int pe_int))
      (pss_cons (ps_for PassesOwn.never rfl (pi_range1 rfl hra (pa_cons pe_int pa_nil)) (pg_name (i := 2) c_l_draws.nd rfl (.inl rfl)) (pss_one (ps_set (i := 1) c_l_draws.nd rfl (.inl rfl) (pe_op op_mulA (pv 1) (pv 1)))))
      (pss_one (ps_ret (pe_lst (pa_cons (pe_op op_mod (pv 0) (pv 1)) (pa_cons pe_int (pa_cons (pe_cmpR op_ge (pv 0) (pe_op op_pow pe_int pe_int) (nomark _)) pa_nil))))))), ?_⟩
    refine ⟨_, _, rfl, rfl, ⟨by decide, by decide, by decide⟩, 7, rfl, by decide, by decide, ?_⟩
    refine for_range (n := 7) (fun i σ H' => ∃ (z : Int) (v : Option V), σ = [some (.int c), some (.int z), v] ∧ 0 < z ∧ Sz (200 * 2 ^ i) z ∧ H' = H) ⟨_, _, rfl, by decide, (by show (10 ^ 60 : Int).natAbs < 2 ^ (200 * 2 ^ 0); decide), rfl⟩ ?_ ?_
    · rintro i σ H' hi ⟨z, v, rfl, h0, hz, rfl⟩
      have l1 : 2 ^ i ≤ 2 ^ 6 := Nat.pow_le_pow_right (by decide) (by omega)
      have hz' : Sz 100000 z := hz.mono (Nat.le_trans (Nat.mul_le_mul_left 200 l1) (by decide))
      refine ⟨_, rfl, _, rfl, _, _, rfl, rfl, ⟨hz', hz'⟩, ⟨z * z, _, rfl, Int.mul_pos h0 h0, ?_, rfl⟩⟩
      exact (hz.mul hz).mono (by rw [Nat.pow_succ]; omega)
    · rintro σ H' ⟨z, v, rfl, h0, hz, rfl⟩
      refine ⟨_, rfl, _, rfl, _, _, rfl, rfl, h0, _, rfl, _, _, rfl, rfl, ⟨by decide, by decide, by decide⟩, _, _, rfl, rfl, (by show 3 ≤ sizeLine; decide), fun p hp => ?_⟩
      exact q p _ hp (Same.new hp) ⟨_, _, _, upd_same, by decide, by decide⟩
end
section
variable {P : Program} {w : World} {K : PySem.W.Frag} {mg : Str → Option Value} {base : Heap}
theorem ok_next (D : Df K mg "_law_next" s_l_next []) : Ca P w K mg base CX0 1 "_law_next" s_l_next [] ["_law_draws_here"] spNext := by
  refine ca0 (k := 0) D c_l_next (fun vs H Q E h => ?_) fun f cdv A outer s H vs Q E hr h => ?_
  · obtain ⟨l, n, rfl, _⟩ := h
    rfl
  · obtain ⟨l, n, rfl, ⟨d, k, fl, hl, k0, k1⟩, hn, q⟩ := h
    refine ⟨_, pss_cons (ps_asg (pe_op op_add (pe_ix ix_list (pv 0) pe_int (fun _ _ => rfl)) pe_int) (pg_sub (pv 0) pe_int set_list))
      (pss_cons (ps_set (i := 1) c_l_next.nd rfl (.inl rfl) (pe_ix ix_list (pv 0) pe_int (fun _ _ => rfl)))
      (pss_cons (ps_if (pt_val (pe_ix ix_list (pv 0) pe_int (fun _ _ => rfl)))
        (pss_cons (ps_set (i := 2) c_l_next.nd rfl (.inl rfl) (pe_op op_mod (pe_ix ix_list (pv 0) pe_int (fun _ _ => rfl)) (pe_op op_pow pe_int pe_int)))
        (pss_cons (ps_asg (pe_op op_fdiv (pe_ix ix_list (pv 0) pe_int (fun _ _ => rfl)) (pe_op op_pow pe_int pe_int)) (pg_sub (pv 0) pe_int set_list))
        (pss_one (ps_ret (pv 2))))) pss_nil)
      (pss_cons (ps_set (i := 2) c_l_next.nd rfl (.inl rfl) (pe_op op_mod (pe_op op_mul (pe_op op_add (pe_op op_add (pe_op op_mod (pe_ix ix_list (pv 0) pe_int (fun _ _ => rfl)) pe_int) (pe_op op_mul (pe_op op_mul (pv 1) (pv 1)) pe_int)) (pv 1)) pe_int) pe_int))
      (pss_cons (ps_set (i := 2) c_l_next.nd rfl (.inl rfl) (pe_op op_mod (pe_op op_mul (pv 2) (pv 2)) pe_int))
      (pss_one (ps_ret (pe_op op_fdiv (pe_op op_mod (pe_op op_mul (pv 2) (pe_op op_add (pv 2) pe_int)) pe_int) pe_int))))))), ?_⟩
    refine ⟨_, rfl, l, _, _, _, rfl, rfl, SqL.of hl, rfl, _, _, rfl, rfl, _, rfl, l, _, _, _, rfl, rfl, hl, rfl, ?_⟩
    refine ⟨_, rfl, l, _, _, _, rfl, rfl, SqL.of upd_same, rfl, ?_⟩
    refine ⟨_, rfl, l, _, _, _, rfl, rfl, SqL.of upd_same, rfl, _, rfl, ?_⟩
    cases fl with
    | true =>
      refine iteT ?_
      refine ⟨_, rfl, l, _, _, _, rfl, rfl, SqL.of upd_same, rfl, _, _, rfl, rfl, ⟨by decide, by decide, by decide⟩, _, _, rfl, rfl, md, ?_⟩
      refine ⟨_, rfl, l, _, _, _, rfl, rfl, SqL.of upd_same, rfl, _, _, rfl, rfl, ⟨by decide, by decide, by decide⟩, _, _, rfl, rfl, ⟨by decide, by decide⟩, _, rfl, l, _, _, _, rfl, rfl, upd_same, rfl, ?_⟩
      refine ⟨_, rfl, ?_⟩
      have h1 := Int.emod_nonneg d (show (1000000 : Int) ≠ 0 by decide)
      have h2 := Int.emod_lt_of_pos d (show (0 : Int) < 1000000 by decide)
      refine q (d % 1000000) _ h1 (by omega) (fun b o hb e => ?_) ⟨_, _, _, upd_same, by omega, by omega⟩
      rw [upd_ne hb, upd_ne hb]
      exact e
    | false =>
      refine iteF ?_
      have g1 := Int.emod_nonneg ((d % 1000003 + (k + 1) * (k + 1) * 7919 + (k + 1)) * 48271) (show (2147483629 : Int) ≠ 0 by decide)
      have g2 := Int.emod_lt_of_pos ((d % 1000003 + (k + 1) * (k + 1) * 7919 + (k + 1)) * 48271) (show (0 : Int) < 2147483629 by decide)
      refine ⟨_, rfl, l, _, _, _, rfl, rfl, SqL.of upd_same, rfl, _, _, rfl, rfl, md, _, rfl, _, rfl, _, _, rfl, rfl, .inl ⟨by omega, by omega⟩, _, _, rfl, rfl, .inr ⟨by decide, by decide⟩, _, _, rfl, rfl, _, rfl, _, _, rfl, rfl, _, _, rfl, rfl, .inr ⟨by decide, by decide⟩, _, _, rfl, rfl, md, ?_⟩
      refine ⟨_, rfl, _, rfl, _, _, rfl, rfl, .inl ⟨Int.lt_of_lt_of_le (by decide) g1, Int.lt_trans g2 (by decide)⟩, _, _, rfl, rfl, md, ?_⟩
      generalize hz : ((d % 1000003 + (k + 1) * (k + 1) * 7919 + (k + 1)) * 48271 % 2147483629) * ((d % 1000003 + (k + 1) * (k + 1) * 7919 + (k + 1)) * 48271 % 2147483629) = z
      have i1 := Int.emod_nonneg z (show (2147483587 : Int) ≠ 0 by decide)
      have i2 := Int.emod_lt_of_pos z (show (0 : Int) < 2147483587 by decide)
      refine ⟨_, rfl, _, rfl, _, _, rfl, rfl, _, _, rfl, rfl, .inl ⟨Int.lt_of_lt_of_le (by decide) i1, Int.lt_trans i2 (by decide)⟩, _, _, rfl, rfl, md, _, _, rfl, rfl, ⟨by decide, by decide⟩, ?_⟩
      have j1 := Int.emod_nonneg (z % 2147483587 * (z % 2147483587 + 2)) (show (2147483579 : Int) ≠ 0 by decide)
      have j2 := Int.emod_lt_of_pos (z % 2147483587 * (z % 2147483587 + 2)) (show (0 : Int) < 2147483579 by decide)
      refine q (z % 2147483587 * (z % 2147483587 + 2) % 2147483579 / 7) _ (by omega) (by omega) (fun b o hb e => ?_) ⟨_, _, _, upd_same, by omega, by omega⟩
      rw [upd_ne hb]
      exact e
end
/-! ### Share -/
def sf (t b : Int) : List (Str × V) := putF "bottom" (.int b) (putF "top" (.int t) [])
theorem tb_ : ¬ (("top" : Str) = "bottom") := by decide +kernel
theorem sf_eq (t b : Int) : sf t b = ([("top", V.int t), ("bottom", V.int b)] : List (Str × V)) := by
  show (if ("top" : Str) = "bottom" then [(("top" : Str), V.int b)] else (("top" : Str), V.int t) :: putF "bottom" (V.int b) []) = _
  rw [if_neg tb_]
  rfl
theorem sf_top (t b : Int) : (sf t b).lookup ("top" : Str) = some (.int t) := by
  unfold sf
  rw [lookup_putF, if_neg tb_, lookup_putF, if_pos rfl]
theorem sf_bottom (t b : Int) : (sf t b).lookup ("bottom" : Str) = some (.int b) := by
  unfold sf
  rw [lookup_putF, if_pos rfl]
/-- what the top says of the class -/
structure ShT (K : PySem.W.Frag) (C : Addr) : Prop where
  cl : Cls K C
  nT : NoAttr K C "top"
  nB : NoAttr K C "bottom"
/-- at p a Share of q -/
def Sh (C : Addr) (H : Hp) (p : Addr) (q : Rat) : Prop := ∃ dx, H p = some (.ins C dx (sf q.num q.den))
theorem Sh.same {C p : Addr} {H H1 : Hp} {q : Rat} (h : Sh C H p q) (s : Same H H1) : Sh C H1 p q := by
  obtain ⟨dx, e⟩ := h
  exact ⟨dx, s _ _ e⟩
/-- Share's __init__, with no bottom of 0 -/
def spShI (C : Addr) : Sp := fun vs H Q _ => ∃ (p dx : Addr) (t b : Int), vs = [.ref p, .int t, .int b] ∧ H p = some (.ins C dx []) ∧ b ≠ 0 ∧ Sz 8800 t ∧ Sz 8800 b ∧
  Q .non (upd H p (.ins C dx (sf (Rat.divInt t b).num (Rat.divInt t b).den)))
section
variable {P : Program} {w : World} {K : PySem.W.Frag} {mg : Str → Option Value} {base : Heap} {C : Addr}
theorem ok_shI (D : Di K mg "Share" C "Share.__init__" s_Share_init [.int 1]) (T : ShT K C) (g : Ca P w K mg base CX0 1 "common_divisor" s_common_divisor [] ["one", "two"] spGcd) : Ci P w K mg base CX0 2 "Share" C "Share.__init__" s_Share_init [.int 1] ["self", "top", "bottom"] (spShI C) := by
  refine ci0 (k := 1) D c_Share_init (fun vs H Q E h => ?_) fun f cdv A outer s H vs Q E hr h => ?_
  · obtain ⟨p, dx, t, b, rfl, _⟩ := h
    rfl
  · obtain ⟨p, dx, t, b, rfl, hp, hb, zt, zb, q⟩ := h
    refine ⟨_, pss_cons (ps_if (pt_cmpR op_eq (pv 2) pe_int (nomark _)) (pss_one ps_never) pss_nil)
      (pss_cons (ps_set (i := 3) c_Share_init.nd rfl (.inl rfl) (pe_ca g b_common_divisor hr (by decide) pass0 rfl (pa_cons (pv 1) (pa_cons (pv 2) pa_nil))))
      (pss_cons (ps_if (pt_cmpR op_lt (pv 2) pe_int (nomark _)) (pss_one (ps_set (i := 3) c_Share_init.nd rfl (.inl rfl) (pe_un un_neg (pv 3)))) pss_nil)
      (pss_cons (ps_fld (pv 0) (pe_op op_fdivA (pv 1) (pv 3)) rfl) (pss_one (ps_fld (pv 0) (pe_op op_fdivA (pv 2) (pv 3)) rfl))))), ?_⟩
    refine ⟨_, rfl, rfl, _, rfl, ?_⟩
    rw [decide_eq_false (show ¬ V.int b = V.int 0 from fun z => hb (V.int.inj z))]
    refine iteF ?_
    refine ⟨_, rfl, _, rfl, t, b, rfl, ?_⟩
    have fin : ∀ σ' : L2.St, σ' = [some (.ref p), some (.int t), some (.int b), some (.int (gs t b))] →
        tSeq (sFld K (tVar 0) (tOp (rI CDivA fun i j => .int (i.fdiv j)) (tVar 1) (tVar 3)) "top") (sFld K (tVar 0) (tOp (rI CDivA fun i j => .int (i.fdiv j)) (tVar 2) (tVar 3)) "bottom") { nx := fun _ H' => Q .non H', rt := Q } σ' H := by
      rintro σ' rfl
      refine ⟨_, rfl, _, rfl, _, _, rfl, rfl, ⟨gs_ne hb, gs_sz hb zb⟩, _, rfl, p, C, dx, _, rfl, hp, T.cl, T.nT, (by show 0 < 1000; decide), ?_⟩
      refine ⟨_, rfl, _, rfl, _, _, rfl, rfl, ⟨gs_ne hb, gs_sz hb zb⟩, _, rfl, p, C, dx, _, rfl, upd_same, T.cl, T.nB, (by show 1 < 1000; decide), ?_⟩
      rw [upd_upd]
      rw [← low_num hb, ← low_den hb] at q
      exact q
    refine ⟨_, rfl, _, _, rfl, rfl, _, rfl, ?_⟩
    by_cases hn : b < 0
    · rw [decide_eq_true hn]
      refine iteT ?_
      refine ⟨_, rfl, _, rfl, fin _ ?_⟩
      unfold gs
      rw [if_pos hn]
      rfl
    · rw [decide_eq_false hn]
      refine iteF (fin _ ?_)
      unfold gs
      rw [if_neg hn]
      rfl
theorem bd_Share2 : Bd1 "__init__" "Share.__init__" s_Share_init ["self", "top", "bottom"] 3 1 1 := fun _ _ _ _ _ _ _ us its hu hi => match us, hu, its, hi with | [_, _, _], _, [_], _ => ⟨_, rfl, rfl⟩
theorem bd_Share1 : Bd1 "__init__" "Share.__init__" s_Share_init ["self", "top", "bottom"] 2 0 1 := fun _ _ _ _ _ _ _ us its hu hi => match us, hu, its, hi with | [_, _], _, [_], _ => ⟨_, rfl, rfl⟩
end
/-- a new Share, read as its maker's caller wants it -/
theorem made_sh {C : Addr} {H : Hp} {R : Addr → Hp → Prop} {E : XK} {t b : Int} (hb : b ≠ 0) (zt : Sz 8800 t) (zb : Sz 8800 b) (h : ∀ p H', H p = none → Same H H' → Sh C H' p (Rat.divInt t b) → R p H') :
    ∀ x dx, H x = none → H dx = none → dx ≠ x → spShI C [.ref x, .int t, .int b] (upd (upd H dx (.own x)) x (.ins C dx [])) (fun v H2 => v = .non ∧ R x H2) E := by
  intro x dx hx hd ne
  refine ⟨x, dx, t, b, rfl, upd_same, hb, zt, zb, rfl, ?_⟩
  rw [upd_upd]
  refine h x _ hx (Same.upd (Same.new hd) ?_) ⟨dx, upd_same⟩
  rw [upd_ne ne.symm]
  exact hx
/-! ### the module's functions over Shares and whole numbers -/
structure ShX (K : PySem.W.Frag) (C : Addr) : Prop extends ShT K C where
  ty : ∀ (H : Hp) (a dx : Addr) (fs : List (Str × V)), H a = some (.ins C dx fs) → TyX K H (.ref a) (.ref C)
  nInt : PySem.W.kitOne K (.type "int") (.ref C) = some false
theorem kit_self {K : PySem.W.Frag} {C : Addr} : PySem.W.kitOne K (.ref C) (.ref C) = some true := by
  unfold PySem.W.kitOne
  rw [if_pos (by simp)]
/-- v stands for q: a whole number, or a Share -/
def Rv (C : Addr) (H : Hp) (v : V) (q : Rat) : Prop := (∃ i : Int, v = .int i ∧ q = (i : Rat)) ∨ ∃ p, v = .ref p ∧ Sh C H p q
theorem Rv.same {C : Addr} {H H1 : Hp} {v : V} {q : Rat} (h : Rv C H v q) (s : Same H H1) : Rv C H1 v q := by
  rcases h with h | ⟨p, e, h⟩
  · exact .inl h
  · exact .inr ⟨p, e, h.same s⟩
theorem Rv.int {C : Addr} {H : Hp} {i : Int} : Rv C H (.int i) (i : Rat) := .inl ⟨i, rfl, rfl⟩
theorem Sh.rv {C p : Addr} {H : Hp} {q : Rat} (h : Sh C H p q) : Rv C H (.ref p) q := .inr ⟨p, rfl, h⟩
def spAs (C : Addr) : Sp := fun vs H Q _ => ∃ (v : V) (q : Rat), vs = [v] ∧ Rv C H v q ∧ Rz 8700 q ∧ ∀ p H', Same H H' → Sh C H' p q → Q (.ref p) H'
/-- a function of two that tells a Share -/
def spTwo (C : Addr) (ok : Rat → Rat → Prop) (g : Rat → Rat → Rat) : Sp := fun vs H Q _ => ∃ (v u : V) (a b : Rat), vs = [v, u] ∧ Rv C H v a ∧ Rv C H u b ∧ Rz 4300 a ∧ Rz 4300 b ∧ ok a b ∧ ∀ p H', H p = none → Same H H' → Sh C H' p (g a b) → Q (.ref p) H'
def spBefore (C : Addr) : Sp := fun vs H Q _ => ∃ (v u : V) (a b : Rat), vs = [v, u] ∧ Rv C H v a ∧ Rv C H u b ∧ Rz 4300 a ∧ Rz 4300 b ∧ ∀ H', Same H H' → Q (.bl (decide (a < b))) H'
def spOne (C : Addr) (g : Rat → Int) : Sp := fun vs H Q _ => ∃ (v : V) (a : Rat), vs = [v] ∧ Rv C H v a ∧ Rz 8700 a ∧ ∀ H', Same H H' → Q (.int (g a)) H'
theorem divInt_one (i : Int) : Rat.divInt i 1 = (i : Rat) := by
  have := Rat.num_divInt_den (i : Rat)
  exact this
section
variable {P : Program} {w : World} {K : PySem.W.Frag} {mg : Str → Option Value} {base : Heap} {C : Addr}
theorem ok_as (D : Df K mg "as_share" s_as_share []) (T : ShX K C) (his : mg "isinstance" = none) (hC : mg "Share" = some (.ref C)) (m : Ci P w K mg base CX0 2 "Share" C "Share.__init__" s_Share_init [.int 1] ["self", "top", "bottom"] (spShI C)) :
    Ca P w K mg base CX0 4 "as_share" s_as_share [] ["number"] (spAs C) := by
  refine ca0 (k := 3) D c_as_share (fun vs H Q E h => ?_) fun f cdv A outer s H vs Q E hr h => ?_
  · obtain ⟨v, q, rfl, _⟩ := h
    rfl
  · obtain ⟨v, a, rfl, hv, za, q⟩ := h
    refine ⟨_, pss_cons (ps_if (pt_val (pe_callB call_isi rfl his (by decide +kernel) (pa_cons (pv 0) (pa_cons (pe_glob (v := .ref C) rfl hC rfl) pa_nil)))) (pss_one (ps_ret (pv 0))) pss_nil)
      (pss_one (ps_ret (pe_ci m bd_Share1 (by decide) rfl hr (by decide) pass0 rfl (pa_cons (pv 0) pa_nil)))), ?_⟩
    rcases hv with ⟨i, rfl, rfl⟩ | ⟨p, rfl, hp⟩
    · refine ⟨_, rfl, _, _, _, _, _, rfl, .own C, .base (.int i), T.nInt, _, rfl, iteF ?_⟩
      refine ⟨_, rfl, ?_⟩
      refine made_sh (by decide) (za.1.mono (by decide)) (by show 1 < 2 ^ 8800; exact Nat.one_lt_two_pow (by decide)) fun p H' _ hs hp => ?_
      rw [divInt_one] at hp
      exact q p H' hs hp
    · obtain ⟨dx, e⟩ := id hp
      refine ⟨_, rfl, _, _, _, _, _, rfl, .own C, T.ty _ _ _ _ e, kit_self, _, rfl, iteT ?_⟩
      exact ⟨_, rfl, q p H (Same.refl H) hp⟩
/-- the fields of a Share at p -/
theorem rd_top {i : Nat} {σ : L2.St} {H : Hp} {p : Addr} {a : Rat} {Q : VK} (T : ShT K C) (hp : Sh C H p a) (e : σ[i]? = some (some (.ref p))) (q : Q (.int a.num) H) : tFld K (tVar i) "top" σ H Q := by
  obtain ⟨dx, h⟩ := hp
  exact ⟨_, e, p, C, dx, _, _, rfl, h, T.cl, T.nT, sf_top _ _, q⟩
theorem rd_bottom {i : Nat} {σ : L2.St} {H : Hp} {p : Addr} {a : Rat} {Q : VK} (T : ShT K C) (hp : Sh C H p a) (e : σ[i]? = some (some (.ref p))) (q : Q (.int a.den) H) : tFld K (tVar i) "bottom" σ H Q := by
  obtain ⟨dx, h⟩ := hp
  exact ⟨_, e, p, C, dx, _, _, rfl, h, T.cl, T.nB, sf_bottom _ _, q⟩
end
section
variable {P : Program} {w : World} {K : PySem.W.Frag} {mg : Str → Option Value} {base : Heap} {C : Addr}

theorem ok_plus (D : Df K mg "plus" s_plus []) (T : ShX K C) (a : Ca P w K mg base CX0 4 "as_share" s_as_share [] ["number"] (spAs C)) (m : Ci P w K mg base CX0 2 "Share" C "Share.__init__" s_Share_init [.int 1] ["self", "top", "bottom"] (spShI C)) :
    Ca P w K mg base CX0 5 "plus" s_plus [] ["one", "two"] (spTwo C (fun _ _ => True) (fun a b => a + b)) := by
  refine ca0 (k := 4) D c_plus (fun vs H Q E h => ?_) fun f cdv A outer s H vs Q E hr h => ?_
  · obtain ⟨v, u, x, y, rfl, _⟩ := h
    rfl
  · obtain ⟨v, u, x, y, rfl, hv, hu, zx, zy, ok, q⟩ := h
    refine ⟨_, pss_cons (ps_set (i := 2) c_plus.nd rfl (.inl rfl) (pe_ca a b_as_share hr (by decide) pass0 rfl (pa_cons (pv 0) pa_nil)))
      (pss_cons (ps_set (i := 3) c_plus.nd rfl (.inl rfl) (pe_ca a b_as_share hr (by decide) pass0 rfl (pa_cons (pv 1) pa_nil)))
      (pss_one (ps_ret (pe_ci m bd_Share2 (by decide) rfl hr (by decide) pass0 rfl (pa_cons (pe_op op_add (pe_op op_mulA (pe_fld (pv 2) rfl) (pe_fld (pv 3) rfl)) (pe_op op_mulA (pe_fld (pv 3) rfl) (pe_fld (pv 2) rfl))) (pa_cons (pe_op op_mulA (pe_fld (pv 2) rfl) (pe_fld (pv 3) rfl)) pa_nil)))))), ?_⟩
    refine ⟨_, rfl, v, x, rfl, hv, zx.mono (by decide), fun p1 H1 s1 h1 => ?_⟩
    refine ⟨_, rfl, u, y, rfl, hu.same s1, zy.mono (by decide), fun p2 H2 s2 h2 => ?_⟩
    obtain ⟨d1, e1⟩ := h1.same s2
    obtain ⟨d2, e2⟩ := h2
    have mz : ∀ i j : Int, Sz 4300 i → Sz 4300 j → CMulA i j := fun i j hi hj => ⟨hi.mono (by decide), hj.mono (by decide)⟩
    refine ⟨_, rfl, p1, C, d1, _, _, rfl, e1, T.cl, T.nT, sf_top _ _, _, rfl, p2, C, d2, _, _, rfl, e2, T.cl, T.nB, sf_bottom _ _, _, _, rfl, rfl, mz _ _ zx.1 zy.2, _, rfl, p2, C, d2, _, _, rfl, e2, T.cl, T.nT, sf_top _ _, _, rfl, p1, C, d1, _, _, rfl, e1, T.cl, T.nB, sf_bottom _ _, _, _, rfl, rfl, mz _ _ zy.1 zx.2, _, _, rfl, rfl, _, rfl, p1, C, d1, _, _, rfl, e1, T.cl, T.nB, sf_bottom _ _, _, rfl, p2, C, d2, _, _, rfl, e2, T.cl, T.nB, sf_bottom _ _, _, _, rfl, rfl, mz _ _ zx.2 zy.2, ?_⟩
    refine made_sh (Int.ne_of_gt (Int.mul_pos (den_pos x) (den_pos y))) (Sz.add (n := 8600) ((zx.1.mul zy.2).mono (by decide)) ((zy.1.mul zx.2).mono (by decide)) (by decide)) ((zx.2.mul zy.2).mono (by decide)) fun p H' hp hs hq => ?_
    refine q p H' ((s1.trans s2).free hp) (s1.trans (s2.trans hs)) ?_
    exact (congrArg (Sh C H' p) (add_eq x y)).mpr hq


theorem ok_minus (D : Df K mg "minus" s_minus []) (T : ShX K C) (a : Ca P w K mg base CX0 4 "as_share" s_as_share [] ["number"] (spAs C)) (m : Ci P w K mg base CX0 2 "Share" C "Share.__init__" s_Share_init [.int 1] ["self", "top", "bottom"] (spShI C)) :
    Ca P w K mg base CX0 5 "minus" s_minus [] ["one", "two"] (spTwo C (fun _ _ => True) (fun a b => a - b)) := by
  refine ca0 (k := 4) D c_minus (fun vs H Q E h => ?_) fun f cdv A outer s H vs Q E hr h => ?_
  · obtain ⟨v, u, x, y, rfl, _⟩ := h
    rfl
  · obtain ⟨v, u, x, y, rfl, hv, hu, zx, zy, ok, q⟩ := h
    refine ⟨_, pss_cons (ps_set (i := 2) c_minus.nd rfl (.inl rfl) (pe_ca a b_as_share hr (by decide) pass0 rfl (pa_cons (pv 0) pa_nil)))
      (pss_cons (ps_set (i := 3) c_minus.nd rfl (.inl rfl) (pe_ca a b_as_share hr (by decide) pass0 rfl (pa_cons (pv 1) pa_nil)))
      (pss_one (ps_ret (pe_ci m bd_Share2 (by decide) rfl hr (by decide) pass0 rfl (pa_cons (pe_op op_sub (pe_op op_mulA (pe_fld (pv 2) rfl) (pe_fld (pv 3) rfl)) (pe_op op_mulA (pe_fld (pv 3) rfl) (pe_fld (pv 2) rfl))) (pa_cons (pe_op op_mulA (pe_fld (pv 2) rfl) (pe_fld (pv 3) rfl)) pa_nil)))))), ?_⟩
    refine ⟨_, rfl, v, x, rfl, hv, zx.mono (by decide), fun p1 H1 s1 h1 => ?_⟩
    refine ⟨_, rfl, u, y, rfl, hu.same s1, zy.mono (by decide), fun p2 H2 s2 h2 => ?_⟩
    obtain ⟨d1, e1⟩ := h1.same s2
    obtain ⟨d2, e2⟩ := h2
    have mz : ∀ i j : Int, Sz 4300 i → Sz 4300 j → CMulA i j := fun i j hi hj => ⟨hi.mono (by decide), hj.mono (by decide)⟩
    refine ⟨_, rfl, p1, C, d1, _, _, rfl, e1, T.cl, T.nT, sf_top _ _, _, rfl, p2, C, d2, _, _, rfl, e2, T.cl, T.nB, sf_bottom _ _, _, _, rfl, rfl, mz _ _ zx.1 zy.2, _, rfl, p2, C, d2, _, _, rfl, e2, T.cl, T.nT, sf_top _ _, _, rfl, p1, C, d1, _, _, rfl, e1, T.cl, T.nB, sf_bottom _ _, _, _, rfl, rfl, mz _ _ zy.1 zx.2, _, _, rfl, rfl, _, rfl, p1, C, d1, _, _, rfl, e1, T.cl, T.nB, sf_bottom _ _, _, rfl, p2, C, d2, _, _, rfl, e2, T.cl, T.nB, sf_bottom _ _, _, _, rfl, rfl, mz _ _ zx.2 zy.2, ?_⟩
    refine made_sh (Int.ne_of_gt (Int.mul_pos (den_pos x) (den_pos y))) (Sz.sub (n := 8600) ((zx.1.mul zy.2).mono (by decide)) ((zy.1.mul zx.2).mono (by decide)) (by decide)) ((zx.2.mul zy.2).mono (by decide)) fun p H' hp hs hq => ?_
    refine q p H' ((s1.trans s2).free hp) (s1.trans (s2.trans hs)) ?_
    exact (congrArg (Sh C H' p) (sub_eq x y)).mpr hq


theorem ok_times (D : Df K mg "times" s_times []) (T : ShX K C) (a : Ca P w K mg base CX0 4 "as_share" s_as_share [] ["number"] (spAs C)) (m : Ci P w K mg base CX0 2 "Share" C "Share.__init__" s_Share_init [.int 1] ["self", "top", "bottom"] (spShI C)) :
    Ca P w K mg base CX0 5 "times" s_times [] ["one", "two"] (spTwo C (fun _ _ => True) (fun a b => a * b)) := by
  refine ca0 (k := 4) D c_times (fun vs H Q E h => ?_) fun f cdv A outer s H vs Q E hr h => ?_
  · obtain ⟨v, u, x, y, rfl, _⟩ := h
    rfl
  · obtain ⟨v, u, x, y, rfl, hv, hu, zx, zy, ok, q⟩ := h
    refine ⟨_, pss_cons (ps_set (i := 2) c_times.nd rfl (.inl rfl) (pe_ca a b_as_share hr (by decide) pass0 rfl (pa_cons (pv 0) pa_nil)))
      (pss_cons (ps_set (i := 3) c_times.nd rfl (.inl rfl) (pe_ca a b_as_share hr (by decide) pass0 rfl (pa_cons (pv 1) pa_nil)))
      (pss_one (ps_ret (pe_ci m bd_Share2 (by decide) rfl hr (by decide) pass0 rfl (pa_cons (pe_op op_mulA (pe_fld (pv 2) rfl) (pe_fld (pv 3) rfl)) (pa_cons (pe_op op_mulA (pe_fld (pv 2) rfl) (pe_fld (pv 3) rfl)) pa_nil)))))), ?_⟩
    refine ⟨_, rfl, v, x, rfl, hv, zx.mono (by decide), fun p1 H1 s1 h1 => ?_⟩
    refine ⟨_, rfl, u, y, rfl, hu.same s1, zy.mono (by decide), fun p2 H2 s2 h2 => ?_⟩
    obtain ⟨d1, e1⟩ := h1.same s2
    obtain ⟨d2, e2⟩ := h2
    have mz : ∀ i j : Int, Sz 4300 i → Sz 4300 j → CMulA i j := fun i j hi hj => ⟨hi.mono (by decide), hj.mono (by decide)⟩
    refine ⟨_, rfl, p1, C, d1, _, _, rfl, e1, T.cl, T.nT, sf_top _ _, _, rfl, p2, C, d2, _, _, rfl, e2, T.cl, T.nT, sf_top _ _, _, _, rfl, rfl, mz _ _ zx.1 zy.1, _, rfl, p1, C, d1, _, _, rfl, e1, T.cl, T.nB, sf_bottom _ _, _, rfl, p2, C, d2, _, _, rfl, e2, T.cl, T.nB, sf_bottom _ _, _, _, rfl, rfl, mz _ _ zx.2 zy.2, ?_⟩
    refine made_sh (Int.ne_of_gt (Int.mul_pos (den_pos x) (den_pos y))) ((zx.1.mul zy.1).mono (by decide)) ((zx.2.mul zy.2).mono (by decide)) fun p H' hp hs hq => ?_
    refine q p H' ((s1.trans s2).free hp) (s1.trans (s2.trans hs)) ?_
    exact (congrArg (Sh C H' p) (mul_eq x y)).mpr hq


theorem ok_over (D : Df K mg "over" s_over []) (T : ShX K C) (a : Ca P w K mg base CX0 4 "as_share" s_as_share [] ["number"] (spAs C)) (m : Ci P w K mg base CX0 2 "Share" C "Share.__init__" s_Share_init [.int 1] ["self", "top", "bottom"] (spShI C)) :
    Ca P w K mg base CX0 5 "over" s_over [] ["one", "two"] (spTwo C (fun _ b => b ≠ 0) (fun a b => a / b)) := by
  refine ca0 (k := 4) D c_over (fun vs H Q E h => ?_) fun f cdv A outer s H vs Q E hr h => ?_
  · obtain ⟨v, u, x, y, rfl, _⟩ := h
    rfl
  · obtain ⟨v, u, x, y, rfl, hv, hu, zx, zy, ok, q⟩ := h
    refine ⟨_, pss_cons (ps_set (i := 2) c_over.nd rfl (.inl rfl) (pe_ca a b_as_share hr (by decide) pass0 rfl (pa_cons (pv 0) pa_nil)))
      (pss_cons (ps_set (i := 3) c_over.nd rfl (.inl rfl) (pe_ca a b_as_share hr (by decide) pass0 rfl (pa_cons (pv 1) pa_nil)))
      (pss_one (ps_ret (pe_ci m bd_Share2 (by decide) rfl hr (by decide) pass0 rfl (pa_cons (pe_op op_mulA (pe_fld (pv 2) rfl) (pe_fld (pv 3) rfl)) (pa_cons (pe_op op_mulA (pe_fld (pv 2) rfl) (pe_fld (pv 3) rfl)) pa_nil)))))), ?_⟩
    refine ⟨_, rfl, v, x, rfl, hv, zx.mono (by decide), fun p1 H1 s1 h1 => ?_⟩
    refine ⟨_, rfl, u, y, rfl, hu.same s1, zy.mono (by decide), fun p2 H2 s2 h2 => ?_⟩
    obtain ⟨d1, e1⟩ := h1.same s2
    obtain ⟨d2, e2⟩ := h2
    have mz : ∀ i j : Int, Sz 4300 i → Sz 4300 j → CMulA i j := fun i j hi hj => ⟨hi.mono (by decide), hj.mono (by decide)⟩
    refine ⟨_, rfl, p1, C, d1, _, _, rfl, e1, T.cl, T.nT, sf_top _ _, _, rfl, p2, C, d2, _, _, rfl, e2, T.cl, T.nB, sf_bottom _ _, _, _, rfl, rfl, mz _ _ zx.1 zy.2, _, rfl, p1, C, d1, _, _, rfl, e1, T.cl, T.nB, sf_bottom _ _, _, rfl, p2, C, d2, _, _, rfl, e2, T.cl, T.nT, sf_top _ _, _, _, rfl, rfl, mz _ _ zx.2 zy.1, ?_⟩
    refine made_sh (Int.mul_ne_zero (Int.ne_of_gt (den_pos x)) (fun z => ok (Rat.num_eq_zero.mp z))) ((zx.1.mul zy.2).mono (by decide)) ((zx.2.mul zy.1).mono (by decide)) fun p H' hp hs hq => ?_
    refine q p H' ((s1.trans s2).free hp) (s1.trans (s2.trans hs)) ?_
    exact (congrArg (Sh C H' p) (div_eq x y ok)).mpr hq


theorem ok_before (D : Df K mg "before" s_before []) (T : ShX K C) (a : Ca P w K mg base CX0 4 "as_share" s_as_share [] ["number"] (spAs C)) : Ca P w K mg base CX0 5 "before" s_before [] ["one", "two"] (spBefore C) := by
  refine ca0 (k := 4) D c_before (fun vs H Q E h => ?_) fun f cdv A outer s H vs Q E hr h => ?_
  · obtain ⟨v, u, x, y, rfl, _⟩ := h
    rfl
  · obtain ⟨v, u, x, y, rfl, hv, hu, zx, zy, q⟩ := h
    refine ⟨_, pss_cons (ps_set (i := 2) c_before.nd rfl (.inl rfl) (pe_ca a b_as_share hr (by decide) pass0 rfl (pa_cons (pv 0) pa_nil)))
      (pss_cons (ps_set (i := 3) c_before.nd rfl (.inl rfl) (pe_ca a b_as_share hr (by decide) pass0 rfl (pa_cons (pv 1) pa_nil)))
      (pss_one (ps_ret (pe_cmpR op_lt (pe_op op_mulA (pe_fld (pv 2) rfl) (pe_fld (pv 3) rfl)) (pe_op op_mulA (pe_fld (pv 3) rfl) (pe_fld (pv 2) rfl)) (nomark _))))), ?_⟩
    refine ⟨_, rfl, v, x, rfl, hv, zx.mono (by decide), fun p1 H1 s1 h1 => ?_⟩
    refine ⟨_, rfl, u, y, rfl, hu.same s1, zy.mono (by decide), fun p2 H2 s2 h2 => ?_⟩
    obtain ⟨d1, e1⟩ := h1.same s2
    obtain ⟨d2, e2⟩ := h2
    have mz : ∀ i j : Int, Sz 4300 i → Sz 4300 j → CMulA i j := fun i j hi hj => ⟨hi.mono (by decide), hj.mono (by decide)⟩
    refine ⟨_, rfl, p1, C, d1, _, _, rfl, e1, T.cl, T.nT, sf_top _ _, _, rfl, p2, C, d2, _, _, rfl, e2, T.cl, T.nB, sf_bottom _ _, _, _, rfl, rfl, mz _ _ zx.1 zy.2, _, rfl, p2, C, d2, _, _, rfl, e2, T.cl, T.nT, sf_top _ _, _, rfl, p1, C, d1, _, _, rfl, e1, T.cl, T.nB, sf_bottom _ _, _, _, rfl, rfl, mz _ _ zy.1 zx.2, _, _, rfl, rfl, ?_⟩
    have e : decide (x.num * (y.den : Int) < y.num * (x.den : Int)) = decide (x < y) := by
      rw [decide_eq_decide]
      exact (lt_iff' x y).symm
    show Q (V.bl (decide (x.num * (y.den : Int) < y.num * (x.den : Int)))) _
    rw [e]
    exact q H2 (s1.trans s2)


theorem ok_whole (D : Df K mg "whole" s_whole []) (T : ShX K C) (a : Ca P w K mg base CX0 4 "as_share" s_as_share [] ["number"] (spAs C)) : Ca P w K mg base CX0 5 "whole" s_whole [] ["share"] (spOne C Rat.floor) := by
  refine ca0 (k := 4) D c_whole (fun vs H Q E h => ?_) fun f cdv A outer s H vs Q E hr h => ?_
  · obtain ⟨v, x, rfl, _⟩ := h
    rfl
  · obtain ⟨v, x, rfl, hv, zx, q⟩ := h
    refine ⟨_, pss_cons (ps_set (i := 1) c_whole.nd rfl (.inl rfl) (pe_ca a b_as_share hr (by decide) pass0 rfl (pa_cons (pv 0) pa_nil)))
      (pss_one (ps_ret (pe_op op_fdivA (pe_fld (pv 1) rfl) (pe_fld (pv 1) rfl)))), ?_⟩
    refine ⟨_, rfl, v, x, rfl, hv, zx, fun p1 H1 s1 h1 => ?_⟩
    obtain ⟨d1, e1⟩ := h1
    refine ⟨_, rfl, p1, C, d1, _, _, rfl, e1, T.cl, T.nT, sf_top _ _, _, rfl, p1, C, d1, _, _, rfl, e1, T.cl, T.nB, sf_bottom _ _, _, _, rfl, rfl, ⟨Int.ne_of_gt (den_pos x), zx.2.mono (by decide)⟩, ?_⟩
    have e : x.num.fdiv (x.den : Int) = x.floor := by rw [Rat.floor_def, Int.fdiv_eq_ediv_of_nonneg _ (Int.le_of_lt (den_pos x))]
    show Q (V.int (x.num.fdiv (x.den : Int))) _
    rw [e]
    exact q H1 s1
end
section
variable {P : Program} {w : World} {K : PySem.W.Frag} {mg : Str → Option Value} {base : Heap} {C : Addr}
theorem ok_rounded (D : Df K mg "rounded_up" s_rounded_up []) (T : ShX K C) (a : Ca P w K mg base CX0 4 "as_share" s_as_share [] ["number"] (spAs C)) : Ca P w K mg base CX0 5 "rounded_up" s_rounded_up [] ["share"] (spOne C Rat.ceil) := by
  refine ca0 (k := 4) D c_rounded_up (fun vs H Q E h => ?_) fun f cdv A outer s H vs Q E hr h => ?_
  · obtain ⟨v, x, rfl, _⟩ := h
    rfl
  · obtain ⟨v, x, rfl, hv, zx, q⟩ := h
    refine ⟨_, pss_cons (ps_set (i := 1) c_rounded_up.nd rfl (.inl rfl) (pe_ca a b_as_share hr (by decide) pass0 rfl (pa_cons (pv 0) pa_nil)))
      (pss_one (ps_ret (pe_un un_neg (pe_op op_fdivA (pe_un un_neg (pe_fld (pv 1) rfl)) (pe_fld (pv 1) rfl))))), ?_⟩
    refine ⟨_, rfl, v, x, rfl, hv, zx, fun p1 H1 s1 h1 => ?_⟩
    obtain ⟨d1, e1⟩ := h1
    refine ⟨_, rfl, p1, C, d1, _, _, rfl, e1, T.cl, T.nT, sf_top _ _, _, rfl, _, rfl, p1, C, d1, _, _, rfl, e1, T.cl, T.nB, sf_bottom _ _, _, _, rfl, rfl, ⟨Int.ne_of_gt (den_pos x), zx.2.mono (by decide)⟩, _, rfl, ?_⟩
    have e : -((-x.num).fdiv (x.den : Int)) = x.ceil := by rw [Int.fdiv_eq_ediv_of_nonneg _ (Int.le_of_lt (den_pos x)), neg_div_ceil]
    show Q (V.int (-((-x.num).fdiv (x.den : Int)))) _
    rw [e]
    exact q H1 s1
end
/-! ### Calendar's helpers -/
theorem twelve_ne : ((12 : Int) : Rat) ≠ 0 := by decide
theorem szi {n : Nat} (i : Int) (h : i.natAbs < 2 ^ n := by decide) : Sz n i := h
def spTw (C : Addr) : Sp := fun vs H Q _ => ∃ (v : V) (a : Rat), vs = [v] ∧ Rv C H v a ∧ Rz 4000 a ∧ ∀ p H', H p = none → Same H H' → Sh C H' p (a / 12) → Q (.ref p) H'
def spNth (C : Addr) : Sp := fun vs H Q _ => ∃ (v u : V) (a b : Rat) (n : Int), vs = [v, u, .int n] ∧ Rv C H v a ∧ Rv C H u b ∧ Rz 600 a ∧ Rz 600 b ∧ Sz 3000 n ∧ ∀ H', Same H H' → Q (.int (a + n * b).floor) H'
def spFrom (C : Addr) : Sp := fun vs H Q _ => ∃ (v u : V) (a b : Rat) (n : Int), vs = [v, u, .int n] ∧ Rv C H v a ∧ Rv C H u b ∧ Rz 600 a ∧ Rz 600 b ∧ Sz 3000 n ∧ b ≠ 0 ∧ ∀ H', Same H H' → Q (.int (((n : Rat) - a) / b).ceil) H'
def spUnfit (C : Addr) : Sp := fun vs H Q _ => ∃ (v u : V) (m y : Rat), vs = [v, u] ∧ Rv C H v m ∧ Rv C H u y ∧ Rz 600 m ∧ Rz 600 y ∧ Fit m y ∧ ∀ H', Same H H' → Q .non H'
/-- a moment that may not be told -/
def Mv (C : Addr) (H : Hp) (v : V) (q : Rat) : Prop := (v = .non ∧ q = 0) ∨ Rv C H v q
theorem Mv.same {C : Addr} {H H1 : Hp} {v : V} {q : Rat} (h : Mv C H v q) (s : Same H H1) : Mv C H1 v q := by
  rcases h with h | h
  · exact .inl h
  · exact .inr (h.same s)
def spMoment (C : Addr) : Sp := fun vs H Q _ => ∃ (v : V) (q : Rat), vs = [v] ∧ Mv C H v q ∧ Rz 600 q ∧ ∀ p H', Same H H' → Sh C H' p q → Q (.ref p) H'
/-- the functions over Shares that Calendar uses -/
structure ShF (P : Program) (w : World) (K : PySem.W.Frag) (mg : Str → Option Value) (base : Heap) (C : Addr) : Prop where
  T : ShX K C
  mkS : Ci P w K mg base CX0 2 "Share" C "Share.__init__" s_Share_init [.int 1] ["self", "top", "bottom"] (spShI C)
  asS : Ca P w K mg base CX0 4 "as_share" s_as_share [] ["number"] (spAs C)
  plus : Ca P w K mg base CX0 5 "plus" s_plus [] ["one", "two"] (spTwo C (fun _ _ => True) (fun a b => a + b))
  minus : Ca P w K mg base CX0 5 "minus" s_minus [] ["one", "two"] (spTwo C (fun _ _ => True) (fun a b => a - b))
  times : Ca P w K mg base CX0 5 "times" s_times [] ["one", "two"] (spTwo C (fun _ _ => True) (fun a b => a * b))
  over : Ca P w K mg base CX0 5 "over" s_over [] ["one", "two"] (spTwo C (fun _ b => b ≠ 0) (fun a b => a / b))
  before : Ca P w K mg base CX0 5 "before" s_before [] ["one", "two"] (spBefore C)
  whole : Ca P w K mg base CX0 5 "whole" s_whole [] ["share"] (spOne C Rat.floor)
  up : Ca P w K mg base CX0 5 "rounded_up" s_rounded_up [] ["share"] (spOne C Rat.ceil)
  marks : ∃ t, mg "MARKS" = some (.int 12 t)
section
variable {P : Program} {w : World} {K : PySem.W.Frag} {mg : Str → Option Value} {base : Heap} {C : Addr}
theorem ok_tw (D : Df K mg "twelfth" s_twelfth []) (F : ShF P w K mg base C) : Ca P w K mg base CX0 6 "twelfth" s_twelfth [] ["year"] (spTw C) := by
  refine ca0 (k := 5) D c_twelfth (fun vs H Q E h => ?_) fun f cdv A outer s H vs Q E hr h => ?_
  · obtain ⟨v, q, rfl, _⟩ := h
    rfl
  · obtain ⟨v, a, rfl, hv, za, q⟩ := h
    obtain ⟨tk, hM⟩ := F.marks
    refine ⟨_, pss_one (ps_ret (pe_ca F.over b_over hr (by decide) pass0 rfl (pa_cons (pv 0) (pa_cons (pe_glob (v := .int 12) rfl hM ⟨_, rfl⟩) pa_nil)))), ?_⟩
    exact ⟨_, rfl, v, .int 12, a, _, rfl, hv, Rv.int, za.mono (by decide), Rz.int (szi 12) (by decide), twelve_ne, q⟩
end
section
variable {P : Program} {w : World} {K : PySem.W.Frag} {mg : Str → Option Value} {base : Heap} {C : Addr}
theorem ok_nth (D : Df K mg "nth_day" s_nth_day []) (F : ShF P w K mg base C) : Ca P w K mg base CX0 6 "nth_day" s_nth_day [] ["first", "step", "n"] (spNth C) := by
  refine ca0 (k := 5) D c_nth_day (fun vs H Q E h => ?_) fun f cdv A outer s H vs Q E hr h => ?_
  · obtain ⟨v, u, a, b, n, rfl, _⟩ := h
    rfl
  · obtain ⟨v, u, a, b, n, rfl, hv, hu, za, zb, zn, q⟩ := h
    refine ⟨_, pss_one (ps_ret (pe_ca F.whole b_whole hr (by decide) pass0 rfl (pa_cons (pe_ca F.plus b_plus hr (by decide) pass0 rfl (pa_cons (pv 0) (pa_cons (pe_ca F.times b_times hr (by decide) pass0 rfl (pa_cons (pv 2) (pa_cons (pv 1) pa_nil))) pa_nil))) pa_nil))), ?_⟩
    have zi : Rz 3000 (n : Rat) := Rz.int zn (by decide)
    refine ⟨_, rfl, _, rfl, _, rfl, .int n, u, n, b, rfl, Rv.int, hu, zi.mono (by decide), zb.mono (by decide), trivial, fun p1 H1 n1 s1 h1 => ?_⟩
    have z1 : Rz 3700 (n * b) := zi.mul zb (by decide)
    refine ⟨v, .ref p1, a, _, rfl, hv.same s1, h1.rv, za.mono (by decide), z1.mono (by decide), trivial, fun p2 H2 n2 s2 h2 => ?_⟩
    have z2 : Rz 4500 (a + n * b) := za.add z1 (by decide)
    exact ⟨.ref p2, _, rfl, h2.rv, z2.mono (by decide), fun H3 s3 => q H3 (s1.trans (s2.trans s3))⟩
end
section
variable {P : Program} {w : World} {K : PySem.W.Frag} {mg : Str → Option Value} {base : Heap} {C : Addr}
theorem ok_from (D : Df K mg "first_from" s_first_from []) (F : ShF P w K mg base C) : Ca P w K mg base CX0 6 "first_from" s_first_from [] ["first", "step", "day"] (spFrom C) := by
  refine ca0 (k := 5) D c_first_from (fun vs H Q E h => ?_) fun f cdv A outer s H vs Q E hr h => ?_
  · obtain ⟨v, u, a, b, n, rfl, _⟩ := h
    rfl
  · obtain ⟨v, u, a, b, n, rfl, hv, hu, za, zb, zn, nb, q⟩ := h
    refine ⟨_, pss_one (ps_ret (pe_ca F.up b_rounded_up hr (by decide) pass0 rfl (pa_cons (pe_ca F.over b_over hr (by decide) pass0 rfl (pa_cons (pe_ca F.minus b_minus hr (by decide) pass0 rfl (pa_cons (pv 2) (pa_cons (pv 0) pa_nil))) (pa_cons (pv 1) pa_nil))) pa_nil))), ?_⟩
    have zi : Rz 3000 (n : Rat) := Rz.int zn (by decide)
    refine ⟨_, rfl, _, rfl, .int n, v, n, a, rfl, Rv.int, hv, zi.mono (by decide), za.mono (by decide), trivial, fun p1 H1 n1 s1 h1 => ?_⟩
    have z1 : Rz 3700 ((n : Rat) - a) := zi.sub za (by decide)
    refine ⟨_, rfl, .ref p1, u, _, b, rfl, h1.rv, hu.same s1, z1.mono (by decide), zb.mono (by decide), nb, fun p2 H2 n2 s2 h2 => ?_⟩
    have z2 : Rz 4500 (((n : Rat) - a) / b) := z1.div zb nb (by decide)
    exact ⟨.ref p2, _, rfl, h2.rv, z2.mono (by decide), fun H3 s3 => q H3 (s1.trans (s2.trans s3))⟩
end
section
variable {P : Program} {w : World} {K : PySem.W.Frag} {mg : Str → Option Value} {base : Heap} {C : Addr}
theorem ok_moment (D : Df K mg "moment_or_nought" s_moment_or_nought []) (F : ShF P w K mg base C) : Ca P w K mg base CX0 6 "moment_or_nought" s_moment_or_nought [] ["moment"] (spMoment C) := by
  refine ca0 (k := 5) D c_moment_or_nought (fun vs H Q E h => ?_) fun f cdv A outer s H vs Q E hr h => ?_
  · obtain ⟨v, q, rfl, _⟩ := h
    rfl
  · obtain ⟨v, a, rfl, hv, za, q⟩ := h
    refine ⟨_, pss_cons (ps_if (pt_cmp (pc_isN (pv 0))) (pss_one (ps_ret (pe_ci F.mkS bd_Share1 (by decide) rfl hr (by decide) pass0 rfl (pa_cons pe_int pa_nil)))) pss_nil)
      (pss_one (ps_ret (pe_ca F.asS b_as_share hr (by decide) pass0 rfl (pa_cons (pv 0) pa_nil)))), ?_⟩
    rcases hv with ⟨rfl, rfl⟩ | hv
    · refine ⟨_, rfl, _, rfl, iteT ?_⟩
      refine made_sh (by decide) (szi 0) (szi 1) fun p H' _ hs hp => ?_
      rw [divInt_one] at hp
      exact q p H' hs hp
    · have hn : v ≠ .non := by
        rcases hv with ⟨i, rfl, _⟩ | ⟨p, rfl, _⟩ <;> exact fun z => nomatch z
      refine ⟨_, rfl, _, rfl, ?_⟩
      rw [decide_eq_false hn]
      refine iteF ?_
      exact ⟨_, rfl, v, a, rfl, hv, za.mono (by decide), q⟩
end
section
variable {P : Program} {w : World} {K : PySem.W.Frag} {mg : Str → Option Value} {base : Heap} {C : Addr}
theorem ok_unfit (D : Df K mg "refuse_unfit" s_refuse_unfit []) (F : ShF P w K mg base C) (tw : Ca P w K mg base CX0 6 "twelfth" s_twelfth [] ["year"] (spTw C)) : Ca P w K mg base CX0 7 "refuse_unfit" s_refuse_unfit [] ["month", "year"] (spUnfit C) := by
  refine ca0 (k := 6) D c_refuse_unfit (fun vs H Q E h => ?_) fun f cdv A outer s H vs Q E hr h => ?_
  · obtain ⟨v, u, m, y, rfl, _⟩ := h
    rfl
  · obtain ⟨v, u, m, y, rfl, hv, hu, zm, zy, ft, q⟩ := h
    obtain ⟨tk, hM⟩ := F.marks
    refine ⟨_, pss_cons (ps_if (pt_val (pe_ca F.before b_before hr (by decide) pass0 rfl (pa_cons (pv 0) (pa_cons pe_int pa_nil)))) (pss_one ps_never) pss_nil)
      (pss_cons (ps_if (pt_val (pe_ca F.before b_before hr (by decide) pass0 rfl (pa_cons (pe_ca tw b_twelfth hr (by decide) pass0 rfl (pa_cons (pv 1) pa_nil)) (pa_cons (pe_ca F.up b_rounded_up hr (by decide) pass0 rfl (pa_cons (pv 0) pa_nil)) pa_nil)))) (pss_one ps_never) pss_nil)
      (pss_one (ps_if (pt_val (pe_ca F.before b_before hr (by decide) pass0 rfl (pa_cons (pe_ca F.times b_times hr (by decide) pass0 rfl (pa_cons (pe_op op_add (pe_glob (v := .int 12) rfl hM ⟨_, rfl⟩) pe_int) (pa_cons (pv 0) pa_nil)))
        (pa_cons (pe_ca F.plus b_plus hr (by decide) pass0 rfl (pa_cons (pv 1) (pa_cons pe_int pa_nil))) pa_nil)))) (pss_one ps_never) pss_nil))), ?_⟩
    refine ⟨_, rfl, v, .int 1, m, _, rfl, hv, Rv.int, zm.mono (by decide), Rz.int (szi 1) (by decide), fun H1 s1 => ⟨_, rfl, ?_⟩⟩
    rw [decide_eq_false (show ¬ m < ((1 : Int) : Rat) from Rat.not_lt.mpr ft.one)]
    refine iteF ?_
    refine ⟨_, rfl, u, y, rfl, hu.same s1, zy.mono (by decide), fun p2 H2 n2 s2 h2 => ?_⟩
    refine ⟨_, rfl, v, m, rfl, hv.same (s1.trans s2), zm.mono (by decide), fun H3 s3 => ?_⟩
    have z2 : Rz 700 (y / 12) := zy.div (l := 4) (Rz.int (szi 12) (by decide)) twelve_ne (by decide)
    refine ⟨.ref p2, .int m.ceil, _, _, rfl, (h2.same s3).rv, Rv.int, z2.mono (by decide), Rz.int ((Sz.ceil zm).mono (by decide)) (by decide), fun H4 s4 => ⟨_, rfl, ?_⟩⟩
    rw [decide_eq_false (show ¬ y / 12 < (m.ceil : Rat) from Rat.not_lt.mpr ft.between)]
    refine iteF ?_
    have s14 : Same H H4 := s1.trans (s2.trans (s3.trans s4))
    refine ⟨_, _, rfl, rfl, _, rfl, .int 13, v, _, m, rfl, Rv.int, hv.same s14, Rz.int (szi 13) (by decide), zm.mono (by decide), trivial, fun p5 H5 n5 s5 h5 => ?_⟩
    refine ⟨_, rfl, u, .int 1, y, _, rfl, hu.same (s14.trans s5), Rv.int, zy.mono (by decide), Rz.int (szi 1) (by decide), trivial, fun p6 H6 n6 s6 h6 => ?_⟩
    have z5 : Rz 700 (((13 : Int) : Rat) * m) := Rz.mul (n := 4) (Rz.int (szi 13) (by decide)) zm (by decide)
    have z6 : Rz 700 (y + ((1 : Int) : Rat)) := zy.add (l := 1) (Rz.int (szi 1) (by decide)) (by decide)
    refine ⟨.ref p5, .ref p6, _, _, rfl, (h5.same s6).rv, h6.rv, z5.mono (by decide), z6.mono (by decide), fun H7 s7 => ⟨_, rfl, ?_⟩⟩
    rw [decide_eq_false (show ¬ ((13 : Int) : Rat) * m < y + ((1 : Int) : Rat) from Rat.not_lt.mpr ft.thirteen)]
    refine iteF ?_
    exact q H7 (s14.trans (s5.trans (s6.trans s7)))
end
/-! ### Calendar -/
def cfs (a b c d : Addr) : List (Str × V) := putF "mark" (.ref d) (putF "moon" (.ref c) (putF "year" (.ref b) (putF "month" (.ref a) [])))
theorem my_ : ¬ (("month" : Str) = "year") := by decide +kernel
theorem mm_ : ¬ (("month" : Str) = "moon") := by decide +kernel
theorem mk_ : ¬ (("month" : Str) = "mark") := by decide +kernel
theorem ym_ : ¬ (("year" : Str) = "moon") := by decide +kernel
theorem yk_ : ¬ (("year" : Str) = "mark") := by decide +kernel
theorem ok_ : ¬ (("moon" : Str) = "mark") := by decide +kernel
theorem cf_month (a b c d : Addr) : (cfs a b c d).lookup ("month" : Str) = some (.ref a) := by
  unfold cfs
  rw [lookup_putF, if_neg mk_, lookup_putF, if_neg mm_, lookup_putF, if_neg my_, lookup_putF, if_pos rfl]
theorem cf_year (a b c d : Addr) : (cfs a b c d).lookup ("year" : Str) = some (.ref b) := by
  unfold cfs
  rw [lookup_putF, if_neg yk_, lookup_putF, if_neg ym_, lookup_putF, if_pos rfl]
theorem cf_moon (a b c d : Addr) : (cfs a b c d).lookup ("moon" : Str) = some (.ref c) := by
  unfold cfs
  rw [lookup_putF, if_neg ok_, lookup_putF, if_pos rfl]
theorem cf_mark (a b c d : Addr) : (cfs a b c d).lookup ("mark" : Str) = some (.ref d) := by
  unfold cfs
  rw [lookup_putF, if_pos rfl]
theorem cf_no (a b c d : Addr) {m : Str} (h1 : ¬ m = "mark" := by decide +kernel) (h2 : ¬ m = "moon" := by decide +kernel) (h3 : ¬ m = "year" := by decide +kernel) (h4 : ¬ m = "month" := by decide +kernel) : (cfs a b c d).lookup m = none := by
  unfold cfs
  rw [lookup_putF, if_neg h1, lookup_putF, if_neg h2, lookup_putF, if_neg h3, lookup_putF, if_neg h4]
  rfl
structure CaT (K : PySem.W.Frag) (C Cc : Addr) : Prop where
  cl : Cls K Cc
  n1 : NoAttr K Cc "month"
  n2 : NoAttr K Cc "year"
  n3 : NoAttr K Cc "moon"
  n4 : NoAttr K Cc "mark"
  ne : Cc ≠ C
/-- at p a Calendar of these four -/
def Cl (C Cc : Addr) (H : Hp) (p : Addr) (m y o k : Rat) : Prop := ∃ dx a b c d, H p = some (.ins Cc dx (cfs a b c d)) ∧ Sh C H a m ∧ Sh C H b y ∧ Sh C H c o ∧ Sh C H d k
theorem Cl.same {C Cc : Addr} {H H1 : Hp} {p : Addr} {m y o k : Rat} (h : Cl C Cc H p m y o k) (s : Same H H1) : Cl C Cc H1 p m y o k := by
  obtain ⟨dx, a, b, c, d, e, h1, h2, h3, h4⟩ := h
  exact ⟨dx, a, b, c, d, s _ _ e, h1.same s, h2.same s, h3.same s, h4.same s⟩
/-- one that can be reckoned with -/
structure Good (m y o k : Rat) : Prop where
  fit : Fit m y
  zm : Rz 70 m
  zy : Rz 70 y
  zo : Rz 70 o
  zk : Rz 70 k
theorem Sh.put {C Cc : Addr} {H : Hp} {p dx a : Addr} {fs gs : List (Str × V)} {q : Rat} (ne : Cc ≠ C) (hp : H p = some (.ins Cc dx fs)) (h : Sh C H a q) : Sh C (upd H p (.ins Cc dx gs)) a q := by
  obtain ⟨d, e⟩ := h
  refine ⟨d, ?_⟩
  rw [upd_ne (ne_of e hp fun z => ne (by injection z with z1 z2 z3; exact z1.symm))]
  exact e
theorem Rv.put {C Cc : Addr} {H : Hp} {p dx : Addr} {v : V} {fs gs : List (Str × V)} {q : Rat} (ne : Cc ≠ C) (hp : H p = some (.ins Cc dx fs)) (h : Rv C H v q) : Rv C (upd H p (.ins Cc dx gs)) v q := by
  rcases h with h | ⟨a, e, h⟩
  · exact .inl h
  · exact .inr ⟨a, e, h.put ne hp⟩
theorem Mv.put {C Cc : Addr} {H : Hp} {p dx : Addr} {v : V} {fs gs : List (Str × V)} {q : Rat} (ne : Cc ≠ C) (hp : H p = some (.ins Cc dx fs)) (h : Mv C H v q) : Mv C (upd H p (.ins Cc dx gs)) v q := by
  rcases h with h | h
  · exact .inl h
  · exact .inr (h.put ne hp)
theorem But.put {l : Addr} {H H1 : Hp} {o : HO} (a : But l H H1) : But l H (L2.upd H1 l o) := fun c u hc e => by
  rw [upd_ne hc]
  exact a c u hc e
/-! the methods -/
def spM1 (C Cc : Addr) (n : Nat) (g : Rat → Rat → Rat → Rat → Int → V) : Sp := fun vs H Q _ => ∃ (p : Addr) (i : Int) (m y o k : Rat), vs = [.ref p, .int i] ∧ Cl C Cc H p m y o k ∧ Good m y o k ∧ Sz n i ∧ ∀ H', Same H H' → Q (g m y o k i) H'
def miF (m y o k : Rat) (i : Int) : V := if mdF y k (jF y k (stF m o i)) < stF m o (i + 1) then .int (jF y k (stF m o i)) else .non
theorem Good.ztw {m y o k : Rat} (g : Good m y o k) : Rz 80 (y / 12) := g.zy.div (l := 4) (Rz.int (szi 12) (by decide)) twelve_ne (by decide)
theorem Good.zst {m y o k : Rat} (g : Good m y o k) {n l : Nat} {i : Int} (h : Sz n i) (h0 : 0 < n) (hl : n + 150 < l) : Sz l (stF m o i) := (Sz.floor (Rz.add (m := n + 150) g.zo (Rz.mul (m := n + 75) (Rz.int h h0) g.zm (by omega)) (by omega))).mono (by omega)
theorem Good.zmd {m y o k : Rat} (g : Good m y o k) {n l : Nat} {i : Int} (h : Sz n i) (h0 : 0 < n) (hl : n + 160 < l) : Sz l (mdF y k i) := (Sz.floor (Rz.add (m := n + 160) g.zk (Rz.mul (m := n + 85) (Rz.int h h0) g.ztw (by omega)) (by omega))).mono (by omega)
theorem Good.zj {m y o k : Rat} (g : Good m y o k) {n l : Nat} {i : Int} (h : Sz n i) (h0 : 0 < n) (hl : n + 160 < l) : Sz l (jF y k i) := (Sz.ceil (Rz.div (m := n + 160) (Rz.sub (m := n + 75) (Rz.int h h0) g.zk (by omega)) g.ztw (by have := g.fit.ypos; grind) (by omega))).mono (by omega)
def spCaI (C Cc : Addr) : Sp := fun vs H Q _ => ∃ (p dx : Addr) (v u x z : V) (m y o k : Rat), vs = [.ref p, v, u, x, z] ∧ H p = some (.ins Cc dx []) ∧ Rv C H v m ∧ Rv C H u y ∧ Mv C H x o ∧ Mv C H z k ∧ Good m y o k ∧
  ∀ H', But p H H' → Cl C Cc H' p m y o k → Q .non H'
section
variable {P : Program} {w : World} {K : PySem.W.Frag} {mg : Str → Option Value} {base : Heap} {C Cc : Addr}
theorem ok_caI (D : Di K mg "Calendar" Cc "Calendar.__init__" s_Calendar_init [.non, .non]) (T : CaT K C Cc) (F : ShF P w K mg base C) (un : Ca P w K mg base CX0 7 "refuse_unfit" s_refuse_unfit [] ["month", "year"] (spUnfit C))
    (mo : Ca P w K mg base CX0 6 "moment_or_nought" s_moment_or_nought [] ["moment"] (spMoment C)) :
    Ci P w K mg base CX0 8 "Calendar" Cc "Calendar.__init__" s_Calendar_init [.non, .non] ["self", "month", "year", "moon", "mark"] (spCaI C Cc) := by
  refine ci0 (k := 7) D c_Calendar_init (fun vs H Q E h => ?_) fun f cdv A outer s H vs Q E hr h => ?_
  · obtain ⟨p, dx, v, u, x, z, m, y, o, k, rfl, _⟩ := h
    rfl
  · obtain ⟨p, dx, v, u, x, z, m, y, o, k, rfl, hp, hv, hu, hx, hz, g, q⟩ := h
    refine ⟨_, pss_cons (ps_expr (pe_ca un b_refuse_unfit hr (by decide) pass0 rfl (pa_cons (pv 1) (pa_cons (pv 2) pa_nil))))
      (pss_cons (ps_fld (pv 0) (pe_ca F.asS b_as_share hr (by decide) pass0 rfl (pa_cons (pv 1) pa_nil)) rfl)
      (pss_cons (ps_fld (pv 0) (pe_ca F.asS b_as_share hr (by decide) pass0 rfl (pa_cons (pv 2) pa_nil)) rfl)
      (pss_cons (ps_fld (pv 0) (pe_ca mo b_moment_or_nought hr (by decide) pass0 rfl (pa_cons (pv 3) pa_nil)) rfl)
      (pss_one (ps_fld (pv 0) (pe_ca mo b_moment_or_nought hr (by decide) pass0 rfl (pa_cons (pv 4) pa_nil)) rfl))))), ?_⟩
    refine ⟨_, rfl, _, rfl, v, u, m, y, rfl, hv, hu, g.zm.mono (by decide), g.zy.mono (by decide), g.fit, fun H1 s1 => ?_⟩
    refine ⟨_, rfl, v, m, rfl, hv.same s1, g.zm.mono (by decide), fun a H2 s2 ha => ?_⟩
    have hp2 := s2 _ _ (s1 _ _ hp)
    refine ⟨_, rfl, p, Cc, dx, _, rfl, hp2, T.cl, T.n1, (by show 0 < 1000; decide), ?_⟩
    refine ⟨_, rfl, u, y, rfl, ((hu.same s1).same s2).put T.ne hp2, g.zy.mono (by decide), fun b H3 s3 hb => ?_⟩
    have hp3 := s3 _ _ (upd_same (H := H2) (a := p))
    refine ⟨_, rfl, p, Cc, dx, _, rfl, hp3, T.cl, T.n2, (by show 1 < 1000; decide), ?_⟩
    refine ⟨_, rfl, x, o, rfl, ((((hx.same s1).same s2).put T.ne hp2).same s3).put T.ne hp3, g.zo.mono (by decide), fun c H4 s4 hc => ?_⟩
    have hp4 := s4 _ _ (upd_same (H := H3) (a := p))
    refine ⟨_, rfl, p, Cc, dx, _, rfl, hp4, T.cl, T.n3, (by show 2 < 1000; decide), ?_⟩
    refine ⟨_, rfl, z, k, rfl, ((((((hz.same s1).same s2).put T.ne hp2).same s3).put T.ne hp3).same s4).put T.ne hp4, g.zk.mono (by decide), fun d H5 s5 hd => ?_⟩
    have hp5 := s5 _ _ (upd_same (H := H4) (a := p))
    refine ⟨_, rfl, p, Cc, dx, _, rfl, hp5, T.cl, T.n4, (by show 3 < 1000; decide), ?_⟩
    refine q _ ?_ ⟨dx, a, b, c, d, upd_same, ?_, ?_, ?_, hd.put T.ne hp5⟩
    · have b1 : But p H H2 := But.same (s1.trans s2)
      have b2 : But p H H3 := b1.put.trans (But.same s3)
      have b3 : But p H H4 := b2.put.trans (But.same s4)
      exact (b3.put.trans (But.same s5)).put
    · exact (((((((ha.put T.ne hp2).same s3).put T.ne hp3).same s4).put T.ne hp4).same s5).put T.ne hp5)
    · exact (((((hb.put T.ne hp3).same s4).put T.ne hp4).same s5).put T.ne hp5)
    · exact (((hc.put T.ne hp4).same s5).put T.ne hp5)
end
section
variable {P : Program} {w : World} {K : PySem.W.Frag} {mg : Str → Option Value} {base : Heap} {C Cc : Addr}
theorem ok_start (D : Dm K Cc "start" "Calendar.start" s_Calendar_start) (T : CaT K C Cc) (nth : Ca P w K mg base CX0 6 "nth_day" s_nth_day [] ["first", "step", "n"] (spNth C)) :
    Cm P w K mg base CX0 7 Cc "start" "Calendar.start" s_Calendar_start ["self", "k"] (spM1 C Cc 3000 fun m _ o _ i => .int (stF m o i)) := by
  refine cm0 (k := 6) D c_Calendar_start (fun vs H Q E h => ?_) fun f cdv A outer s H vs Q E hr h => ?_
  · obtain ⟨p, i, m, y, o, k, rfl, _⟩ := h
    rfl
  · obtain ⟨p, i, m, y, o, k, rfl, ⟨dx, a, b, c, d, e, h1, h2, h3, h4⟩, g, zi, q⟩ := h
    refine ⟨_, pss_one (ps_ret (pe_ca nth b_nth_day hr (by decide) pass0 rfl (pa_cons (pe_fld (pv 0) rfl) (pa_cons (pe_fld (pv 0) rfl) (pa_cons (pv 1) pa_nil))))), ?_⟩
    exact ⟨_, rfl, p, Cc, dx, _, _, rfl, e, T.cl, T.n3, cf_moon _ _ _ _, _, rfl, p, Cc, dx, _, _, rfl, e, T.cl, T.n1, cf_month _ _ _ _, _, rfl, _, _, o, m, i, rfl, h3.rv, h1.rv, g.zo.mono (by decide), g.zm.mono (by decide), zi, q⟩
end
section
variable {P : Program} {w : World} {K : PySem.W.Frag} {mg : Str → Option Value} {base : Heap} {C Cc : Addr}
theorem ok_month_at (D : Dm K Cc "month_at" "Calendar.month_at" s_Calendar_month_at) (T : CaT K C Cc) (fr : Ca P w K mg base CX0 6 "first_from" s_first_from [] ["first", "step", "day"] (spFrom C)) :
    Cm P w K mg base CX0 7 Cc "month_at" "Calendar.month_at" s_Calendar_month_at ["self", "day"] (spM1 C Cc 2900 fun m _ o _ i => .int (maF m o i)) := by
  refine cm0 (k := 6) D c_Calendar_month_at (fun vs H Q E h => ?_) fun f cdv A outer s H vs Q E hr h => ?_
  · obtain ⟨p, i, m, y, o, k, rfl, _⟩ := h
    rfl
  · obtain ⟨p, i, m, y, o, k, rfl, ⟨dx, a, b, c, d, e, h1, h2, h3, h4⟩, g, zi, q⟩ := h
    refine ⟨_, pss_one (ps_ret (pe_op op_sub (pe_ca fr b_first_from hr (by decide) pass0 rfl (pa_cons (pe_fld (pv 0) rfl) (pa_cons (pe_fld (pv 0) rfl) (pa_cons (pe_op op_add (pv 1) pe_int) pa_nil)))) pe_int)), ?_⟩
    refine ⟨_, rfl, p, Cc, dx, _, _, rfl, e, T.cl, T.n3, cf_moon _ _ _ _, _, rfl, p, Cc, dx, _, _, rfl, e, T.cl, T.n1, cf_month _ _ _ _, _, rfl, _, _, rfl, rfl, _, _, o, m, i + 1, rfl, h3.rv, h1.rv, g.zo.mono (by decide), g.zm.mono (by decide), ?_, (by have := g.fit.pos; grind), fun H' hs => ⟨_, _, rfl, rfl, q H' hs⟩⟩
    exact Sz.add (n := 2900) zi (szi 1 (Nat.one_lt_two_pow (by decide))) (by decide)
end
section
variable {P : Program} {w : World} {K : PySem.W.Frag} {mg : Str → Option Value} {base : Heap} {C Cc : Addr}
theorem ok_mark_day (D : Dm K Cc "mark_day" "Calendar.mark_day" s_Calendar_mark_day) (T : CaT K C Cc) (nth : Ca P w K mg base CX0 6 "nth_day" s_nth_day [] ["first", "step", "n"] (spNth C)) (tw : Ca P w K mg base CX0 6 "twelfth" s_twelfth [] ["year"] (spTw C)) :
    Cm P w K mg base CX0 7 Cc "mark_day" "Calendar.mark_day" s_Calendar_mark_day ["self", "j"] (spM1 C Cc 3000 fun _ y _ k i => .int (mdF y k i)) := by
  refine cm0 (k := 6) D c_Calendar_mark_day (fun vs H Q E h => ?_) fun f cdv A outer s H vs Q E hr h => ?_
  · obtain ⟨p, i, m, y, o, k, rfl, _⟩ := h
    rfl
  · obtain ⟨p, i, m, y, o, k, rfl, ⟨dx, a, b, c, d, e, h1, h2, h3, h4⟩, g, zi, q⟩ := h
    refine ⟨_, pss_one (ps_ret (pe_ca nth b_nth_day hr (by decide) pass0 rfl (pa_cons (pe_fld (pv 0) rfl) (pa_cons (pe_ca tw b_twelfth hr (by decide) pass0 rfl (pa_cons (pe_fld (pv 0) rfl) pa_nil)) (pa_cons (pv 1) pa_nil))))), ?_⟩
    refine ⟨_, rfl, p, Cc, dx, _, _, rfl, e, T.cl, T.n4, cf_mark _ _ _ _, _, rfl, p, Cc, dx, _, _, rfl, e, T.cl, T.n2, cf_year _ _ _ _, _, y, rfl, h2.rv, g.zy.mono (by decide), fun p1 H1 n1 s1 t1 => ?_⟩
    exact ⟨_, rfl, _, _, k, _, i, rfl, (h4.same s1).rv, t1.rv, g.zk.mono (by decide), g.ztw.mono (by decide), zi, fun H' hs => q H' (s1.trans hs)⟩
end
section
variable {P : Program} {w : World} {K : PySem.W.Frag} {mg : Str → Option Value} {base : Heap} {C Cc : Addr}
theorem ok_month_with (D : Dm K Cc "month_with" "Calendar.month_with" s_Calendar_month_with) (T : CaT K C Cc)
    (ma : Cm P w K mg base CX0 7 Cc "month_at" "Calendar.month_at" s_Calendar_month_at ["self", "day"] (spM1 C Cc 2900 fun m _ o _ i => .int (maF m o i)))
    (md : Cm P w K mg base CX0 7 Cc "mark_day" "Calendar.mark_day" s_Calendar_mark_day ["self", "j"] (spM1 C Cc 3000 fun _ y _ k i => .int (mdF y k i))) :
    Cm P w K mg base CX0 8 Cc "month_with" "Calendar.month_with" s_Calendar_month_with ["self", "j"] (spM1 C Cc 2000 fun m y o k i => .int (maF m o (mdF y k i))) := by
  refine cm0 (k := 7) D c_Calendar_month_with (fun vs H Q E h => ?_) fun f cdv A outer s H vs Q E hr h => ?_
  · obtain ⟨p, i, m, y, o, k, rfl, _⟩ := h
    rfl
  · obtain ⟨p, i, m, y, o, k, rfl, hc, g, zi, q⟩ := h
    obtain ⟨dx, a, b, c, d, e, h1, h2, h3, h4⟩ := id hc
    refine ⟨_, pss_one (ps_ret (pe_cm ma b_Calendar_month_at hr (by decide) pass0 (pv 0) (pa_cons (pe_cm md b_Calendar_mark_day hr (by decide) pass0 (pv 0) (pa_cons (pv 1) pa_nil)) pa_nil))), ?_⟩
    refine ⟨_, rfl, p, dx, _, rfl, e, cf_no _ _ _ _, _, rfl, p, dx, _, rfl, e, cf_no _ _ _ _, _, rfl, p, i, m, y, o, k, rfl, hc, g, zi.mono (by decide), fun H1 s1 => ?_⟩
    exact ⟨p, _, m, y, o, k, rfl, hc.same s1, g, g.zmd zi (by decide) (by decide), fun H2 s2 => q H2 (s1.trans s2)⟩
end
section
variable {P : Program} {w : World} {K : PySem.W.Frag} {mg : Str → Option Value} {base : Heap} {C Cc : Addr}
theorem ok_mark_in (D : Dm K Cc "mark_in" "Calendar.mark_in" s_Calendar_mark_in) (T : CaT K C Cc) (fr : Ca P w K mg base CX0 6 "first_from" s_first_from [] ["first", "step", "day"] (spFrom C)) (tw : Ca P w K mg base CX0 6 "twelfth" s_twelfth [] ["year"] (spTw C))
    (stt : Cm P w K mg base CX0 7 Cc "start" "Calendar.start" s_Calendar_start ["self", "k"] (spM1 C Cc 3000 fun m _ o _ i => .int (stF m o i)))
    (md : Cm P w K mg base CX0 7 Cc "mark_day" "Calendar.mark_day" s_Calendar_mark_day ["self", "j"] (spM1 C Cc 3000 fun _ y _ k i => .int (mdF y k i))) :
    Cm P w K mg base CX0 8 Cc "mark_in" "Calendar.mark_in" s_Calendar_mark_in ["self", "k"] (spM1 C Cc 1400 miF) := by
  refine cm0 (k := 7) D c_Calendar_mark_in (fun vs H Q E h => ?_) fun f cdv A outer s H vs Q E hr h => ?_
  · obtain ⟨p, i, m, y, o, k, rfl, _⟩ := h
    rfl
  · obtain ⟨p, i, m, y, o, k, rfl, hc, g, zi, q⟩ := h
    obtain ⟨dx, a, b, c, d, e, h1, h2, h3, h4⟩ := id hc
    refine ⟨_, pss_cons (ps_set (i := 2) c_Calendar_mark_in.nd rfl (.inl rfl) (pe_ca fr b_first_from hr (by decide) pass0 rfl (pa_cons (pe_fld (pv 0) rfl) (pa_cons (pe_ca tw b_twelfth hr (by decide) pass0 rfl (pa_cons (pe_fld (pv 0) rfl) pa_nil)) (pa_cons (pe_cm stt b_Calendar_start hr (by decide) pass0 (pv 0) (pa_cons (pv 1) pa_nil)) pa_nil)))))
      (pss_cons (ps_if (pt_cmpR op_lt (pe_cm md b_Calendar_mark_day hr (by decide) pass0 (pv 0) (pa_cons (pv 2) pa_nil)) (pe_cm stt b_Calendar_start hr (by decide) pass0 (pv 0) (pa_cons (pe_op op_add (pv 1) pe_int) pa_nil)) (nomark _)) (pss_one (ps_ret (pv 2))) pss_nil)
      (pss_one (ps_ret pe_non))), ?_⟩
    have zs : Sz 2100 (stF m o i) := g.zst zi (by decide) (by decide)
    have zj : Sz 2900 (jF y k (stF m o i)) := g.zj zs (by decide) (by decide)
    refine ⟨_, rfl, p, Cc, dx, _, _, rfl, e, T.cl, T.n4, cf_mark _ _ _ _, _, rfl, p, Cc, dx, _, _, rfl, e, T.cl, T.n2, cf_year _ _ _ _, _, y, rfl, h2.rv, g.zy.mono (by decide), fun p1 H1 n1 s1 t1 => ?_⟩
    refine ⟨_, rfl, p, dx, _, rfl, s1 _ _ e, cf_no _ _ _ _, _, rfl, p, i, m, y, o, k, rfl, hc.same s1, g, zi.mono (by decide), fun H2 s2 => ?_⟩
    have s12 : Same H H2 := s1.trans s2
    refine ⟨_, _, k, _, _, rfl, (h4.same s12).rv, (t1.same s2).rv, g.zk.mono (by decide), g.ztw.mono (by decide), zs.mono (by decide), (by have := g.fit.ypos; grind), fun H3 s3 => ?_⟩
    have s13 : Same H H3 := s12.trans s3
    refine ⟨_, rfl, p, dx, _, rfl, s13 _ _ e, cf_no _ _ _ _, _, rfl, p, _, m, y, o, k, rfl, hc.same s13, g, zj.mono (by decide), fun H4 s4 => ?_⟩
    have s14 : Same H H4 := s13.trans s4
    refine ⟨_, rfl, p, dx, _, rfl, s14 _ _ e, cf_no _ _ _ _, _, rfl, _, _, rfl, rfl, p, _, m, y, o, k, rfl, hc.same s14, g, Sz.add (n := 1400) zi (szi 1 (Nat.one_lt_two_pow (by decide))) (by decide), fun H5 s5 => ⟨_, _, rfl, rfl, _, rfl, ?_⟩⟩
    have s15 : Same H H5 := s14.trans s5
    have q5 := q H5 s15
    unfold miF at q5
    refine ite2 (fun hb => ?_) (fun hb => ?_)
    · rw [if_pos (show mdF y k (jF y k (stF m o i)) < stF m o (i + 1) from of_decide_eq_true hb)] at q5
      exact ⟨_, rfl, q5⟩
    · rw [if_neg (show ¬ mdF y k (jF y k (stF m o i)) < stF m o (i + 1) from fun z => hb (decide_eq_true z))] at q5
      exact q5
end
/-! ### the law's own fractions: tuples in lowest terms -/
theorem int_num (i : Int) : ((i : Rat)).num = i := rfl
theorem int_den (i : Int) : ((i : Rat)).den = 1 := rfl
def Tp (H : Hp) (a : Addr) (q : Rat) : Prop := H a = some (.tup [.int q.num, .int q.den])
theorem Tp.same {H H1 : Hp} {a : Addr} {q : Rat} (h : Tp H a q) (s : Same H H1) : Tp H1 a q := s _ _ h
/-- a fraction not always in lowest terms -/
def Tq (H : Hp) (a : Addr) (n : Nat) (q : Rat) : Prop := ∃ t b : Int, H a = some (.tup [.int t, .int b]) ∧ b ≠ 0 ∧ q = Rat.divInt t b ∧ Sz n t ∧ Sz n b
theorem Tp.tq {H : Hp} {a : Addr} {n : Nat} {q : Rat} (h : Tp H a q) (z : Rz n q) : Tq H a n q := ⟨q.num, q.den, h, Int.ne_of_gt (den_pos q), (Rat.num_divInt_den q).symm, z.1, z.2⟩
theorem Tq.same {H H1 : Hp} {a : Addr} {n : Nat} {q : Rat} (h : Tq H a n q) (s : Same H H1) : Tq H1 a n q := by
  obtain ⟨t, b, e, r⟩ := h
  exact ⟨t, b, s _ _ e, r⟩
def spT2 (g : Rat → Rat → Rat) : Sp := fun vs H Q _ => ∃ (a b : Addr) (x y : Rat), vs = [.ref a, .ref b] ∧ Tq H a 4300 x ∧ Tq H b 4300 y ∧ ∀ r H', H r = none → Same H H' → Tp H' r (g x y) → Q (.ref r) H'
theorem int_div (i : Int) {n : Nat} (h : Sz n i) (h0 : 0 < n) {H : Hp} {t : Addr} : Tq (L2.upd H t (.tup [.int i, .int 1])) t n (i : Rat) := ⟨i, 1, upd_same, by decide, (divInt_one i).symm, h, szi 1 (Nat.one_lt_two_pow (by omega))⟩
section
variable {P : Program} {w : World} {K : PySem.W.Frag} {mg : Str → Option Value} {base : Heap}
theorem ok_lplus (D : Df K mg "_law_plus" s_l_plus []) (lo : Ca P w K mg base CX0 1 "_law_low" s_l_low [] ["_law_top", "_law_bottom"] spLow) : Ca P w K mg base CX0 2 "_law_plus" s_l_plus [] ["_law_one", "_law_two"] (spT2 fun a b => a + b) := by
  refine ca0 (k := 1) D c_l_plus (fun vs H Q E h => ?_) fun f cdv A outer s H vs Q E hr h => ?_
  · obtain ⟨a, b, x, y, rfl, _⟩ := h
    rfl
  · obtain ⟨a, b, x, y, rfl, ⟨t, u, ha, hu, rfl, zt, zu⟩, ⟨t', u', hb, hu', rfl, zt', zu'⟩, q⟩ := h
    refine ⟨_, pss_one (ps_ret (pe_ca lo b_l_low hr (by decide) pass0 rfl (pa_cons (pe_op op_add (pe_op op_mulA (pe_ix ix_tup (pv 0) pe_int (fun _ _ => rfl)) (pe_ix ix_tup (pv 1) pe_int (fun _ _ => rfl))) (pe_op op_mulA (pe_ix ix_tup (pv 1) pe_int (fun _ _ => rfl)) (pe_ix ix_tup (pv 0) pe_int (fun _ _ => rfl))))
      (pa_cons (pe_op op_mulA (pe_ix ix_tup (pv 0) pe_int (fun _ _ => rfl)) (pe_ix ix_tup (pv 1) pe_int (fun _ _ => rfl))) pa_nil)))), ?_⟩
    have mz : ∀ i j : Int, Sz 4300 i → Sz 4300 j → CMulA i j := fun i j hi hj => ⟨hi.mono (by decide), hj.mono (by decide)⟩
    have ha' := SqT.of (K := K) ha
    have hb' := SqT.of (K := K) hb
    refine ⟨_, rfl, a, _, _, _, rfl, rfl, ha', rfl, _, rfl, b, _, _, _, rfl, rfl, hb', rfl, _, _, rfl, rfl, mz _ _ zt zu', _, rfl, b, _, _, _, rfl, rfl, hb', rfl, _, rfl, a, _, _, _, rfl, rfl, ha', rfl, _, _, rfl, rfl, mz _ _ zt' zu, _, _, rfl, rfl,
      _, rfl, a, _, _, _, rfl, rfl, ha', rfl, _, rfl, b, _, _, _, rfl, rfl, hb', rfl, _, _, rfl, rfl, mz _ _ zu zu', _, _, rfl, Int.mul_ne_zero hu hu', ?_, ?_, fun r hr' => ?_⟩
    · exact Sz.add (n := 8600) ((zt.mul zu').mono (by decide)) ((zt'.mul zu).mono (by decide)) (by decide)
    · exact (zu.mul zu').mono (by decide)
    · refine q r _ hr' (Same.new hr') ?_
      show L2.upd H r _ r = _
      rw [upd_same, ← Rat.divInt_add_divInt t t' hu hu']
theorem ok_lby (D : Df K mg "_law_by" s_l_by []) (lo : Ca P w K mg base CX0 1 "_law_low" s_l_low [] ["_law_top", "_law_bottom"] spLow) : Ca P w K mg base CX0 2 "_law_by" s_l_by [] ["_law_one", "_law_two"] (spT2 fun a b => a * b) := by
  refine ca0 (k := 1) D c_l_by (fun vs H Q E h => ?_) fun f cdv A outer s H vs Q E hr h => ?_
  · obtain ⟨a, b, x, y, rfl, _⟩ := h
    rfl
  · obtain ⟨a, b, x, y, rfl, ⟨t, u, ha, hu, rfl, zt, zu⟩, ⟨t', u', hb, hu', rfl, zt', zu'⟩, q⟩ := h
    refine ⟨_, pss_one (ps_ret (pe_ca lo b_l_low hr (by decide) pass0 rfl (pa_cons (pe_op op_mulA (pe_ix ix_tup (pv 0) pe_int (fun _ _ => rfl)) (pe_ix ix_tup (pv 1) pe_int (fun _ _ => rfl)))
      (pa_cons (pe_op op_mulA (pe_ix ix_tup (pv 0) pe_int (fun _ _ => rfl)) (pe_ix ix_tup (pv 1) pe_int (fun _ _ => rfl))) pa_nil)))), ?_⟩
    have mz : ∀ i j : Int, Sz 4300 i → Sz 4300 j → CMulA i j := fun i j hi hj => ⟨hi.mono (by decide), hj.mono (by decide)⟩
    have ha' := SqT.of (K := K) ha
    have hb' := SqT.of (K := K) hb
    refine ⟨_, rfl, a, _, _, _, rfl, rfl, ha', rfl, _, rfl, b, _, _, _, rfl, rfl, hb', rfl, _, _, rfl, rfl, mz _ _ zt zt',
      _, rfl, a, _, _, _, rfl, rfl, ha', rfl, _, rfl, b, _, _, _, rfl, rfl, hb', rfl, _, _, rfl, rfl, mz _ _ zu zu', _, _, rfl, Int.mul_ne_zero hu hu', ?_, ?_, fun r hr' => ?_⟩
    · exact (zt.mul zt').mono (by decide)
    · exact (zu.mul zu').mono (by decide)
    · refine q r _ hr' (Same.new hr') ?_
      show L2.upd H r _ r = _
      rw [upd_same, ← Rat.divInt_mul_divInt t t']
end
/-! the law's calendars -/
def Fo (H : Hp) (r : Addr) (m y o k : Rat) : Prop := ∃ a b c d, H r = some (.tup [.ref a, .ref b, .ref c, .ref d]) ∧ Tp H a m ∧ Tp H b y ∧ Tp H c o ∧ Tp H d k
theorem Fo.same {H H1 : Hp} {r : Addr} {m y o k : Rat} (h : Fo H r m y o k) (s : Same H H1) : Fo H1 r m y o k := by
  obtain ⟨a, b, c, d, e, h1, h2, h3, h4⟩ := h
  exact ⟨a, b, c, d, s _ _ e, h1.same s, h2.same s, h3.same s, h4.same s⟩
def spFloor : Sp := fun vs H Q _ => ∃ (a : Addr) (x : Rat), vs = [.ref a] ∧ Tp H a x ∧ Rz 8700 x ∧ Q (.int x.floor) H
/-- a function of the four and a number -/
def spF1 (n : Nat) (g : Rat → Rat → Rat → Rat → Int → V) : Sp := fun vs H Q _ => ∃ (r : Addr) (i : Int) (m y o k : Rat), vs = [.ref r, .int i] ∧ Fo H r m y o k ∧ Good m y o k ∧ Sz n i ∧ ∀ H', Same H H' → Q (g m y o k i) H'
section
variable {P : Program} {w : World} {K : PySem.W.Frag} {mg : Str → Option Value} {base : Heap}
theorem ok_lfloor (D : Df K mg "_law_floor" s_l_floor []) : Ca P w K mg base CX0 1 "_law_floor" s_l_floor [] ["_law_fraction"] spFloor := by
  refine ca0 (k := 0) D c_l_floor (fun vs H Q E h => ?_) fun f cdv A outer s H vs Q E hr h => ?_
  · obtain ⟨a, x, rfl, _⟩ := h
    rfl
  · obtain ⟨a, x, rfl, ha, zx, q⟩ := h
    refine ⟨_, pss_one (ps_ret (pe_op op_fdivA (pe_ix ix_tup (pv 0) pe_int (fun _ _ => rfl)) (pe_ix ix_tup (pv 0) pe_int (fun _ _ => rfl)))), ?_⟩
    refine ⟨_, rfl, a, _, _, _, rfl, rfl, SqT.of ha, rfl, _, rfl, a, _, _, _, rfl, rfl, SqT.of ha, rfl, _, _, rfl, rfl, ⟨Int.ne_of_gt (den_pos x), zx.2.mono (by decide)⟩, ?_⟩
    have e : x.num.fdiv (x.den : Int) = x.floor := by rw [Rat.floor_def, Int.fdiv_eq_ediv_of_nonneg _ (Int.le_of_lt (den_pos x))]
    show Q (V.int (x.num.fdiv (x.den : Int))) _
    rw [e]
    exact q
theorem ok_lstart (D : Df K mg "_law_start" s_l_start []) (fl : Ca P w K mg base CX0 1 "_law_floor" s_l_floor [] ["_law_fraction"] spFloor) (pl : Ca P w K mg base CX0 2 "_law_plus" s_l_plus [] ["_law_one", "_law_two"] (spT2 fun a b => a + b)) (by' : Ca P w K mg base CX0 2 "_law_by" s_l_by [] ["_law_one", "_law_two"] (spT2 fun a b => a * b)) :
    Ca P w K mg base CX0 3 "_law_start" s_l_start [] ["_law_four_here", "_law_k"] (spF1 3000 fun m _ o _ i => .int (stF m o i)) := by
  refine ca0 (k := 2) D c_l_start (fun vs H Q E h => ?_) fun f cdv A outer s H vs Q E hr h => ?_
  · obtain ⟨r, i, m, y, o, k, rfl, _⟩ := h
    rfl
  · obtain ⟨r, i, m, y, o, k, rfl, ⟨a, b, c, d, e, h1, h2, h3, h4⟩, g, zi, q⟩ := h
    refine ⟨_, pss_one (ps_ret (pe_ca fl b_l_floor hr (by decide) pass0 rfl (pa_cons (pe_ca pl b_l_plus hr (by decide) pass0 rfl (pa_cons (pe_ix ix_tup (pv 0) pe_int (fun _ _ => rfl)) (pa_cons (pe_ca by' b_l_by hr (by decide) pass0 rfl (pa_cons (pe_ix ix_tup (pv 0) pe_int (fun _ _ => rfl)) (pa_cons (pe_tup (pa_cons (pv 1) (pa_cons pe_int pa_nil))) pa_nil))) pa_nil))) pa_nil))), ?_⟩
    refine ⟨_, rfl, r, _, _, _, rfl, rfl, SqT.of e, rfl, _, rfl, r, _, _, _, rfl, rfl, SqT.of e, rfl, _, rfl, (by show 2 ≤ sizeLine; decide), fun t ht => ?_⟩
    have s0 : Same H (L2.upd H t (.tup [.int i, .int 1])) := Same.new ht
    refine ⟨a, t, m, i, rfl, (h1.same s0).tq (g.zm.mono (by decide)), int_div i (zi.mono (by decide)) (by decide), fun t1 H1 n1 s1 e1 => ?_⟩
    have z1 : Rz 3400 (m * i) := g.zm.mul (Rz.int zi (by decide)) (by decide)
    have s01 := s0.trans s1
    refine ⟨c, t1, o, _, rfl, (h3.same s01).tq (g.zo.mono (by decide)), e1.tq (z1.mono (by decide)), fun t2 H2 n2 s2 e2 => ?_⟩
    refine ⟨t2, _, rfl, e2, (g.zo.add z1 (by decide : _ < 3800)).mono (by decide), ?_⟩
    have q2 := q H2 (s01.trans s2)
    have ee : o + m * (i : Rat) = o + i * m := by rw [Rat.mul_comm]
    show Q (V.int (o + m * (i : Rat)).floor) H2
    rw [ee]
    exact q2
theorem ok_lmark (D : Df K mg "_law_mark_day" s_l_mark_day []) (fl : Ca P w K mg base CX0 1 "_law_floor" s_l_floor [] ["_law_fraction"] spFloor) (pl : Ca P w K mg base CX0 2 "_law_plus" s_l_plus [] ["_law_one", "_law_two"] (spT2 fun a b => a + b)) (by' : Ca P w K mg base CX0 2 "_law_by" s_l_by [] ["_law_one", "_law_two"] (spT2 fun a b => a * b)) :
    Ca P w K mg base CX0 3 "_law_mark_day" s_l_mark_day [] ["_law_four_here", "_law_j"] (spF1 3000 fun _ y _ k i => .int (mdF y k i)) := by
  refine ca0 (k := 2) D c_l_mark_day (fun vs H Q E h => ?_) fun f cdv A outer s H vs Q E hr h => ?_
  · obtain ⟨r, i, m, y, o, k, rfl, _⟩ := h
    rfl
  · obtain ⟨r, i, m, y, o, k, rfl, ⟨a, b, c, d, e, h1, h2, h3, h4⟩, g, zi, q⟩ := h
    refine ⟨_, pss_one (ps_ret (pe_ca fl b_l_floor hr (by decide) pass0 rfl (pa_cons (pe_ca pl b_l_plus hr (by decide) pass0 rfl (pa_cons (pe_ix ix_tup (pv 0) pe_int (fun _ _ => rfl)) (pa_cons (pe_ca by' b_l_by hr (by decide) pass0 rfl (pa_cons (pe_ix ix_tup (pv 0) pe_int (fun _ _ => rfl)) (pa_cons (pe_tup (pa_cons (pv 1) (pa_cons pe_int pa_nil))) pa_nil))) pa_nil))) pa_nil))), ?_⟩
    refine ⟨_, rfl, r, _, _, _, rfl, rfl, SqT.of e, rfl, _, rfl, r, _, _, _, rfl, rfl, SqT.of e, rfl, _, rfl, (by show 2 ≤ sizeLine; decide), fun t ht => ?_⟩
    have s0 : Same H (L2.upd H t (.tup [.int i, .int 12])) := Same.new ht
    refine ⟨b, t, y, Rat.divInt i 12, rfl, (h2.same s0).tq (g.zy.mono (by decide)), ⟨i, 12, upd_same, by decide, rfl, zi.mono (by decide), szi 12 (Nat.lt_of_lt_of_le (by decide : 12 < 2 ^ 4) (Nat.pow_le_pow_right (by decide) (by decide)))⟩, fun t1 H1 n1 s1 e1 => ?_⟩
    have z1 : Rz 3400 (y * Rat.divInt i 12) := g.zy.mul (l := 3000) (Rz.divInt zi (szi 12 (Nat.lt_of_lt_of_le (by decide : 12 < 2 ^ 4) (Nat.pow_le_pow_right (by decide) (by decide)))) (by decide)) (by decide)
    have s01 := s0.trans s1
    refine ⟨d, t1, k, _, rfl, (h4.same s01).tq (g.zk.mono (by decide)), e1.tq (z1.mono (by decide)), fun t2 H2 n2 s2 e2 => ?_⟩
    refine ⟨t2, _, rfl, e2, (g.zk.add z1 (by decide : _ < 3800)).mono (by decide), ?_⟩
    have q2 := q H2 (s01.trans s2)
    have ee : k + y * Rat.divInt i 12 = k + i * (y / 12) := by
      have e12 : Rat.divInt i 12 = (i : Rat) / 12 := by
        have h := div_eq (i : Rat) ((12 : Int) : Rat) twelve_ne
        rw [int_num, int_den, int_num, int_den] at h
        have h' : Rat.divInt (i * ((1 : Nat) : Int)) (((1 : Nat) : Int) * 12) = Rat.divInt i 12 := by rw [show i * ((1 : Nat) : Int) = i by omega, show ((1 : Nat) : Int) * 12 = 12 by decide]
        rw [h'] at h
        exact h.symm
      rw [e12]
      grind
    show Q (V.int (k + y * Rat.divInt i 12).floor) H2
    rw [ee]
    exact q2
end
theorem Good.zma {m y o k : Rat} (g : Good m y o k) {n l : Nat} {i : Int} (h : Sz n i) (h0 : 0 < n) (hl : n + 150 < l) : Sz l (maF m o i) := by
  have z1 : Sz (n + 1) (i + 1) := Sz.add h (szi 1 (Nat.one_lt_two_pow (by omega))) (by omega)
  have z2 : Sz (n + 146) ((((i + 1 : Int) : Rat) - o) / m).ceil := Sz.ceil (Rz.div (m := n + 146) (Rz.sub (m := n + 75) (Rz.int z1 (by omega)) g.zo (by omega)) g.zm (by have := g.fit.pos; grind) (by omega))
  exact (Sz.sub z2 (szi 1 (Nat.one_lt_two_pow (by omega))) (by omega : n + 146 < n + 150)).mono (by omega)
def muI (i : Nat) (K : Int) : L2.St → Hp → Nat := fun σ _ => match σ[i]? with
  | some (some (.int k)) => (K - k).toNat
  | _ => 0
section
variable {P : Program} {w : World} {K : PySem.W.Frag} {mg : Str → Option Value} {base : Heap}
theorem ok_lma (D : Df K mg "_law_month_at" s_l_month_at []) (pl : Ca P w K mg base CX0 2 "_law_plus" s_l_plus [] ["_law_one", "_law_two"] (spT2 fun a b => a + b)) (st : Ca P w K mg base CX0 3 "_law_start" s_l_start [] ["_law_four_here", "_law_k"] (spF1 3000 fun m _ o _ i => .int (stF m o i))) :
    Ca P w K mg base CX0 4 "_law_month_at" s_l_month_at [] ["_law_four_here", "_law_a_day"] (spF1 2000 fun m _ o _ i => .int (maF m o i)) := by
  refine ca0 (k := 3) D c_l_month_at (fun vs H Q E h => ?_) fun f cdv A outer s H vs Q E hr h => ?_
  · obtain ⟨r, i, m, y, o, k, rfl, _⟩ := h
    rfl
  · obtain ⟨r, i, m, y, o, k, rfl, fo, g, zi, q⟩ := h
    obtain ⟨a, b, c, d, e, h1, h2, h3, h4⟩ := id fo
    refine ⟨_, pss_cons (ps_set (i := 2) c_l_month_at.nd rfl (.inl rfl) (pe_ca pl b_l_plus hr (by decide) pass0 rfl (pa_cons (pe_tup (pa_cons (pv 1) (pa_cons pe_int pa_nil))) (pa_cons (pe_tup (pa_cons (pe_op op_sub pe_int (pe_ix ix_tup (pe_ix ix_tup (pv 0) pe_int (fun _ _ => rfl)) pe_int (fun _ _ => rfl))) (pa_cons (pe_ix ix_tup (pe_ix ix_tup (pv 0) pe_int (fun _ _ => rfl)) pe_int (fun _ _ => rfl)) pa_nil))) pa_nil))))
      (pss_cons (ps_set (i := 3) c_l_month_at.nd rfl (.inl rfl) (pe_op op_sub (pe_op op_fdivA (pe_op op_mulA (pe_ix ix_tup (pv 2) pe_int (fun _ _ => rfl)) (pe_ix ix_tup (pe_ix ix_tup (pv 0) pe_int (fun _ _ => rfl)) pe_int (fun _ _ => rfl))) (pe_op op_mulA (pe_ix ix_tup (pv 2) pe_int (fun _ _ => rfl)) (pe_ix ix_tup (pe_ix ix_tup (pv 0) pe_int (fun _ _ => rfl)) pe_int (fun _ _ => rfl)))) pe_int))
      (pss_cons (ps_while PassesOwn.never (pt_cmpR op_le (pe_ca st b_l_start hr (by decide) pass0 rfl (pa_cons (pv 0) (pa_cons (pe_op op_add (pv 3) pe_int) pa_nil))) (pv 1) (nomark _)) (pss_one (ps_set (i := 3) c_l_month_at.nd rfl (.inl rfl) (pe_op op_add (pv 3) pe_int))))
      (pss_one (ps_ret (pv 3))))), ?_⟩
    have hm := g.fit.pos
    refine ⟨_, rfl, (by show 2 ≤ sizeLine; decide), fun t0 n0 => ?_⟩
    have s0 : Same H (L2.upd H t0 (.tup [.int i, .int 1])) := Same.new n0
    refine ⟨_, rfl, r, _, _, _, rfl, rfl, SqT.of (s0 _ _ e), rfl, c, _, _, _, rfl, rfl, SqT.of (s0 _ _ h3), rfl, _, _, rfl, rfl, _, rfl, r, _, _, _, rfl, rfl, SqT.of (s0 _ _ e), rfl, c, _, _, _, rfl, rfl, SqT.of (s0 _ _ h3), rfl, (by show 2 ≤ sizeLine; decide), fun t1 n1 => ?_⟩
    have s1 : Same _ (L2.upd (L2.upd H t0 (.tup [.int i, .int 1])) t1 (.tup [.int (0 - o.num), .int o.den])) := Same.new n1
    have zx : Rz 2400 ((i : Rat) - o) := (Rz.int zi (by decide)).sub g.zo (by decide)
    refine ⟨t0, t1, (i : Rat), -o, rfl, (int_div i (zi.mono (by decide)) (by decide)).same s1, ⟨0 - o.num, o.den, upd_same, Int.ne_of_gt (den_pos o), ?_, ?_, g.zo.2.mono (by decide)⟩, fun t2 H2 n2 s2 e2 => ?_⟩
    · rw [Int.zero_sub, ← Rat.neg_num, ← Rat.neg_den, Rat.num_divInt_den]
    · rw [Int.zero_sub]
      exact g.zo.1.neg.mono (by decide)
    have e2' : Tp H2 t2 ((i : Rat) - o) := by
      rw [Rat.sub_eq_add_neg]
      exact e2
    have s02 : Same H H2 := s0.trans (s1.trans s2)
    have hmn := num_pos hm
    have hdv : 0 < (((i : Rat) - o).den : Int) * m.num := Int.mul_pos (den_pos _) hmn
    refine ⟨_, rfl, t2, _, _, _, rfl, rfl, SqT.of e2', rfl, _, rfl, r, _, _, _, rfl, rfl, SqT.of (s02 _ _ e), rfl, a, _, _, _, rfl, rfl, SqT.of (s02 _ _ h1), rfl, _, _, rfl, rfl, ⟨zx.1.mono (by decide), g.zm.2.mono (by decide)⟩,
      _, rfl, t2, _, _, _, rfl, rfl, SqT.of e2', rfl, _, rfl, r, _, _, _, rfl, rfl, SqT.of (s02 _ _ e), rfl, a, _, _, _, rfl, rfl, SqT.of (s02 _ _ h1), rfl, _, _, rfl, rfl, ⟨zx.2.mono (by decide), g.zm.1.mono (by decide)⟩, _, _, rfl, rfl, ⟨Int.ne_of_gt hdv, (zx.2.mul g.zm.1).mono (by decide)⟩, _, _, rfl, rfl, ?_⟩
    have ek : (((i : Rat) - o).num * (m.den : Int)).fdiv ((((i : Rat) - o).den : Int) * m.num) = (((i : Rat) - o) / m).floor := by
      rw [Int.fdiv_eq_ediv_of_nonneg _ (Int.le_of_lt hdv), ← floor_divInt hdv, div_eq _ _ (by grind)]
    have zk0 : Sz 2800 ((((i : Rat) - o) / m).floor - 1) := Sz.sub (n := 2750) ((Sz.floor (zx.div g.zm (by grind) (by decide : _ < 2750)))) (szi 1 (Nat.one_lt_two_pow (by decide))) (by decide)
    have zK : Sz 2800 (maF m o i) := g.zma zi (by decide) (by decide)
    refine while_by (fun σ H' => ∃ k' : Int, σ = [some (.ref r), some (.int i), some (.ref t2), some (.int k')] ∧ (((i : Rat) - o) / m).floor - 1 ≤ k' ∧ k' ≤ maF m o i ∧ Same H H') (muI 3 (maF m o i)) ⟨_, ?_, Int.le_refl _, k0_le hm i, s02⟩ ?_ ?_
    · rw [← ek]
      rfl
    · rintro σ H' ⟨k', rfl, l1, l2, hs⟩
      refine ⟨_, rfl, _, rfl, _, _, rfl, rfl, r, k' + 1, m, y, o, k, rfl, fo.same hs, g, Sz.add (Sz.between zk0 zK l1 l2) (szi 1 (Nat.one_lt_two_pow (by decide))) (by decide), fun H3 s3 => ⟨_, rfl, _, _, rfl, rfl, _, rfl, ?_⟩⟩
      refine ite2 (fun hb => ?_) (fun hb => ?_)
      · have hle : k' + 1 ≤ maF m o i := (st_le hm).mp (of_decide_eq_true hb)
        refine ⟨_, rfl, _, _, rfl, rfl, ⟨k' + 1, rfl, by omega, hle, hs.trans s3⟩, ?_⟩
        show (maF m o i - (k' + 1)).toNat < (maF m o i - k').toNat
        omega
      · have hgt : ¬ k' + 1 ≤ maF m o i := fun z => hb (decide_eq_true ((st_le hm).mpr z))
        have ek' : k' = maF m o i := by omega
        subst ek'
        exact ⟨_, rfl, q H3 (hs.trans s3)⟩
    · rintro σ H' R R' hq ⟨v, h1, v2, h2, i1, j1, e1, e2, r', k', m', y', o', kk, e3, fo', g', z', hc⟩
      refine ⟨v, h1, v2, h2, i1, j1, e1, e2, r', k', m', y', o', kk, e3, fo', g', z', fun H3 s3 => ?_⟩
      obtain ⟨v3, h3, i2, j2, e4, e5, b', e6, hb⟩ := hc H3 s3
      exact ⟨v3, h3, i2, j2, e4, e5, b', e6, hq _ _ hb⟩
end
section
variable {P : Program} {w : World} {K : PySem.W.Frag} {mg : Str → Option Value} {base : Heap}
theorem ok_lmi (D : Df K mg "_law_mark_in" s_l_mark_in []) (pl : Ca P w K mg base CX0 2 "_law_plus" s_l_plus [] ["_law_one", "_law_two"] (spT2 fun a b => a + b)) (st : Ca P w K mg base CX0 3 "_law_start" s_l_start [] ["_law_four_here", "_law_k"] (spF1 3000 fun m _ o _ i => .int (stF m o i)))
    (md : Ca P w K mg base CX0 3 "_law_mark_day" s_l_mark_day [] ["_law_four_here", "_law_j"] (spF1 3000 fun _ y _ k i => .int (mdF y k i))) :
    Ca P w K mg base CX0 4 "_law_mark_in" s_l_mark_in [] ["_law_four_here", "_law_k"] (spF1 1400 miF) := by
  refine ca0 (k := 3) D c_l_mark_in (fun vs H Q E h => ?_) fun f cdv A outer s H vs Q E hr h => ?_
  · obtain ⟨r, i, m, y, o, k, rfl, _⟩ := h
    rfl
  · obtain ⟨r, i, m, y, o, k, rfl, fo, g, zi, q⟩ := h
    obtain ⟨a, b, c, d, e, h1, h2, h3, h4⟩ := id fo
    refine ⟨_, pss_cons (ps_set (i := 2) c_l_mark_in.nd rfl (.inl rfl) (pe_ca st b_l_start hr (by decide) pass0 rfl (pa_cons (pv 0) (pa_cons (pv 1) pa_nil))))
      (pss_cons (ps_set (i := 3) c_l_mark_in.nd rfl (.inl rfl) (pe_ca pl b_l_plus hr (by decide) pass0 rfl (pa_cons (pe_tup (pa_cons (pv 2) (pa_cons pe_int pa_nil))) (pa_cons (pe_tup (pa_cons (pe_op op_sub pe_int (pe_ix ix_tup (pe_ix ix_tup (pv 0) pe_int (fun _ _ => rfl)) pe_int (fun _ _ => rfl))) (pa_cons (pe_ix ix_tup (pe_ix ix_tup (pv 0) pe_int (fun _ _ => rfl)) pe_int (fun _ _ => rfl)) pa_nil))) pa_nil))))
      (pss_cons (ps_set (i := 4) c_l_mark_in.nd rfl (.inl rfl) (pe_op op_sub (pe_op op_fdivA (pe_op op_mulA (pe_op op_mulA (pe_ix ix_tup (pv 3) pe_int (fun _ _ => rfl)) pe_int) (pe_ix ix_tup (pe_ix ix_tup (pv 0) pe_int (fun _ _ => rfl)) pe_int (fun _ _ => rfl))) (pe_op op_mulA (pe_ix ix_tup (pv 3) pe_int (fun _ _ => rfl)) (pe_ix ix_tup (pe_ix ix_tup (pv 0) pe_int (fun _ _ => rfl)) pe_int (fun _ _ => rfl)))) pe_int))
      (pss_cons (ps_while PassesOwn.never (pt_cmpR op_lt (pe_ca md b_l_mark_day hr (by decide) pass0 rfl (pa_cons (pv 0) (pa_cons (pv 4) pa_nil))) (pv 2) (nomark _)) (pss_one (ps_set (i := 4) c_l_mark_in.nd rfl (.inl rfl) (pe_op op_add (pv 4) pe_int))))
      (pss_cons (ps_if (pt_cmpR op_lt (pe_ca md b_l_mark_day hr (by decide) pass0 rfl (pa_cons (pv 0) (pa_cons (pv 4) pa_nil))) (pe_ca st b_l_start hr (by decide) pass0 rfl (pa_cons (pv 0) (pa_cons (pe_op op_add (pv 1) pe_int) pa_nil))) (nomark _)) (pss_one (ps_ret (pv 4))) pss_nil)
      (pss_one (ps_ret pe_non)))))), ?_⟩
    have hy := g.fit.ypos
    have hy' := g.fit.ypos'
    have zs : Sz 2100 (stF m o i) := g.zst zi (by decide) (by decide)
    refine ⟨_, rfl, _, rfl, r, i, m, y, o, k, rfl, fo, g, zi.mono (by decide), fun Ha sa => ?_⟩
    refine ⟨_, rfl, (by show 2 ≤ sizeLine; decide), fun t0 n0 => ?_⟩
    have s0 : Same H (L2.upd Ha t0 (.tup [.int (stF m o i), .int 1])) := sa.trans (Same.new n0)
    refine ⟨_, rfl, r, _, _, _, rfl, rfl, SqT.of (s0 _ _ e), rfl, d, _, _, _, rfl, rfl, SqT.of (s0 _ _ h4), rfl, _, _, rfl, rfl, _, rfl, r, _, _, _, rfl, rfl, SqT.of (s0 _ _ e), rfl, d, _, _, _, rfl, rfl, SqT.of (s0 _ _ h4), rfl, (by show 2 ≤ sizeLine; decide), fun t1 n1 => ?_⟩
    have s1 : Same _ (L2.upd (L2.upd Ha t0 (.tup [.int (stF m o i), .int 1])) t1 (.tup [.int (0 - k.num), .int k.den])) := Same.new n1
    have zx : Rz 2500 ((stF m o i : Rat) - k) := (Rz.int zs (by decide)).sub g.zk (by decide)
    refine ⟨t0, t1, (stF m o i : Rat), -k, rfl, (int_div (stF m o i) (zs.mono (by decide)) (by decide)).same s1, ⟨0 - k.num, k.den, upd_same, Int.ne_of_gt (den_pos k), ?_, ?_, g.zk.2.mono (by decide)⟩, fun t2 H2 n2 s2 e2 => ?_⟩
    · rw [Int.zero_sub, ← Rat.neg_num, ← Rat.neg_den, Rat.num_divInt_den]
    · rw [Int.zero_sub]
      exact g.zk.1.neg.mono (by decide)
    have e2' : Tp H2 t2 ((stF m o i : Rat) - k) := by
      rw [Rat.sub_eq_add_neg]
      exact e2
    have s02 : Same H H2 := s0.trans (s1.trans s2)
    have hyn := num_pos hy'
    have hdv : 0 < (((stF m o i : Rat) - k).den : Int) * y.num := Int.mul_pos (den_pos _) hyn
    have z12 : Sz 2600 (((stF m o i : Rat) - k).num * 12) := (zx.1.mul (szi (n := 4) 12)).mono (by decide)
    refine ⟨_, rfl, t2, _, _, _, rfl, rfl, SqT.of e2', rfl, _, _, rfl, rfl, ⟨zx.1.mono (by decide), (szi (n := 4) 12).mono (by decide)⟩, _, rfl, r, _, _, _, rfl, rfl, SqT.of (s02 _ _ e), rfl, b, _, _, _, rfl, rfl, SqT.of (s02 _ _ h2), rfl, _, _, rfl, rfl, ⟨z12.mono (by decide), g.zy.2.mono (by decide)⟩,
      _, rfl, t2, _, _, _, rfl, rfl, SqT.of e2', rfl, _, rfl, r, _, _, _, rfl, rfl, SqT.of (s02 _ _ e), rfl, b, _, _, _, rfl, rfl, SqT.of (s02 _ _ h2), rfl, _, _, rfl, rfl, ⟨zx.2.mono (by decide), g.zy.1.mono (by decide)⟩, _, _, rfl, rfl, ⟨Int.ne_of_gt hdv, (zx.2.mul g.zy.1).mono (by decide)⟩, _, _, rfl, rfl, ?_⟩
    have ek : (((stF m o i : Rat) - k).num * 12 * (y.den : Int)).fdiv ((((stF m o i : Rat) - k).den : Int) * y.num) = (((stF m o i : Rat) - k) / (y / 12)).floor := by
      rw [Int.fdiv_eq_ediv_of_nonneg _ (Int.le_of_lt hdv), ← floor_divInt hdv, div12 _ _ (by grind)]
    have zj0 : Sz 2950 ((((stF m o i : Rat) - k) / (y / 12)).floor - 1) := Sz.sub (n := 2940) ((Sz.floor (zx.div g.ztw (by grind) (by decide : _ < 2940)))) (szi 1 (Nat.one_lt_two_pow (by decide))) (by decide)
    have zJ : Sz 2950 (jF y k (stF m o i)) := g.zj zs (by decide) (by decide)
    refine while_by (fun σ H' => ∃ j' : Int, σ = [some (.ref r), some (.int i), some (.int (stF m o i)), some (.ref t2), some (.int j')] ∧ (((stF m o i : Rat) - k) / (y / 12)).floor - 1 ≤ j' ∧ j' ≤ jF y k (stF m o i) ∧ Same H H') (muI 4 (jF y k (stF m o i))) ⟨_, ?_, Int.le_refl _, j0_le _, s02⟩ ?_ ?_
    · rw [← ek]
      rfl
    · rintro σ H' ⟨j', rfl, l1, l2, hs⟩
      have zj' : Sz 2950 j' := Sz.between zj0 zJ l1 l2
      refine ⟨_, rfl, _, rfl, r, j', m, y, o, k, rfl, fo.same hs, g, zj'.mono (by decide), fun H3 s3 => ⟨_, rfl, _, _, rfl, rfl, _, rfl, ?_⟩⟩
      refine ite2 (fun hb => ?_) (fun hb => ?_)
      · have hle : j' < jF y k (stF m o i) := (md_lt hy).mp (of_decide_eq_true hb)
        refine ⟨_, rfl, _, _, rfl, rfl, ⟨j' + 1, rfl, by omega, by omega, hs.trans s3⟩, ?_⟩
        show (jF y k (stF m o i) - (j' + 1)).toNat < (jF y k (stF m o i) - j').toNat
        omega
      · have hgt : ¬ j' < jF y k (stF m o i) := fun z => hb (decide_eq_true ((md_lt hy).mpr z))
        have ej : j' = jF y k (stF m o i) := by omega
        subst ej
        have s3' := hs.trans s3
        refine ⟨_, rfl, _, rfl, r, _, m, y, o, k, rfl, fo.same s3', g, zj'.mono (by decide), fun H4 s4 => ?_⟩
        have s4' := s3'.trans s4
        refine ⟨_, rfl, _, rfl, _, _, rfl, rfl, r, i + 1, m, y, o, k, rfl, fo.same s4', g, Sz.add (n := 1400) zi (szi 1 (Nat.one_lt_two_pow (by decide))) (by decide), fun H5 s5 => ⟨_, _, rfl, rfl, _, rfl, ?_⟩⟩
        have q5 := q H5 (s4'.trans s5)
        unfold miF at q5
        refine ite2 (fun hb => ?_) (fun hb => ?_)
        · rw [if_pos (show mdF y k (jF y k (stF m o i)) < stF m o (i + 1) from of_decide_eq_true hb)] at q5
          exact ⟨_, rfl, q5⟩
        · rw [if_neg (show ¬ mdF y k (jF y k (stF m o i)) < stF m o (i + 1) from fun z => hb (decide_eq_true z))] at q5
          exact q5
    · rintro σ H' R R' hq ⟨v, h1, v2, h2, r', k', m', y', o', kk, e3, fo', g', z', hc⟩
      refine ⟨v, h1, v2, h2, r', k', m', y', o', kk, e3, fo', g', z', fun H3 s3 => ?_⟩
      obtain ⟨v3, h3, i2, j2, e4, e5, b', e6, hb⟩ := hc H3 s3
      exact ⟨v3, h3, i2, j2, e4, e5, b', e6, hq _ _ hb⟩
end
section
variable {P : Program} {w : World} {K : PySem.W.Frag} {mg : Str → Option Value} {base : Heap}
theorem ok_lmw (D : Df K mg "_law_month_with" s_l_month_with []) (ma : Ca P w K mg base CX0 4 "_law_month_at" s_l_month_at [] ["_law_four_here", "_law_a_day"] (spF1 2000 fun m _ o _ i => .int (maF m o i)))
    (md : Ca P w K mg base CX0 3 "_law_mark_day" s_l_mark_day [] ["_law_four_here", "_law_j"] (spF1 3000 fun _ y _ k i => .int (mdF y k i))) :
    Ca P w K mg base CX0 5 "_law_month_with" s_l_month_with [] ["_law_four_here", "_law_j"] (spF1 1200 fun m y o k i => .int (maF m o (mdF y k i))) := by
  refine ca0 (k := 4) D c_l_month_with (fun vs H Q E h => ?_) fun f cdv A outer s H vs Q E hr h => ?_
  · obtain ⟨r, i, m, y, o, k, rfl, _⟩ := h
    rfl
  · obtain ⟨r, i, m, y, o, k, rfl, fo, g, zi, q⟩ := h
    refine ⟨_, pss_one (ps_ret (pe_ca ma b_l_month_at hr (by decide) pass0 rfl (pa_cons (pv 0) (pa_cons (pe_ca md b_l_mark_day hr (by decide) pass0 rfl (pa_cons (pv 0) (pa_cons (pv 1) pa_nil))) pa_nil)))), ?_⟩
    refine ⟨_, rfl, _, rfl, _, rfl, r, i, m, y, o, k, rfl, fo, g, zi.mono (by decide), fun H1 s1 => ?_⟩
    exact ⟨r, _, m, y, o, k, rfl, fo.same s1, g, g.zmd zi (by decide) (by decide), fun H2 s2 => q H2 (s1.trans s2)⟩
end
/-! ### names of months -/
theorem mi_ahead {m y o k : Rat} (f : Fit m y) (i : Int) (h : ¬ mdF y k (jF y k (stF m o i)) < stF m o (i + 1)) : mdF y k (jF y k (stF m o (i - 1))) < stF m o i := by
  have two := two_months (m := m) (y := y) (o := o) (k := k) f i
  apply Int.not_le.mp
  intro hge
  have hlt : mdF y k (jF y k (stF m o (i - 1)) - 1) < stF m o (i - 1) := (md_lt f.ypos).mpr (by omega)
  have st0 := st_step (o := o) f.one (i - 1)
  rw [show i - 1 + 1 = i by omega] at st0
  have h1 : jF y k (stF m o (i - 1)) - 1 < jF y k (stF m o i) := (md_lt f.ypos).mp (by omega)
  have h2 : ¬ jF y k (stF m o (i - 1)) < jF y k (stF m o i) := fun z => by
    have := (md_lt f.ypos).mpr z
    omega
  have h3 : jF y k (stF m o (i - 1)) = jF y k (stF m o i) := by omega
  rw [h3] at two
  exact h two
/-- the mark that names a month, and whether it is the month's own -/
def nmJ (m y o k : Rat) (i : Int) : Int := if mdF y k (jF y k (stF m o i)) < stF m o (i + 1) then jF y k (stF m o i) else jF y k (stF m o (i - 1))
def nmO (m y o k : Rat) (i : Int) : Bool := !decide (mdF y k (jF y k (stF m o i)) < stF m o (i + 1))
def nmL (m y o k : Rat) (i : Int) : List V := [.int (nmJ m y o k i / 12), .int (nmJ m y o k i % 12 + 1), .bl (nmO m y o k i)]
theorem nm_own {m y o k : Rat} {i : Int} (h : mdF y k (jF y k (stF m o i)) < stF m o (i + 1)) : miF m y o k i = .int (nmJ m y o k i) ∧ nmO m y o k i = false := by
  unfold miF nmJ nmO
  rw [if_pos h, if_pos h, decide_eq_true h]
  exact ⟨rfl, rfl⟩
theorem nm_odd {m y o k : Rat} (f : Fit m y) {i : Int} (h : ¬ mdF y k (jF y k (stF m o i)) < stF m o (i + 1)) : miF m y o k i = .non ∧ miF m y o k (i - 1) = .int (nmJ m y o k i) ∧ nmO m y o k i = true ∧ nmO m y o k (i - 1) = false ∧ nmJ m y o k (i - 1) = nmJ m y o k i := by
  have a := mi_ahead f i h
  have a' : mdF y k (jF y k (stF m o (i - 1))) < stF m o (i - 1 + 1) := by rw [show i - 1 + 1 = i by omega]; exact a
  unfold miF nmJ nmO
  rw [if_neg h, if_neg h, decide_eq_false h, if_pos a', if_pos a', decide_eq_true a']
  exact ⟨rfl, rfl, rfl, rfl, rfl⟩
def spName (C Cc : Addr) : Sp := fun vs H Q _ => ∃ (p : Addr) (i : Int) (m y o k : Rat), vs = [.ref p, .int i] ∧ Cl C Cc H p m y o k ∧ Good m y o k ∧ Sz 1390 i ∧ ∀ r H', H r = none → Same H H' → H' r = some (.tup (nmL m y o k i)) → Q (.ref r) H'
def spLName : Sp := fun vs H Q _ => ∃ (r : Addr) (i : Int) (m y o k : Rat), vs = [.ref r, .int i] ∧ Fo H r m y o k ∧ Good m y o k ∧ Sz 1390 i ∧ ∀ r' H', H r' = none → Same H H' → H' r' = some (.tup (nmL m y o k i)) → Q (.ref r') H'
def spIsName : Sp := fun vs H Q _ => ∃ (r : Addr) (a b : Int) (c : Bool), vs = [.ref r] ∧ H r = some (.tup [.int a, .int b, .bl c]) ∧ Q (.bl true) H
section
variable {P : Program} {w : World} {K : PySem.W.Frag} {mg : Str → Option Value} {base : Heap} {C Cc : Addr}
theorem ok_name (D : Dm K Cc "name_of" "Calendar.name_of" s_Calendar_name_of) (f_mark_in : Cm P w K mg base CX0 8 Cc "mark_in" "Calendar.mark_in" s_Calendar_mark_in ["self", "k"] (spM1 C Cc 1400 miF)) {tk : Tok} (h_MARKS : mg "MARKS" = some (.int 12 tk)) : Cm P w K mg base CX0 9 Cc "name_of" "Calendar.name_of" s_Calendar_name_of ["self", "k"] (spName C Cc) := by
  refine cm0 (k := 8) D c_Calendar_name_of (fun vs H Q E h => ?_) fun f cdv A outer s H vs Q E hr h => ?_
  · obtain ⟨p, i, m, y, o, k, rfl, _⟩ := h
    rfl
  · obtain ⟨p, i, m, y, o, k, rfl, hc, g, zi, q⟩ := h
    obtain ⟨dx, a, b, c, d, e, h1, h2, h3, h4⟩ := id hc
    refine ⟨_, (pss_cons (ps_set (i := 2) c_Calendar_name_of.nd rfl (.inl rfl) (pe_cm f_mark_in b_Calendar_mark_in hr (by decide) pass0 (pv 0) (pa_cons (pv 1) pa_nil)))
      (pss_cons (ps_set (i := 3) c_Calendar_name_of.nd rfl (.inl rfl) (pe_cmp (pc_isN (pv 2))))
      (pss_cons (ps_if (pt_val (pv 3)) (pss_one (ps_set (i := 2) c_Calendar_name_of.nd rfl (.inl rfl) (pe_cm f_mark_in b_Calendar_mark_in hr (by decide) pass0 (pv 0) (pa_cons (pe_op op_sub (pv 1) pe_int) pa_nil)))) pss_nil)
      (pss_one (ps_ret (pe_tup (pa_cons (pe_op op_fdiv (pv 2) (pe_glob (v := .int 12) rfl h_MARKS ⟨_, rfl⟩)) (pa_cons (pe_op op_add (pe_op op_mod (pv 2) (pe_glob (v := .int 12) rfl h_MARKS ⟨_, rfl⟩)) pe_int) (pa_cons (pv 3) pa_nil))))))))), ?_⟩
    refine ⟨_, rfl, p, dx, _, rfl, e, cf_no _ _ _ _, _, rfl, p, i, m, y, o, k, rfl, hc, g, zi.mono (by decide), fun H1 s1 => ?_⟩
    refine ⟨_, rfl, _, rfl, _, rfl, ?_⟩
    by_cases hmi : mdF y k (jF y k (stF m o i)) < stF m o (i + 1)
    · obtain ⟨e1, e2⟩ := nm_own hmi
      rw [e1]
      refine iteF ?_
      refine ⟨_, rfl, _, _, rfl, rfl, ⟨by decide, by decide⟩, _, rfl, _, _, rfl, rfl, md, _, _, rfl, rfl, _, rfl, (by show 3 ≤ sizeLine; decide), fun r hr' => ?_⟩
      refine q r _ (s1.free hr') (Same.upd s1 hr') ?_
      rw [upd_same]
      unfold nmL
      rw [e2]
      rfl
    · obtain ⟨e1, e2, e3, _⟩ := nm_odd g.fit hmi
      rw [e1]
      refine iteT ?_
      refine ⟨_, rfl, p, dx, _, rfl, s1 _ _ e, cf_no _ _ _ _, _, rfl, _, _, rfl, rfl, p, _, m, y, o, k, rfl, hc.same s1, g, Sz.sub (n := 1390) zi (szi 1 (Nat.one_lt_two_pow (by decide))) (by decide), fun H2 s2 => ?_⟩
      rw [e2]
      refine ⟨_, rfl, _, _, rfl, rfl, ⟨by decide, by decide⟩, _, rfl, _, _, rfl, rfl, md, _, _, rfl, rfl, _, rfl, (by show 3 ≤ sizeLine; decide), fun r hr' => ?_⟩
      refine q r _ ((s1.trans s2).free hr') (Same.upd (s1.trans s2) hr') ?_
      rw [upd_same]
      unfold nmL
      rw [e3]
      rfl
end
section
variable {P : Program} {w : World} {K : PySem.W.Frag} {mg : Str → Option Value} {base : Heap} {C Cc : Addr}
theorem ok_lname (D : Df K mg "_law_name" s_l_name []) (f_l_mark_in : Ca P w K mg base CX0 4 "_law_mark_in" s_l_mark_in [] ["_law_four_here", "_law_k"] (spF1 1400 miF)) : Ca P w K mg base CX0 5 "_law_name" s_l_name [] ["_law_four_here", "_law_k"] spLName := by
  refine ca0 (k := 4) D c_l_name (fun vs H Q E h => ?_) fun f cdv A outer s H vs Q E hr h => ?_
  · obtain ⟨r, i, m, y, o, k, rfl, _⟩ := h
    rfl
  · obtain ⟨r, i, m, y, o, k, rfl, fo, g, zi, q⟩ := h
    refine ⟨_, (pss_cons (ps_set (i := 2) c_l_name.nd rfl (.inl rfl) (pe_ca f_l_mark_in b_l_mark_in hr (by decide) pass0 rfl (pa_cons (pv 0) (pa_cons (pv 1) pa_nil))))
      (pss_cons (ps_if (pt_cmp (pc_notN (pv 2))) (pss_one (ps_ret (pe_tup (pa_cons (pe_op op_fdiv (pv 2) pe_int) (pa_cons (pe_op op_add (pe_op op_mod (pv 2) pe_int) pe_int) (pa_cons pe_bl pa_nil)))))) pss_nil)
      (pss_cons (ps_set (i := 2) c_l_name.nd rfl (.inl rfl) (pe_ca f_l_mark_in b_l_mark_in hr (by decide) pass0 rfl (pa_cons (pv 0) (pa_cons (pe_op op_sub (pv 1) pe_int) pa_nil))))
      (pss_one (ps_ret (pe_tup (pa_cons (pe_op op_fdiv (pv 2) pe_int) (pa_cons (pe_op op_add (pe_op op_mod (pv 2) pe_int) pe_int) (pa_cons pe_bl pa_nil))))))))), ?_⟩
    refine ⟨_, rfl, _, rfl, r, i, m, y, o, k, rfl, fo, g, zi.mono (by decide), fun H1 s1 => ?_⟩
    refine ⟨_, rfl, _, rfl, ?_⟩
    by_cases hmi : mdF y k (jF y k (stF m o i)) < stF m o (i + 1)
    · obtain ⟨e1, e2⟩ := nm_own hmi
      rw [e1]
      refine iteT ?_
      refine ⟨_, rfl, _, _, rfl, rfl, ⟨by decide, by decide⟩, _, rfl, _, _, rfl, rfl, md, _, _, rfl, rfl, (by show 3 ≤ sizeLine; decide), fun r' hr' => ?_⟩
      refine q r' _ (s1.free hr') (Same.upd s1 hr') ?_
      rw [upd_same]
      unfold nmL
      rw [e2]
    · obtain ⟨e1, e2, e3, _⟩ := nm_odd g.fit hmi
      rw [e1]
      refine iteF ?_
      refine ⟨_, rfl, _, rfl, _, _, rfl, rfl, r, _, m, y, o, k, rfl, fo.same s1, g, Sz.sub (n := 1390) zi (szi 1 (Nat.one_lt_two_pow (by decide))) (by decide), fun H2 s2 => ?_⟩
      rw [e2]
      refine ⟨_, rfl, _, _, rfl, rfl, ⟨by decide, by decide⟩, _, rfl, _, _, rfl, rfl, md, _, _, rfl, rfl, (by show 3 ≤ sizeLine; decide), fun r' hr' => ?_⟩
      refine q r' _ ((s1.trans s2).free hr') (Same.upd (s1.trans s2) hr') ?_
      rw [upd_same]
      unfold nmL
      rw [e3]
end
/-! ### the months of a year -/
/-- the month with a mark -/
def mwF (m y o k : Rat) (j : Int) : Int := maF m o (mdF y k j)
theorem mw_in {m y o k : Rat} (f : Fit m y) (j : Int) : stF m o (mwF m y o k j) ≤ mdF y k j ∧ mdF y k j < stF m o (mwF m y o k j + 1) := ⟨st_ma f.pos _, ma_st f.pos _⟩
theorem mw_step {m y o k : Rat} (f : Fit m y) (j : Int) : mwF m y o k j + 1 ≤ mwF m y o k (j + 1) := by
  have h1 := mw_in (o := o) (k := k) f j
  have h2 := mw_in (o := o) (k := k) f (j + 1)
  have h3 : mdF y k j ≤ mdF y k (j + 1) := md_mono f.ypos (by omega)
  have h4 : mwF m y o k j ≤ mwF m y o k (j + 1) := (st_le f.pos).mp (Int.le_trans h1.1 h3)
  rcases Int.lt_or_eq_of_le h4 with h | h
  · omega
  · rw [← h] at h2
    have a := one_mark f h1.1 h1.2
    have b := one_mark f h2.1 h2.2
    omega
theorem mw_add {m y o k : Rat} (f : Fit m y) (j : Int) : ∀ t : Nat, mwF m y o k j + t ≤ mwF m y o k (j + t)
  | 0 => by rw [show j + ((0 : Nat) : Int) = j by omega]; omega
  | t + 1 => by
    have h1 := mw_add (o := o) (k := k) f j t
    have h2 := mw_step (o := o) (k := k) f (j + t)
    rw [show j + ((t + 1 : Nat) : Int) = j + t + 1 by omega]
    omega
theorem mw_lt {m y o k : Rat} (f : Fit m y) {i j : Int} (h : i < j) : mwF m y o k i < mwF m y o k j := by
  obtain ⟨t, rfl⟩ : ∃ t : Nat, j = i + t := ⟨(j - i).toNat, by omega⟩
  have := mw_add (o := o) (k := k) f i t
  omega
theorem mw_most {m y o k : Rat} (f : Fit m y) (j : Int) : mwF m y o k (j + 12) ≤ mwF m y o k j + 13 := by
  have h1 := mw_in (o := o) (k := k) f j
  have h2 := mw_in (o := o) (k := k) f (j + 12)
  generalize mwF m y o k j = M at *
  apply Int.not_lt.mp
  intro hlt
  have h3 : stF m o (M + 14) ≤ mdF y k (j + 12) := Int.le_trans ((st_le f.pos).mpr (by rw [show mwF m y o k (j + 12) = maF m o (mdF y k (j + 12)) from rfl] at hlt; rw [show maF m o (mdF y k (j + 12)) = maF m o (mdF y k (j + 12)) from rfl]; omega)) (Int.le_refl _)
  have f13 := f.thirteen
  have a1 : k + (j : Rat) * (y / 12) < ((stF m o (M + 1) : Int) : Rat) := by
    have := (floor_le_iff (q := k + (j : Rat) * (y / 12)) (i := stF m o (M + 1) - 1)).mp (by have : mdF y k j < stF m o (M + 1) := h1.2; unfold mdF at this; omega)
    rw [show stF m o (M + 1) - 1 + 1 = stF m o (M + 1) by omega] at this
    exact this
  have a2 : ((stF m o (M + 1) : Int) : Rat) ≤ o + ((M + 1 : Int) : Rat) * m := int_le_floor.mp (Int.le_refl _)
  have a3 : ((stF m o (M + 14) : Int) : Rat) ≤ k + ((j + 12 : Int) : Rat) * (y / 12) := int_le_floor.mp h3
  have a4 : o + ((M + 14 : Int) : Rat) * m < ((stF m o (M + 14) + 1 : Int) : Rat) := floor_le_iff.mp (Int.le_refl _)
  have c1 : ((M + 1 : Int) : Rat) = (M : Rat) + 1 := cast_add1 M
  have c14 : ((M + 14 : Int) : Rat) = (M : Rat) + 14 := by rw [Rat.intCast_add]; rfl
  have c12 : ((j + 12 : Int) : Rat) = (j : Rat) + 12 := by rw [Rat.intCast_add]; rfl
  rw [cast_add1] at a4
  rw [c1] at a2
  rw [c14] at a4
  rw [c12] at a3
  generalize ((stF m o (M + 1) : Int) : Rat) = S1 at *
  generalize ((stF m o (M + 14) : Int) : Rat) = S2 at *
  generalize (M : Rat) = Mq at *
  generalize (j : Rat) = jq at *
  grind
/-- a month with a mark, and one without -/
theorem nm_with {m y o k : Rat} (f : Fit m y) {i j : Int} (h : mwF m y o k j = i) : nmJ m y o k i = j ∧ nmO m y o k i = false := by
  have h1 := mw_in (o := o) (k := k) f j
  rw [h] at h1
  have e := one_mark f h1.1 h1.2
  have h2 : mdF y k (jF y k (stF m o i)) < stF m o (i + 1) := by rw [e]; exact h1.2
  unfold nmJ nmO
  rw [if_pos h2, e, decide_eq_true (by rw [← e]; exact h2)]
  exact ⟨rfl, rfl⟩
theorem nm_without {m y o k : Rat} (f : Fit m y) {i : Int} (h : ∀ j, mwF m y o k j ≠ i) : nmO m y o k i = true ∧ nmJ m y o k i = nmJ m y o k (i - 1) := by
  by_cases c : mdF y k (jF y k (stF m o i)) < stF m o (i + 1)
  · exact absurd (ma_of f.pos (md_ge f.ypos _) c) (h _)
  · obtain ⟨_, _, h3, _, h5⟩ := nm_odd f c
    exact ⟨h3, h5.symm⟩
/-- p is the place of the odd month, 12 where there is none -/
structure YrN (m y o k : Rat) (a : Int) (p e : Nat) : Prop where
  e1 : e ≤ 1
  p1 : 1 ≤ p
  p12 : p ≤ 12
  pe : e = 0 → p = 12
  last : mwF m y o k (12 * a + 12) = mwF m y o k (12 * a) + 12 + e
  nm : ∀ i : Nat, i < 12 + e → nmO m y o k (mwF m y o k (12 * a) + i) = decide (i = p) ∧ nmJ m y o k (mwF m y o k (12 * a) + i) = 12 * a + (if i < p then (i : Int) else (i : Int) - 1)
theorem year_names {m y o k : Rat} (f : Fit m y) (a : Int) : ∃ p e : Nat, YrN m y o k a p e := by
  generalize hF : mwF m y o k (12 * a) = F
  have up : ∀ t : Nat, F + t ≤ mwF m y o k (12 * a + t) := fun t => by rw [← hF]; exact mw_add f _ t
  have l12 := mw_most (o := o) (k := k) f (12 * a)
  rw [hF] at l12
  have u12 := up 12
  have dn : ∀ t : Nat, t ≤ 12 → mwF m y o k (12 * a + t) + (12 - t : Nat) ≤ mwF m y o k (12 * a + 12) := fun t ht => by
    have := mw_add (o := o) (k := k) f (12 * a + t) (12 - t)
    rw [show 12 * a + (t : Int) + ((12 - t : Nat) : Int) = 12 * a + 12 by omega] at this
    exact this
  have u12' : F + 12 ≤ mwF m y o k (12 * a + 12) := u12
  by_cases c : mwF m y o k (12 * a + 12) = F + 12
  · refine ⟨12, 0, by omega, by omega, by omega, fun _ => rfl, by rw [hF, c]; omega, fun i hi => ?_⟩
    have e : mwF m y o k (12 * a + i) = F + i := by
      have := up i
      have := dn i (by omega)
      omega
    rw [hF]
    obtain ⟨h1, h2⟩ := nm_with f e
    rw [h1, h2, if_pos (by omega), decide_eq_false (by omega)]
    exact ⟨rfl, rfl⟩
  · have c13 : mwF m y o k (12 * a + 12) = F + 13 := by omega
    have two : ∀ t : Nat, t ≤ 12 → mwF m y o k (12 * a + t) = F + t ∨ mwF m y o k (12 * a + t) = F + t + 1 := fun t ht => by
      have := up t
      have := dn t ht
      omega
    -- the least t that is put off
    have ex : ∃ p : Nat, p ≤ 12 ∧ mwF m y o k (12 * a + p) = F + p + 1 ∧ ∀ t : Nat, t < p → mwF m y o k (12 * a + t) = F + t := by
      have go : ∀ n : Nat, n ≤ 12 → (∀ t : Nat, t < n → mwF m y o k (12 * a + t) = F + t) ∨ ∃ p : Nat, p ≤ 12 ∧ mwF m y o k (12 * a + p) = F + p + 1 ∧ ∀ t : Nat, t < p → mwF m y o k (12 * a + t) = F + t := by
        intro n
        induction n with
        | zero => intro _; exact .inl fun t ht => absurd ht (Nat.not_lt_zero t)
        | succ n ih =>
          intro hn
          rcases ih (by omega) with h | h
          · rcases two n (by omega) with h2 | h2
            · refine .inl fun t ht => ?_
              by_cases e : t = n
              · rw [e]
                exact h2
              · exact h t (by omega)
            · exact .inr ⟨n, by omega, h2, h⟩
          · exact .inr h
      rcases go 12 (by omega) with h | h
      · exact ⟨12, by omega, by rw [show 12 * a + ((12 : Nat) : Int) = 12 * a + 12 from rfl, c13]; omega, h⟩
      · exact h
    obtain ⟨p, p12, hp, hlt⟩ := ex
    have p1 : 1 ≤ p := by
      apply Nat.one_le_iff_ne_zero.mpr
      intro z
      subst z
      rw [show 12 * a + ((0 : Nat) : Int) = 12 * a by omega, hF] at hp
      omega
    refine ⟨p, 1, by omega, p1, p12, fun z => absurd z (by decide), by rw [hF, c13]; omega, fun i hi => ?_⟩
    rw [hF]
    by_cases c1 : i < p
    · obtain ⟨h1, h2⟩ := nm_with f (hlt i c1)
      rw [h1, h2, if_pos c1, decide_eq_false (by omega)]
      exact ⟨rfl, rfl⟩
    · rw [if_neg c1]
      by_cases c2 : i = p
      · subst c2
        rw [decide_eq_true rfl]
        have no : ∀ j, mwF m y o k j ≠ F + i := fun j hj => by
          have h1 : 12 * a + ((i - 1 : Nat) : Int) < j := by
            apply Int.not_le.mp
            intro z
            have e1 := hlt (i - 1) (by omega)
            rcases Int.lt_or_eq_of_le z with z | z
            · have := mw_lt (o := o) (k := k) f z
              omega
            · rw [z] at hj
              omega
          have h2 : j < 12 * a + (i : Int) := by
            apply Int.not_le.mp
            intro z
            rcases Int.lt_or_eq_of_le z with z | z
            · have := mw_lt (o := o) (k := k) f z
              omega
            · rw [← z] at hj
              omega
          omega
        obtain ⟨h1, h2⟩ := nm_without f no
        refine ⟨h1, ?_⟩
        rw [h2, show F + (i : Int) - 1 = F + ((i - 1 : Nat) : Int) by omega, (nm_with f (hlt (i - 1) (by omega))).1]
        omega
      · have e : mwF m y o k (12 * a + ((i - 1 : Nat) : Int)) = F + (i : Int) := by
          have h1 := two (i - 1) (by omega)
          have h2 := mw_add (o := o) (k := k) f (12 * a + p) (i - 1 - p)
          rw [show 12 * a + (p : Int) + ((i - 1 - p : Nat) : Int) = 12 * a + ((i - 1 : Nat) : Int) by omega, hp] at h2
          omega
        obtain ⟨h1, h2⟩ := nm_with f e
        rw [h1, h2, decide_eq_false c2]
        exact ⟨rfl, by omega⟩
/-- the name of the i-th month of a year -/
def nfN (p i : Nat) : Int := if i < p then (i : Int) + 1 else (i : Int)
theorem YrN.name {m y o k : Rat} {a : Int} {p e : Nat} (h : YrN m y o k a p e) {i : Nat} (hi : i < 12 + e) : nmL m y o k (mwF m y o k (12 * a) + i) = [.int a, .int (nfN p i), .bl (decide (i = p))] := by
  obtain ⟨h1, h2⟩ := h.nm i hi
  have p1 := h.p1
  have p12 := h.p12
  have e1 := h.e1
  have pe := h.pe
  have r : ∀ u : Int, 0 ≤ u → u < 12 → (12 * a + u) / 12 = a ∧ (12 * a + u) % 12 = u := fun u h0 h1 => by constructor <;> omega
  unfold nmL nfN
  rw [h1, h2]
  by_cases c : i < p
  · obtain ⟨r1, r2⟩ := r i (by omega) (by omega)
    rw [if_pos c, if_pos c, r1, r2]
  · obtain ⟨r1, r2⟩ := r ((i : Int) - 1) (by omega) (by omega)
    rw [if_neg c, if_neg c, r1, r2, show (i : Int) - 1 + 1 = i by omega]
theorem all_p {P : Nat → Nat → Prop} (h0 : P 12 0) (h1 : ∀ p, 1 ≤ p → p ≤ 12 → P p 1) {m y o k : Rat} {a : Int} {p e : Nat} (h : YrN m y o k a p e) : P p e := by
  have e1 := h.e1
  rcases Nat.le_one_iff_eq_zero_or_eq_one.mp e1 with z | z
  · rw [z, h.pe z]
    exact h0
  · rw [z]
    exact h1 p h.p1 h.p12
theorem plain_all {m y o k : Rat} {a : Int} {p e : Nat} (h : YrN m y o k a p e) : ((List.range (12 + e)).filter (fun i => !decide (i = p))).map (nfN p) = [1, 2, 3, 4, 5, 6, 7, 8, 9, 10, 11, 12] := by
  refine all_p (P := fun p e => ((List.range (12 + e)).filter (fun i => !decide (i = p))).map (nfN p) = [1, 2, 3, 4, 5, 6, 7, 8, 9, 10, 11, 12]) (by decide) (fun p h1 h2 => ?_) h
  have : ∀ p : Nat, p < 13 → 1 ≤ p → ((List.range (12 + 1)).filter (fun i => !decide (i = p))).map (nfN p) = [1, 2, 3, 4, 5, 6, 7, 8, 9, 10, 11, 12] := by decide
  exact this p (by omega) h1
theorem odd_all {m y o k : Rat} {a : Int} {p e : Nat} (h : YrN m y o k a p e) : ((List.range (12 + e)).filter (fun i => decide (i = p))).length = e := by
  refine all_p (P := fun p e => ((List.range (12 + e)).filter (fun i => decide (i = p))).length = e) (by decide) (fun p h1 h2 => ?_) h
  have : ∀ p : Nat, p < 13 → 1 ≤ p → ((List.range (12 + 1)).filter (fun i => decide (i = p))).length = 1 := by decide
  exact this p (by omega) h1
theorem rise_all {m y o k : Rat} {a : Int} {p e : Nat} (h : YrN m y o k a p e) : ((List.range (12 + e)).map fun i => (nfN p i, decide (i = p))).Pairwise (fun x y => SrtO.lexB (kB y) (kB x) = false) := by
  refine all_p (P := fun p e => ((List.range (12 + e)).map fun i => (nfN p i, decide (i = p))).Pairwise (fun x y => SrtO.lexB (kB y) (kB x) = false)) (by decide) (fun p h1 h2 => ?_) h
  have : ∀ p : Nat, p < 13 → 1 ≤ p → ((List.range (12 + 1)).map fun i => (nfN p i, decide (i = p))).Pairwise (fun x y => SrtO.lexB (kB y) (kB x) = false) := by decide
  exact this p (by omega) h1
/-- how long months are -/
theorem st_len {m o : Rat} (h1 : 1 ≤ m) (i : Int) : 1 ≤ stF m o (i + 1) - stF m o i ∧ m.floor ≤ stF m o (i + 1) - stF m o i ∧ stF m o (i + 1) - stF m o i ≤ m.floor + 1 := by
  have a := st_step (o := o) h1 i
  have b1 : ((stF m o i : Int) : Rat) ≤ o + (i : Rat) * m := int_le_floor.mp (Int.le_refl _)
  have b2 : o + (i : Rat) * m < ((stF m o i + 1 : Int) : Rat) := floor_le_iff.mp (Int.le_refl _)
  have c1 : ((stF m o (i + 1) : Int) : Rat) ≤ o + ((i + 1 : Int) : Rat) * m := int_le_floor.mp (Int.le_refl _)
  have c2 : o + ((i + 1 : Int) : Rat) * m < ((stF m o (i + 1) + 1 : Int) : Rat) := floor_le_iff.mp (Int.le_refl _)
  have d1 : ((m.floor : Int) : Rat) ≤ m := int_le_floor.mp (Int.le_refl _)
  have d2 : m < ((m.floor + 1 : Int) : Rat) := floor_le_iff.mp (Int.le_refl _)
  rw [cast_add1] at b2 c1 c2 d2
  rw [cast_add1] at c2
  refine ⟨by omega, ?_, ?_⟩
  · apply Int.not_lt.mp
    intro z
    have z2 : stF m o (i + 1) + 1 ≤ stF m o i + m.floor := by omega
    have z3 : ((stF m o (i + 1) + 1 : Int) : Rat) ≤ ((stF m o i + m.floor : Int) : Rat) := by exact_mod_cast z2
    rw [Rat.intCast_add, Rat.intCast_add] at z3
    have : ((1 : Int) : Rat) = 1 := rfl
    grind
  · apply Int.not_lt.mp
    intro z
    have z2 : stF m o i + m.floor + 2 ≤ stF m o (i + 1) := by omega
    have z3 : ((stF m o i + m.floor + 2 : Int) : Rat) ≤ ((stF m o (i + 1) : Int) : Rat) := by exact_mod_cast z2
    rw [Rat.intCast_add, Rat.intCast_add] at z3
    have : ((2 : Int) : Rat) = 2 := rfl
    grind
theorem znat {n : Nat} (j : Nat) (h : j < 1024) (hn : 10 ≤ n) : Sz n (j : Int) := Nat.lt_of_lt_of_le (show (j : Int).natAbs < 2 ^ 10 by omega) (Nat.pow_le_pow_right (by decide) hn)
theorem zadd {n l : Nat} {i : Int} (h : Sz n i) (c : Int) (hc : c.natAbs ≤ 16 := by decide) (h4 : 5 ≤ n := by decide) (hl : n < l := by decide) : Sz l (i + c) := by
  refine Sz.add h (n := n) ?_ hl
  exact Nat.lt_of_lt_of_le (Nat.lt_of_le_of_lt hc (by decide : 16 < 2 ^ 5)) (Nat.pow_le_pow_right (by decide) h4)
theorem zsub {n l : Nat} {i : Int} (h : Sz n i) (c : Int) (hc : c.natAbs ≤ 16 := by decide) (h4 : 5 ≤ n := by decide) (hl : n < l := by decide) : Sz l (i - c) := by
  refine Sz.sub h (n := n) ?_ hl
  exact Nat.lt_of_lt_of_le (Nat.lt_of_le_of_lt hc (by decide : 16 < 2 ^ 5)) (Nat.pow_le_pow_right (by decide) h4)
theorem zdiv {n : Nat} {i : Int} (h : Sz n i) : Sz n (i / 12) := Nat.lt_of_le_of_lt (natAbs_ediv_le (b := 12) i) h
theorem Good.znm {m y o k : Rat} (g : Good m y o k) {n l : Nat} {i : Int} (h : Sz n i) (h0 : 5 ≤ n) (hl : n + 320 < l) : Sz l (nmJ m y o k i) := by
  have z1 : Sz (n + 151) (stF m o i) := g.zst h (by omega) (by omega)
  have z2 : Sz (n + 152) (stF m o (i - 1)) := g.zst (zsub (l := n + 1) h 1 (by decide) h0 (by omega)) (by omega) (by omega)
  unfold nmJ
  split
  · exact g.zj z1 (by omega) (by omega)
  · exact g.zj z2 (by omega) (by omega)
def dtY (m y o k : Rat) (i : Int) : Int := nmJ m y o k (maF m o i) / 12
def dtN (m y o k : Rat) (i : Int) : Int := nmJ m y o k (maF m o i) % 12 + 1
def dtD (m o : Rat) (i : Int) : Int := i - stF m o (maF m o i) + 1
def dtO (m y o k : Rat) (i : Int) : Bool := nmO m y o k (maF m o i)
/-- a year is no greater than its day, but for what month and mark bring -/
theorem Good.zdY {m y o k : Rat} (g : Good m y o k) {n : Nat} {i : Int} (h : Sz n i) (hn : 75 ≤ n) : Sz (n + 2) (dtY m y o k i) := by
  have f := g.fit
  have s1 := st_ma (o := o) f.pos i
  have s2 := ma_st (o := o) f.pos i
  have w1 := st_w (o := o) f (maF m o i)
  have w0 := st_w (o := o) f (maF m o i - 1)
  rw [show maF m o i - 1 + 1 = maF m o i by omega] at w0
  have zc : Sz 70 m.ceil := Sz.ceil g.zm
  have zk : Sz 70 k.floor := Sz.floor g.zk
  have mk : stF m o (maF m o i - 1) ≤ mdF y k (nmJ m y o k (maF m o i)) ∧ mdF y k (nmJ m y o k (maF m o i)) < stF m o (maF m o i + 1) := by
    by_cases hm : mdF y k (jF y k (stF m o (maF m o i))) < stF m o (maF m o i + 1)
    · have e1 : nmJ m y o k (maF m o i) = jF y k (stF m o (maF m o i)) := by unfold nmJ; rw [if_pos hm]
      rw [e1]
      have a1 := md_ge (y := y) (k := k) f.ypos (stF m o (maF m o i))
      have a2 := st_step (o := o) f.one (maF m o i - 1)
      rw [show maF m o i - 1 + 1 = maF m o i by omega] at a2
      exact ⟨by omega, hm⟩
    · have e1 : nmJ m y o k (maF m o i) = jF y k (stF m o (maF m o i - 1)) := by unfold nmJ; rw [if_neg hm]
      rw [e1]
      have a1 := md_ge (y := y) (k := k) f.ypos (stF m o (maF m o i - 1))
      have a2 := mi_ahead (o := o) (k := k) f (maF m o i) hm
      have a3 := st_step (o := o) f.one (maF m o i)
      exact ⟨a1, by omega⟩
  have t1 : 1 ≤ y / 12 := by
    have b1 := f.one
    have b2 := f.between
    have b3 : m ≤ (m.ceil : Rat) := by
      apply Rat.not_lt.mp
      intro z
      have := lt_ceil_iff (q := m) (i := m.ceil) |>.mpr z
      omega
    grind
  generalize hJ : nmJ m y o k (maF m o i) = J at mk
  have md1 := int_le_floor (i := mdF y k J) (x := k + (J : Rat) * (y / 12)) |>.mp (Int.le_refl _)
  have md2 := floor_le_iff (q := k + (J : Rat) * (y / 12)) (i := mdF y k J) |>.mp (Int.le_refl _)
  rw [cast_add1] at md2
  have kf := int_le_floor (i := k.floor) (x := k) |>.mp (Int.le_refl _)
  have kl := floor_le_iff (q := k) (i := k.floor) |>.mp (Int.le_refl _)
  rw [cast_add1] at kl
  have up : 0 ≤ J → J ≤ mdF y k J - k.floor + 1 := fun h0 => by
    have c0 : (0 : Rat) ≤ (J : Rat) := by exact_mod_cast h0
    have c1 := Rat.mul_le_mul_of_nonneg_left t1 c0
    have c2 : ((J : Int) : Rat) ≤ ((mdF y k J - k.floor + 1 : Int) : Rat) := by
      rw [cast_add1, Rat.intCast_sub]
      grind
    exact_mod_cast c2
  have dn : J ≤ 0 → mdF y k J - k.floor - 1 ≤ J := fun h0 => by
    have c0 : (J : Rat) ≤ 0 := by exact_mod_cast h0
    have c1 : (J : Rat) * (y / 12) ≤ (J : Rat) := by
      have := Rat.mul_le_mul_of_nonneg_left t1 (show (0 : Rat) ≤ -(J : Rat) by grind)
      grind
    have c2 : ((mdF y k J - k.floor - 1 : Int) : Rat) ≤ ((J : Int) : Rat) := by
      rw [Rat.intCast_sub, Rat.intCast_sub]
      have : ((1 : Int) : Rat) = 1 := rfl
      grind
    exact_mod_cast c2
  have zJ : Sz (n + 2) J := by
    have p1 : (2 : Nat) ^ 75 ≤ 2 ^ n := Nat.pow_le_pow_right (by decide) hn
    have p2 : (2 : Nat) ^ (n + 2) = 2 ^ n * 4 := by rw [Nat.pow_add]
    have p3 : (2 : Nat) ^ 75 = 2 ^ 70 * 32 := by decide
    unfold Sz at *
    omega
  unfold dtY
  rw [hJ]
  exact Nat.lt_of_le_of_lt (Int.natAbs_ediv_le_natAbs _ _) zJ
def spDaysOf (C Cc : Addr) : Sp := fun vs H Q _ => ∃ (p : Addr) (i j : Int) (m y o k : Rat), vs = [.ref p, .int i, .int j] ∧ Cl C Cc H p m y o k ∧ Good m y o k ∧ Sz 1500 i ∧ Sz 1500 j ∧ ∀ H', Same H H' → Q (.int (stF m o (i + j) - stF m o i)) H'
section
variable {P : Program} {w : World} {K : PySem.W.Frag} {mg : Str → Option Value} {base : Heap} {C Cc : Addr}
theorem ok_daysof (D : Df K mg "days_of" s_days_of []) (f_start : Cm P w K mg base CX0 7 Cc "start" "Calendar.start" s_Calendar_start ["self", "k"] (spM1 C Cc 3000 fun m _ o _ i => .int (stF m o i))) : Ca P w K mg base CX0 8 "days_of" s_days_of [] ["calendar", "k", "many"] (spDaysOf C Cc) := by
  refine ca0 (k := 7) D c_days_of (fun vs H Q E h => ?_) fun f cdv A outer s H vs Q E hr h => ?_
  · obtain ⟨p, i, j, m, y, o, k, rfl, _⟩ := h
    rfl
  · obtain ⟨p, i, j, m, y, o, k, rfl, hc, g, zi, zj, q⟩ := h
    obtain ⟨dx, a, b, c, d, e, h1, h2, h3, h4⟩ := id hc
    refine ⟨_, (pss_one (ps_ret (pe_op op_sub (pe_cm f_start b_Calendar_start hr (by decide) pass0 (pv 0) (pa_cons (pe_op op_add (pv 1) (pv 2)) pa_nil)) (pe_cm f_start b_Calendar_start hr (by decide) pass0 (pv 0) (pa_cons (pv 1) pa_nil))))), ?_⟩
    refine ⟨_, rfl, p, dx, _, rfl, e, cf_no _ _ _ _, _, rfl, _, rfl, _, _, rfl, rfl, p, _, m, y, o, k, rfl, hc, g, (Sz.add zi zj (by decide : 1500 < 1600)).mono (by decide), fun H1 s1 => ?_⟩
    refine ⟨_, rfl, p, dx, _, rfl, s1 _ _ e, cf_no _ _ _ _, _, rfl, p, i, m, y, o, k, rfl, hc.same s1, g, zi.mono (by decide), fun H2 s2 => ⟨_, _, rfl, rfl, q H2 (s1.trans s2)⟩⟩
end
/-! ### months of dates -/
def pmF (m y o k : Rat) (a b : Int) : Int := maF m o (mdF y k (12 * a + b - 1))
def hasM (m y o k : Rat) (i : Int) : Prop := mdF y k (jF y k (stF m o i)) < stF m o (i + 1)
instance {m y o k : Rat} {i : Int} : Decidable (hasM m y o k i) := by
  unfold hasM
  exact inferInstance
theorem miF_eq (m y o k : Rat) (i : Int) : miF m y o k i = if hasM m y o k i then .int (jF y k (stF m o i)) else .non := rfl
/-- the month of a date, or why there is none -/
def moF (m y o k : Rat) (a b : Int) (od : Bool) : Sum Str Int := if b < 1 then .inl "number" else if 12 < b then .inl "number" else if od = true then (if hasM m y o k (pmF m y o k a b + 1) then .inl "odd" else .inr (pmF m y o k a b + 1)) else .inr (pmF m y o k a b)
def dyF (m y o k : Rat) (a b c : Int) (od : Bool) : Sum Str Int := match moF m y o k a b od with
  | .inl w => .inl w
  | .inr i => if c < 1 then .inl "day" else if stF m o (i + 1) - stF m o i < c then .inl "day" else .inr (stF m o i + c - 1)
theorem Good.zpm {m y o k : Rat} (g : Good m y o k) {a b : Int} (ha : Sz 900 a) (hb : Sz 900 b) : Sz 906 (12 * a + b - 1) ∧ Sz 1218 (pmF m y o k a b) := by
  have h1 : Sz 904 (12 * a) := Sz.mul (szi (n := 4) 12) ha
  have h2 : Sz 905 (12 * a + b) := Sz.add h1 (hb.mono (by decide)) (by decide)
  have h3 : Sz 906 (12 * a + b - 1) := zsub h2 1
  have h4 : Sz 1067 (mdF y k (12 * a + b - 1)) := g.zmd h3 (by decide) (by decide)
  exact ⟨h3, g.zma h4 (by decide) (by decide)⟩
def spPlain (C Cc : Addr) : Sp := fun vs H Q _ => ∃ (p : Addr) (a b : Int) (m y o k : Rat), vs = [.ref p, .int a, .int b] ∧ Cl C Cc H p m y o k ∧ Good m y o k ∧ Sz 900 a ∧ Sz 900 b ∧ ∀ H', Same H H' → Q (.int (pmF m y o k a b)) H'
def spOddM (C Cc : Addr) : Sp := fun vs H Q _ => ∃ (p : Addr) (a b : Int) (m y o k : Rat), vs = [.ref p, .int a, .int b] ∧ Cl C Cc H p m y o k ∧ Good m y o k ∧ Sz 900 a ∧ Sz 900 b ∧ ∀ H', Same H H' → Q (if hasM m y o k (pmF m y o k a b + 1) then .non else .int (pmF m y o k a b + 1)) H'
def spDayIn (C Cc : Addr) : Sp := fun vs H Q _ => ∃ (p : Addr) (a b : Int) (m y o k : Rat), vs = [.ref p, .int a, .int b] ∧ Cl C Cc H p m y o k ∧ Good m y o k ∧ Sz 2000 a ∧ ∀ H', Same H H' → Q (.int (stF m o a + b - 1)) H'
section
variable {P : Program} {w : World} {K : PySem.W.Frag} {mg : Str → Option Value} {base : Heap} {C Cc Cd CD : Addr}
theorem ok_plain (D : Df K mg "plain_month" s_plain_month []) (f_month_with : Cm P w K mg base CX0 8 Cc "month_with" "Calendar.month_with" s_Calendar_month_with ["self", "j"] (spM1 C Cc 2000 fun m y o k i => .int (maF m o (mdF y k i)))) {tk : Tok} (h_MARKS : mg "MARKS" = some (.int 12 tk)) : Ca P w K mg base CX0 9 "plain_month" s_plain_month [] ["calendar", "year", "number"] (spPlain C Cc) := by
  refine ca0 (k := 8) D c_plain_month (fun vs H Q E h => ?_) fun f cdv A outer s H vs Q E hr h => ?_
  · obtain ⟨p, a, b, m, y, o, k, rfl, _⟩ := h
    rfl
  · obtain ⟨p, a, b, m, y, o, k, rfl, hc, g, za, zb, q⟩ := h
    obtain ⟨dx, a1, b1, c1, d1, e, _⟩ := id hc
    refine ⟨_, (pss_one (ps_ret (pe_cm f_month_with b_Calendar_month_with hr (by decide) pass0 (pv 0) (pa_cons (pe_op op_sub (pe_op op_add (pe_op op_mul (pe_glob (v := .int 12) rfl h_MARKS ⟨_, rfl⟩) (pv 1)) (pv 2)) pe_int) pa_nil)))), ?_⟩
    exact ⟨_, rfl, p, dx, _, rfl, e, cf_no _ _ _ _, _, rfl, _, _, rfl, rfl, .inl ⟨by decide, by decide⟩, _, rfl, _, _, rfl, rfl, _, _, rfl, rfl, p, _, m, y, o, k, rfl, hc, g, (g.zpm za zb).1.mono (by decide), fun H' s' => q H' s'⟩
theorem ok_oddm (D : Df K mg "odd_month" s_odd_month []) (f_plain_month : Ca P w K mg base CX0 9 "plain_month" s_plain_month [] ["calendar", "year", "number"] (spPlain C Cc)) (f_mark_in : Cm P w K mg base CX0 8 Cc "mark_in" "Calendar.mark_in" s_Calendar_mark_in ["self", "k"] (spM1 C Cc 1400 miF)) : Ca P w K mg base CX0 10 "odd_month" s_odd_month [] ["calendar", "year", "number"] (spOddM C Cc) := by
  refine ca0 (k := 9) D c_odd_month (fun vs H Q E h => ?_) fun f cdv A outer s H vs Q E hr h => ?_
  · obtain ⟨p, a, b, m, y, o, k, rfl, _⟩ := h
    rfl
  · obtain ⟨p, a, b, m, y, o, k, rfl, hc, g, za, zb, q⟩ := h
    obtain ⟨dx, a1, b1, c1, d1, e, _⟩ := id hc
    refine ⟨_, (pss_cons (ps_set (i := 3) c_odd_month.nd rfl (.inl rfl) (pe_op op_add (pe_ca f_plain_month b_plain_month hr (by decide) pass0 rfl (pa_cons (pv 0) (pa_cons (pv 1) (pa_cons (pv 2) pa_nil)))) pe_int))
      (pss_cons (ps_if (pt_cmp (pc_isN (pe_cm f_mark_in b_Calendar_mark_in hr (by decide) pass0 (pv 0) (pa_cons (pv 3) pa_nil)))) (pss_one (ps_ret (pv 3))) pss_nil)
      (pss_one (ps_ret pe_non)))), ?_⟩
    refine ⟨_, rfl, _, rfl, _, rfl, p, a, b, m, y, o, k, rfl, hc, g, za, zb, fun H1 s1 => ⟨_, _, rfl, rfl, ?_⟩⟩
    refine ⟨_, rfl, p, dx, _, rfl, s1 _ _ e, cf_no _ _ _ _, _, rfl, p, _, m, y, o, k, rfl, hc.same s1, g, zadd ((g.zpm za zb).2.mono (by decide : 1218 ≤ 1300)) 1, fun H2 s2 => ⟨_, rfl, ?_⟩⟩
    have q2 := q H2 (s1.trans s2)
    rw [miF_eq]
    by_cases hm : hasM m y o k (pmF m y o k a b + 1)
    · rw [if_pos hm] at q2 ⊢
      exact iteF q2
    · rw [if_neg hm] at q2 ⊢
      exact iteT ⟨_, rfl, q2⟩
theorem ok_dayin (D : Df K mg "day_in" s_day_in []) (f_start : Cm P w K mg base CX0 7 Cc "start" "Calendar.start" s_Calendar_start ["self", "k"] (spM1 C Cc 3000 fun m _ o _ i => .int (stF m o i))) : Ca P w K mg base CX0 8 "day_in" s_day_in [] ["calendar", "k", "count"] (spDayIn C Cc) := by
  refine ca0 (k := 7) D c_day_in (fun vs H Q E h => ?_) fun f cdv A outer s H vs Q E hr h => ?_
  · obtain ⟨p, a, b, m, y, o, k, rfl, _⟩ := h
    rfl
  · obtain ⟨p, a, b, m, y, o, k, rfl, hc, g, za, q⟩ := h
    obtain ⟨dx, a1, b1, c1, d1, e, _⟩ := id hc
    refine ⟨_, (pss_one (ps_ret (pe_op op_sub (pe_op op_add (pe_cm f_start b_Calendar_start hr (by decide) pass0 (pv 0) (pa_cons (pv 1) pa_nil)) (pv 2)) pe_int))), ?_⟩
    exact ⟨_, rfl, p, dx, _, rfl, e, cf_no _ _ _ _, _, rfl, p, a, m, y, o, k, rfl, hc, g, za.mono (by decide), fun H' s' => ⟨_, rfl, _, _, rfl, rfl, _, _, rfl, rfl, q H' s'⟩⟩
end
/-! ### later -/
def miyF (m y o k : Rat) (a b : Int) (od : Bool) : Int := if od = true then (if hasM m y o k (pmF m y o k a b + 1) then pmF m y o k a b else pmF m y o k a b + 1) else pmF m y o k a b
def heldF (m o : Rat) (i c : Int) : Int := if stF m o (i + 1) - stF m o i < c then stF m o (i + 1) - stF m o i else c
theorem Good.zpmG {m y o k : Rat} (g : Good m y o k) {n : Nat} {a b : Int} (h5 : 5 ≤ n) (ha : Sz n a) (hb : Sz n b) : Sz (n + 6) (12 * a + b - 1) ∧ Sz (n + 318) (pmF m y o k a b) := by
  have h1 : Sz (n + 4) (12 * a) := (Sz.mul (szi (n := 4) 12) ha).mono (by omega)
  have h2 : Sz (n + 5) (12 * a + b) := Sz.add h1 (hb.mono (by omega)) (by omega)
  have h3 : Sz (n + 6) (12 * a + b - 1) := zsub h2 1 (by decide) (by omega) (by omega)
  have h4 : Sz (n + 167) (mdF y k (12 * a + b - 1)) := g.zmd h3 (by omega) (by omega)
  exact ⟨h3, g.zma h4 (by omega) (by omega)⟩
theorem Good.zmiy {m y o k : Rat} (g : Good m y o k) {n : Nat} {a b : Int} {od : Bool} (h5 : 5 ≤ n) (ha : Sz n a) (hb : Sz n b) : Sz (n + 319) (miyF m y o k a b od) := by
  have hz := (g.zpmG h5 ha hb).2
  unfold miyF
  split
  · split
    · exact hz.mono (by omega)
    · exact zadd hz 1 (by decide) (by omega) (by omega)
  · exact hz.mono (by omega)
theorem zheld {m o : Rat} {n : Nat} {i c : Int} (h1 : Sz n (stF m o (i + 1) - stF m o i)) (h2 : Sz n c) : Sz n (heldF m o i c) := by
  unfold heldF
  split
  · exact h1
  · exact h2
def spMiy (C Cc : Addr) : Sp := fun vs H Q _ => ∃ (p : Addr) (a b : Int) (od : Bool) (m y o k : Rat), vs = [.ref p, .int a, .int b, .bl od] ∧ Cl C Cc H p m y o k ∧ Good m y o k ∧ Sz 900 a ∧ Sz 900 b ∧ ∀ H', Same H H' → Q (.int (miyF m y o k a b od)) H'
def spHeld (C Cc : Addr) : Sp := fun vs H Q _ => ∃ (p : Addr) (i c : Int) (m y o k : Rat), vs = [.ref p, .int i, .int c] ∧ Cl C Cc H p m y o k ∧ Good m y o k ∧ Sz 1500 i ∧ ∀ H', Same H H' → Q (.int (heldF m o i c)) H'
section
variable {P : Program} {w : World} {K : PySem.W.Frag} {mg : Str → Option Value} {base : Heap} {C Cc Cd CD : Addr}
theorem ok_miy (D : Df K mg "month_in_year" s_month_in_year []) (f_plain_month : Ca P w K mg base CX0 9 "plain_month" s_plain_month [] ["calendar", "year", "number"] (spPlain C Cc)) (f_odd_month : Ca P w K mg base CX0 10 "odd_month" s_odd_month [] ["calendar", "year", "number"] (spOddM C Cc)) : Ca P w K mg base CX0 11 "month_in_year" s_month_in_year [] ["calendar", "year", "number", "odd"] (spMiy C Cc) := by
  refine ca0 (k := 10) D c_month_in_year (fun vs H Q E h => ?_) fun f cdv A outer s H vs Q E hr h => ?_
  · obtain ⟨p, a, b, od, m, y, o, k, rfl, _⟩ := h
    rfl
  · obtain ⟨p, a, b, od, m, y, o, k, rfl, hc, g, za, zb, q⟩ := h
    refine ⟨_, (pss_cons (ps_set (i := 4) c_month_in_year.nd rfl (.inl rfl) (pe_ifExp (pt_val (pv 3)) (pe_ca f_odd_month b_odd_month hr (by decide) pass0 rfl (pa_cons (pv 0) (pa_cons (pv 1) (pa_cons (pv 2) pa_nil)))) pe_non))
      (pss_cons (ps_if (pt_cmp (pc_isN (pv 4))) (pss_one (ps_ret (pe_ca f_plain_month b_plain_month hr (by decide) pass0 rfl (pa_cons (pv 0) (pa_cons (pv 1) (pa_cons (pv 2) pa_nil)))))) pss_nil)
      (pss_one (ps_ret (pv 4))))), ?_⟩
    refine ⟨_, rfl, _, rfl, ?_⟩
    cases od with
    | false =>
      refine iteF ?_
      refine ⟨_, rfl, _, rfl, iteT ?_⟩
      exact ⟨_, rfl, _, rfl, _, rfl, p, a, b, m, y, o, k, rfl, hc, g, za, zb, fun H1 s1 => q H1 s1⟩
    | true =>
      refine iteT ?_
      refine ⟨_, rfl, _, rfl, _, rfl, p, a, b, m, y, o, k, rfl, hc, g, za, zb, fun H1 s1 => ?_⟩
      by_cases hm : hasM m y o k (pmF m y o k a b + 1)
      · rw [if_pos hm]
        refine ⟨_, rfl, _, rfl, iteT ?_⟩
        refine ⟨_, rfl, _, rfl, _, rfl, p, a, b, m, y, o, k, rfl, hc.same s1, g, za, zb, fun H2 s2 => ?_⟩
        have q2 := q H2 (s1.trans s2)
        unfold miyF at q2
        rw [if_pos rfl, if_pos hm] at q2
        exact q2
      · rw [if_neg hm]
        refine ⟨_, rfl, _, rfl, iteF ⟨_, rfl, ?_⟩⟩
        have q2 := q H1 s1
        unfold miyF at q2
        rw [if_pos rfl, if_neg hm] at q2
        exact q2
theorem ok_held (D : Df K mg "held_in" s_held_in []) (f_days_of : Ca P w K mg base CX0 8 "days_of" s_days_of [] ["calendar", "k", "many"] (spDaysOf C Cc)) (g_min : mg "min" = none) : Ca P w K mg base CX0 9 "held_in" s_held_in [] ["calendar", "k", "count"] (spHeld C Cc) := by
  refine ca0 (k := 8) D c_held_in (fun vs H Q E h => ?_) fun f cdv A outer s H vs Q E hr h => ?_
  · obtain ⟨p, i, c, m, y, o, k, rfl, _⟩ := h
    rfl
  · obtain ⟨p, i, c, m, y, o, k, rfl, hc, g, zi, q⟩ := h
    refine ⟨_, (pss_one (ps_ret (pe_callB (call_min2 rfl) rfl g_min (by decide +kernel) (pa_cons (pv 2) (pa_cons (pe_ca f_days_of b_days_of hr (by decide) pass0 rfl (pa_cons (pv 0) (pa_cons (pv 1) (pa_cons pe_int pa_nil)))) pa_nil))))), ?_⟩
    exact ⟨_, rfl, _, rfl, _, rfl, p, i, 1, m, y, o, k, rfl, hc, g, zi, szi 1 (Nat.one_lt_two_pow (by decide)), fun H1 s1 => ⟨_, _, rfl, q H1 s1⟩⟩
end
/-! ### years that begin together -/
def spYw (C Cc : Addr) : Sp := fun vs H Q _ => ∃ (p : Addr) (a : Int) (m y o k : Rat), vs = [.ref p, .int a] ∧ Cl C Cc H p m y o k ∧ Good m y o k ∧ Sz 1200 a ∧ ∀ H', Same H H' → Q (.int (dtY m y o k a)) H'
theorem Good.zfd {m y o k : Rat} (g : Good m y o k) {n l : Nat} {a : Int} (h : Sz n a) (h5 : 5 ≤ n) (hl : n + 470 < l) : Sz l (fdF m y o k a) := by
  have h1 : Sz (n + 4) (12 * a) := (Sz.mul (szi (n := 4) 12) h).mono (by omega)
  have h2 : Sz (n + 166) (mdF y k (12 * a)) := g.zmd h1 (by omega) (by omega)
  have h3 : Sz (n + 318) (maF m o (mdF y k (12 * a))) := g.zma h2 (by omega) (by omega)
  exact g.zst h3 (by omega) (by omega)
section
variable {P : Program} {w : World} {K : PySem.W.Frag} {mg : Str → Option Value} {base : Heap} {C Cc : Addr}
theorem ok_yw (D : Df K mg "year_with" s_year_with []) (f_month_at : Cm P w K mg base CX0 7 Cc "month_at" "Calendar.month_at" s_Calendar_month_at ["self", "day"] (spM1 C Cc 2900 fun m _ o _ i => .int (maF m o i))) (f_name_of : Cm P w K mg base CX0 9 Cc "name_of" "Calendar.name_of" s_Calendar_name_of ["self", "k"] (spName C Cc)) : Ca P w K mg base CX0 10 "year_with" s_year_with [] ["calendar", "day"] (spYw C Cc) := by
  refine ca0 (k := 9) D c_year_with (fun vs H Q E h => ?_) fun f cdv A outer s H vs Q E hr h => ?_
  · obtain ⟨p, a, m, y, o, k, rfl, _⟩ := h
    rfl
  · obtain ⟨p, i, m, y, o, k, rfl, hc, g, zi, q⟩ := h
    obtain ⟨dx, a1, b1, c1, d1, e, _⟩ := id hc
    have zk : Sz 1360 (maF m o i) := g.zma zi (by decide) (by decide)
    refine ⟨_, (pss_one (ps_ret (pe_ix ix_tup (pe_cm f_name_of b_Calendar_name_of hr (by decide) pass0 (pv 0) (pa_cons (pe_cm f_month_at b_Calendar_month_at hr (by decide) pass0 (pv 0) (pa_cons (pv 1) pa_nil)) pa_nil)) pe_int (fun _ _ => rfl)))), ?_⟩
    refine ⟨_, rfl, p, dx, _, rfl, e, cf_no _ _ _ _, _, rfl, p, dx, _, rfl, e, cf_no _ _ _ _, _, rfl, p, i, m, y, o, k, rfl, hc, g, zi.mono (by decide), fun H1 s1 => ?_⟩
    refine ⟨p, _, m, y, o, k, rfl, hc.same s1, g, zk.mono (by decide), fun t H2 nt s2 et => ?_⟩
    exact ⟨t, _, _, _, rfl, rfl, SqT.of et, rfl, q H2 (s1.trans s2)⟩
end
/-! ### Feast -/
def ffs (a n d w : V) : List (Str × V) := putF "when" w (putF "day" d (putF "number" n (putF "name" a [])))
theorem fnn_ : ¬ (("name" : Str) = "number") := by decide +kernel
theorem fnd_ : ¬ (("name" : Str) = "day") := by decide +kernel
theorem fnw_ : ¬ (("name" : Str) = "when") := by decide +kernel
theorem fmd_ : ¬ (("number" : Str) = "day") := by decide +kernel
theorem fmw_ : ¬ (("number" : Str) = "when") := by decide +kernel
theorem fdw_ : ¬ (("day" : Str) = "when") := by decide +kernel
theorem ff_name (a n d w : V) : (ffs a n d w).lookup ("name" : Str) = some a := by
  unfold ffs
  rw [lookup_putF, if_neg fnw_, lookup_putF, if_neg fnd_, lookup_putF, if_neg fnn_, lookup_putF, if_pos rfl]
theorem ff_number (a n d w : V) : (ffs a n d w).lookup ("number" : Str) = some n := by
  unfold ffs
  rw [lookup_putF, if_neg fmw_, lookup_putF, if_neg fmd_, lookup_putF, if_pos rfl]
theorem ff_day (a n d w : V) : (ffs a n d w).lookup ("day" : Str) = some d := by
  unfold ffs
  rw [lookup_putF, if_neg fdw_, lookup_putF, if_pos rfl]
theorem ff_when (a n d w : V) : (ffs a n d w).lookup ("when" : Str) = some w := by
  unfold ffs
  rw [lookup_putF, if_pos rfl]
structure FeT (K : PySem.W.Frag) (Cf : Addr) : Prop where
  cl : Cls K Cf
  n1 : NoAttr K Cf "name"
  n2 : NoAttr K Cf "number"
  n3 : NoAttr K Cf "day"
  n4 : NoAttr K Cf "when"
def Fe (Cf : Addr) (H : Hp) (p : Addr) (a : Str) (n d : Int) (w : Str) : Prop := ∃ dx, H p = some (.ins Cf dx (ffs (.str a) (.int n) (.int d) (.str w)))
theorem Fe.same {Cf p : Addr} {H H1 : Hp} {a w : Str} {n d : Int} (h : Fe Cf H p a n d w) (s : Same H H1) : Fe Cf H1 p a n d w := by
  obtain ⟨dx, e⟩ := h
  exact ⟨dx, s _ _ e⟩
def spFeI (Cf : Addr) : Sp := fun vs H Q _ => ∃ (p dx : Addr) (a n d w : V), vs = [.ref p, a, n, d, w] ∧ H p = some (.ins Cf dx []) ∧ Q .non (L2.upd H p (.ins Cf dx (ffs a n d w)))
theorem made_fe {Cf : Addr} {H : Hp} {R : Addr → Hp → Prop} {E : XK} {a n d w : V} (h : ∀ p dx H', H p = none → Same H H' → H' p = some (.ins Cf dx (ffs a n d w)) → R p H') :
    ∀ x dx, H x = none → H dx = none → dx ≠ x → spFeI Cf [.ref x, a, n, d, w] (L2.upd (L2.upd H dx (.own x)) x (.ins Cf dx [])) (fun v H2 => v = .non ∧ R x H2) E := by
  intro x dx hx hd ne
  refine ⟨x, dx, a, n, d, w, rfl, upd_same, rfl, ?_⟩
  rw [upd_upd]
  refine h x dx _ hx (Same.upd (Same.new hd) ?_) upd_same
  rw [upd_ne ne.symm]
  exact hx
def gFe {α : Type} : List α → List α → List α → List α := fun us _ ws => us ++ (match ws with | [a, b, c, d] => [d, c, b, a] | _ => [])
theorem gFe_rel {vs ds zs : List V} {us its ws : List Value} (h : Vals vs us) (_ : Vals ds its) (k : Vals zs ws) : Vals (gFe vs ds zs) (gFe us its ws) := by
  refine h.append ?_
  cases k with
  | nil => exact .nil
  | cons a k => cases k with
    | nil => exact .nil
    | cons b k => cases k with
      | nil => exact .nil
      | cons c k => cases k with
        | nil => exact .nil
        | cons d k => cases k with
          | nil => exact .cons d (.cons c (.cons b (.cons a .nil)))
          | cons e k => exact .nil
section
variable {P : Program} {w : World} {K : PySem.W.Frag} {mg : Str → Option Value} {base : Heap} {Cf : Addr}
theorem ok_feI (D : Di K mg "Feast" Cf "Feast.__init__" s_Feast_init [.str "plain"]) (T : FeT K Cf) : Ci P w K mg base CX0 1 "Feast" Cf "Feast.__init__" s_Feast_init [.str "plain"] ["self", "name", "number", "day", "when"] (spFeI Cf) := by
  refine ci0 (k := 0) D c_Feast_init (fun vs H Q E h => ?_) fun f cdv A outer s H vs Q E hr h => ?_
  · obtain ⟨p, dx, a, n, d, w', rfl, _⟩ := h
    rfl
  · obtain ⟨p, dx, a, n, d, w', rfl, hp, q⟩ := h
    refine ⟨_, (pss_cons (ps_fld (pv 0) (pv 1) rfl)
      (pss_cons (ps_fld (pv 0) (pv 2) rfl)
      (pss_cons (ps_fld (pv 0) (pv 3) rfl)
      (pss_one (ps_fld (pv 0) (pv 4) rfl))))), ?_⟩
    refine ⟨_, rfl, _, rfl, p, Cf, dx, _, rfl, hp, T.cl, T.n1, (by show 0 < 1000; decide), ?_⟩
    refine ⟨_, rfl, _, rfl, p, Cf, dx, _, rfl, upd_same, T.cl, T.n2, (by show 1 < 1000; decide), ?_⟩
    refine ⟨_, rfl, _, rfl, p, Cf, dx, _, rfl, upd_same, T.cl, T.n3, (by show 2 < 1000; decide), ?_⟩
    refine ⟨_, rfl, _, rfl, p, Cf, dx, _, rfl, upd_same, T.cl, T.n4, (by show 3 < 1000; decide), ?_⟩
    rw [upd_upd, upd_upd, upd_upd]
    exact q
theorem bd_Feast4 : Bd1 "__init__" "Feast.__init__" s_Feast_init ["self", "name", "number", "day", "when"] 5 1 1 := fun _ _ _ _ _ _ _ us its hu hi => match us, hu, its, hi with | [_, _, _, _, _], _, [_], _ => ⟨_, rfl, rfl⟩
theorem bd_Feast3 : Bd1 "__init__" "Feast.__init__" s_Feast_init ["self", "name", "number", "day", "when"] 4 0 1 := fun _ _ _ _ _ _ _ us its hu hi => match us, hu, its, hi with | [_, _, _, _], _, [_], _ => ⟨_, rfl, rfl⟩
theorem kb_Feast_0_when_day_number_name : Kd "Feast.__init__" s_Feast_init 1 1 ["when", "day", "number", "name"] ["self", "name", "number", "day", "when"] gFe :=
  ⟨fun _ _ _ _ _ _ _ us its ws hu hi hw => match us, hu, its, hi, ws, hw with | [_], _, [_], _, [_, _, _, _], _ => ⟨_, rfl, rfl⟩, gFe_rel⟩
end
/-! ### feasts in their years -/
def isW (w : Str) (x : Str) : Bool := decide (V.str w = V.str x)
def fmL (m y o k : Rat) (a b : Int) (w : Str) : List Int := if isW w "both" = true then (if hasM m y o k (pmF m y o k a b + 1) then [pmF m y o k a b] else [pmF m y o k a b, pmF m y o k a b + 1]) else [miyF m y o k a b (isW w "odd")]
def fdd (m o : Rat) (d i : Int) : Int := stF m o i + heldF m o i d - 1
theorem fm_len (m y o k : Rat) (a b : Int) (w : Str) : (fmL m y o k a b w).length ≤ 2 := by
  unfold fmL
  split
  · split <;> simp
  · simp
theorem fm_sz {m y o k : Rat} (g : Good m y o k) {a b : Int} {w : Str} (ha : Sz 900 a) (hb : Sz 900 b) : ∀ i ∈ fmL m y o k a b w, Sz 1300 i := fun i hi => by
  have z := (g.zpm ha hb).2
  unfold fmL at hi
  split at hi
  · split at hi
    · rw [List.mem_singleton.mp hi]
      exact z.mono (by decide)
    · rcases List.mem_cons.mp hi with rfl | hi
      · exact z.mono (by decide)
      · rw [List.mem_singleton.mp hi]
        exact zadd z 1
  · rw [List.mem_singleton.mp hi]
    exact (g.zmiy (by decide) ha hb).mono (by decide)
theorem range_getD (xs : List Int) (f : Int → Int) : (List.range xs.length).map (fun j => f (xs.getD j 0)) = xs.map f := by
  refine List.ext_getElem? fun j => ?_
  rw [List.getElem?_map, List.getElem?_map]
  by_cases hj : j < xs.length
  · rw [List.getElem?_range hj, List.getElem?_eq_getElem hj]
    show some (f (xs.getD j 0)) = some (f xs[j])
    rw [List.getD_eq_getElem?_getD, List.getElem?_eq_getElem hj]
    rfl
  · rw [List.getElem?_eq_none_iff.mpr (by simp; omega), List.getElem?_eq_none_iff.mpr (by omega)]
    rfl
theorem get_int {xs : List Int} {j : Nat} {x : V} (h : (xs.map V.int)[j]? = some x) (hj : j < xs.length) : x = .int (xs.getD j 0) ∧ xs.getD j 0 ∈ xs := by
  rw [List.getElem?_map, List.getElem?_eq_getElem hj] at h
  rw [List.getD_eq_getElem?_getD, List.getElem?_eq_getElem hj]
  exact ⟨(Option.some.inj h).symm, List.getElem_mem hj⟩
def spFm (C Cc Cf : Addr) : Sp := fun vs H Q _ => ∃ (p f : Addr) (nm w : Str) (a b d : Int) (m y o k : Rat), vs = [.ref p, .ref f, .int a] ∧ Cl C Cc H p m y o k ∧ Good m y o k ∧ Fe Cf H f nm b d w ∧ Sz 900 a ∧ Sz 900 b ∧ ∀ r H', H r = none → Same H H' → H' r = some (.lst ((fmL m y o k a b w).map V.int)) → Q (.ref r) H'
def spFds (C Cc Cf : Addr) : Sp := fun vs H Q _ => ∃ (p f : Addr) (nm w : Str) (a b d : Int) (m y o k : Rat), vs = [.ref p, .ref f, .int a] ∧ Cl C Cc H p m y o k ∧ Good m y o k ∧ Fe Cf H f nm b d w ∧ Sz 900 a ∧ Sz 900 b ∧ ∀ r H', H r = none → Same H H' → H' r = some (.lst (((fmL m y o k a b w).map (fdd m o d)).map V.int)) → Q (.ref r) H'
section
variable {P : Program} {w : World} {K : PySem.W.Frag} {mg : Str → Option Value} {base : Heap} {C Cc Cf : Addr}
abbrev TE_feast_months1 : TE := tVar 4
abbrev TT_feast_months1 : TT := tB (tNotN (tVar 4))
theorem ok_fm (D : Df K mg "feast_months" s_feast_months []) (T : FeT K Cf) (f_plain_month : Ca P w K mg base CX0 9 "plain_month" s_plain_month [] ["calendar", "year", "number"] (spPlain C Cc)) (f_odd_month : Ca P w K mg base CX0 10 "odd_month" s_odd_month [] ["calendar", "year", "number"] (spOddM C Cc)) (f_month_in_year : Ca P w K mg base CX0 11 "month_in_year" s_month_in_year [] ["calendar", "year", "number", "odd"] (spMiy C Cc)) : Ca P w K mg base CX0 12 "feast_months" s_feast_months [] ["calendar", "feast", "year"] (spFm C Cc Cf) := by
  refine ca0 (k := 11) D c_feast_months (fun vs H Q E h => ?_) fun f cdv A outer s H vs Q E hr h => ?_
  · obtain ⟨p, f, nm, w, a, b, d, m, y, o, k, rfl, _⟩ := h
    rfl
  · obtain ⟨p, f, nm, w, a, b, d, m, y, o, k, rfl, hc, g, ⟨dx, ef⟩, za, zb, q⟩ := h
    refine ⟨_, (pss_cons (ps_if (pt_cmpR op_eq (pe_fld (pv 1) rfl) pe_str (nomark _)) (pss_cons (ps_set (i := 3) c_feast_months.nd rfl (.inl rfl) (pe_lst (pa_cons (pe_ca f_plain_month b_plain_month hr (by decide) pass0 rfl (pa_cons (pv 0) (pa_cons (pv 2) (pa_cons (pe_fld (pv 1) rfl) pa_nil)))) (pa_cons (pe_ca f_odd_month b_odd_month hr (by decide) pass0 rfl (pa_cons (pv 0) (pa_cons (pv 2) (pa_cons (pe_fld (pv 1) rfl) pa_nil)))) pa_nil))))
      (pss_one (ps_ret (pe_lc (own := [("k", 4)]) (g := gName 4) (tt := TT_feast_months1 ) (te := TE_feast_months1 ) rfl c_feast_months.nd (pi_list (pv 3)) (blkOk_by (N := ["calendar", "feast", "year", "months", "k"]) (sc := defScope s_feast_months) (by decide +kernel)) (fun _ _ _ _ _ => (pg_name (i := 4) c_feast_months.nd rfl (.inl rfl))) (fun _ _ _ _ _ => by exact pts_one (pt_cmp (pc_notN (pv 4)))) (fun _ _ _ _ _ => by exact (pv 4)))))) pss_nil)
      (pss_one (ps_ret (pe_lst (pa_cons (pe_ca f_month_in_year b_month_in_year hr (by decide) pass0 rfl (pa_cons (pv 0) (pa_cons (pv 2) (pa_cons (pe_fld (pv 1) rfl) (pa_cons (pe_cmpR op_eq (pe_fld (pv 1) rfl) pe_str (nomark _)) pa_nil))))) pa_nil))))), ?_⟩
    refine ⟨_, rfl, f, Cf, dx, _, _, rfl, ef, T.cl, T.n4, ff_when _ _ _ _, rfl, _, rfl, ?_⟩
    show if isW w "both" = true then _ else _
    by_cases hB : isW w "both" = true
    · rw [if_pos hB]
      refine ⟨_, rfl, _, rfl, _, rfl, f, Cf, dx, _, _, rfl, ef, T.cl, T.n2, ff_number _ _ _ _, p, a, b, m, y, o, k, rfl, hc, g, za, zb, fun H1 s1 => ?_⟩
      refine ⟨_, rfl, _, rfl, _, rfl, f, Cf, dx, _, _, rfl, s1 _ _ ef, T.cl, T.n2, ff_number _ _ _ _, p, a, b, m, y, o, k, rfl, hc.same s1, g, za, zb, fun H2 s2 => ?_⟩
      refine ⟨(by show 2 ≤ sizeLine; decide), fun l nl => ?_⟩
      have s3 := Same.new (o := .lst [.int (pmF m y o k a b), if hasM m y o k (pmF m y o k a b + 1) then .non else .int (pmF m y o k a b + 1)]) nl
      refine ⟨_, rfl, l, rfl, ⟨_, SqL.of upd_same⟩, fun D0 hD => ?_⟩
      refine lc_filt (walk_list (K := K) (a := l) (xs := [.int (pmF m y o k a b), if hasM m y o k (pmF m y o k a b + 1) then .non else .int (pmF m y o k a b + 1)])) yAt_same hD (by show 2 < 2 ^ 24; decide) (fun j => pmF m y o k a b + (j : Nat)) (fun j => decide (j = 0) || !decide (hasM m y o k (pmF m y o k a b + 1))) (fun H' s' => SqL.of (s' _ _ upd_same)) ?_ ?_
      · rintro j x H4 H5 R N hj s4 ⟨rfl, hx⟩ kT kF
        match j, hx with
        | 0, hx =>
          cases hx
          refine ⟨rfl, _, rfl, _, rfl, iteT ⟨_, rfl, ?_⟩⟩
          have z := kT rfl H5 (Same.refl _)
          rw [show pmF m y o k a b + ((0 : Nat) : Int) = pmF m y o k a b by omega] at z
          exact z
        | 1, hx =>
          have hx : some (if hasM m y o k (pmF m y o k a b + 1) then V.non else V.int (pmF m y o k a b + 1)) = some x := hx
          by_cases hm : hasM m y o k (pmF m y o k a b + 1)
          · rw [if_pos hm] at hx
            cases hx
            exact ⟨rfl, _, rfl, _, rfl, iteF (kF (by simp [hm]) H5 (Same.refl _))⟩
          · rw [if_neg hm] at hx
            cases hx
            exact ⟨rfl, _, rfl, _, rfl, iteT ⟨_, rfl, kT (by simp [hm]) H5 (Same.refl _)⟩⟩
      · intro H4 e4 s4
        refine q D0 H4 ?_ (s1.trans (s2.trans (s3.trans s4))) ?_
        · exact (s1.trans (s2.trans s3)).free hD
        · rw [e4]
          unfold fmL
          rw [if_pos hB]
          by_cases hm : hasM m y o k (pmF m y o k a b + 1)
          · simp [hm, List.range_succ]
          · simp [hm, List.range_succ]
    · rw [if_neg hB]
      refine ⟨_, rfl, _, rfl, _, rfl, f, Cf, dx, _, _, rfl, ef, T.cl, T.n2, ff_number _ _ _ _, _, rfl, f, Cf, dx, _, _, rfl, ef, T.cl, T.n4, ff_when _ _ _ _, rfl, p, a, b, isW w "odd", m, y, o, k, rfl, hc, g, za, zb, fun H1 s1 => ?_⟩
      refine ⟨(by show 1 ≤ sizeLine; decide), fun l nl => ?_⟩
      refine q l _ (s1.free nl) (s1.trans (Same.new nl)) ?_
      rw [upd_same]
      unfold fmL
      rw [if_neg hB]
      rfl
abbrev TE_feast_days1 (K : PySem.W.Frag) (C Cc : Addr) : TE := tCall (spDayIn C Cc) [] E0 (tCons (tVar 0) (tCons (tVar 4) (tCons (tCall (spHeld C Cc) [] E0 (tCons (tVar 0) (tCons (tVar 4) (tCons (tFld K (tVar 1) "day") tNil)))) tNil)))
theorem ok_fds (D : Df K mg "feast_days" s_feast_days []) (T : FeT K Cf) (f_day_in : Ca P w K mg base CX0 8 "day_in" s_day_in [] ["calendar", "k", "count"] (spDayIn C Cc)) (f_held_in : Ca P w K mg base CX0 9 "held_in" s_held_in [] ["calendar", "k", "count"] (spHeld C Cc)) (f_feast_months : Ca P w K mg base CX0 12 "feast_months" s_feast_months [] ["calendar", "feast", "year"] (spFm C Cc Cf)) : Ca P w K mg base CX0 13 "feast_days" s_feast_days [] ["calendar", "feast", "year"] (spFds C Cc Cf) := by
  refine ca0 (k := 12) D c_feast_days (fun vs H Q E h => ?_) fun f cdv A outer s H vs Q E hr h => ?_
  · obtain ⟨p, f, nm, w, a, b, d, m, y, o, k, rfl, _⟩ := h
    rfl
  · obtain ⟨p, f, nm, w, a, b, d, m, y, o, k, rfl, hc, g, hf, za, zb, q⟩ := h
    obtain ⟨dx, ef⟩ := id hf
    refine ⟨_, (pss_cons (ps_set (i := 3) c_feast_days.nd rfl (.inl rfl) (pe_ca f_feast_months b_feast_months hr (by decide) pass0 rfl (pa_cons (pv 0) (pa_cons (pv 1) (pa_cons (pv 2) pa_nil)))))
      (pss_one (ps_ret (pe_lc (own := [("k", 4)]) (g := gName 4) (tt := tYes) (te := TE_feast_days1 K C Cc) rfl c_feast_days.nd (pi_list (pv 3)) (blkOk_by (N := ["calendar", "feast", "year", "months", "k"]) (sc := defScope s_feast_days) (by decide +kernel)) (fun _ _ _ _ _ => (pg_name (i := 4) c_feast_days.nd rfl (.inl rfl))) (fun _ _ _ _ _ => by exact pts_nil) (fun _ _ _ _ _ => by exact (pe_ca f_day_in b_day_in hr (by decide) pass0 rfl (pa_cons (pv 0) (pa_cons (pv 4) (pa_cons (pe_ca f_held_in b_held_in hr (by decide) pass0 rfl (pa_cons (pv 0) (pa_cons (pv 4) (pa_cons (pe_fld (pv 1) rfl) pa_nil)))) pa_nil))))))))), ?_⟩
    refine ⟨_, rfl, _, rfl, _, rfl, p, f, nm, w, a, b, d, m, y, o, k, rfl, hc, g, hf, za, zb, fun l H1 nl s1 el => ?_⟩
    refine ⟨_, rfl, l, rfl, ⟨_, SqL.of el⟩, fun D0 hD => ?_⟩
    have wl := walk_list (K := K) (a := l) (xs := (fmL m y o k a b w).map V.int)
    rw [List.length_map] at wl
    refine lc_ints wl yAt_same hD (Nat.lt_of_le_of_lt (fm_len _ _ _ _ _ _ _) (by decide)) (fun j => fdd m o d ((fmL m y o k a b w).getD j 0)) (fun H' s' => SqL.of (s' _ _ el)) ?_ ?_
    · rintro j x H2 H3 R hj s2 ⟨rfl, hx⟩ k1
      obtain ⟨rfl, hmem⟩ := get_int hx hj
      have zi := fm_sz g za zb _ hmem
      have s12 := s1.trans s2
      refine ⟨rfl, ?_⟩
      refine ⟨_, rfl, _, rfl, _, rfl, _, rfl, _, rfl, f, Cf, dx, _, _, rfl, s12 _ _ ef, T.cl, T.n3, ff_day _ _ _ _, p, _, d, m, y, o, k, rfl, hc.same s12, g, zi.mono (by decide), fun H4 s4 => ?_⟩
      exact ⟨p, _, _, m, y, o, k, rfl, (hc.same s12).same s4, g, zi.mono (by decide), fun H5 s5 => k1 H5 (s4.trans s5)⟩
    · intro H2 e2 s2
      rw [range_getD] at e2
      exact q D0 H2 (s1.free hD) (s1.trans s2) e2
end
def spPart : Sp := fun vs H Q _ => ∃ (l : Addr) (n : Nat), vs = [.ref l] ∧ Dr H l n ∧ n ≤ 100000 ∧ ∀ r H' q, 0 ≤ q → q ≤ 1 → Rz 18 q → But l H H' → Dr H' l (n + 2) → Tp H' r q → Q (.ref r) H'
def spMom : Sp := fun vs H Q _ => ∃ (l : Addr) (n : Nat), vs = [.ref l] ∧ Dr H l n ∧ n ≤ 10000 ∧ ∀ r H' q, Rz 60 q → But l H H' → Dr H' l (n + 3) → Tp H' r q → Q (.ref r) H'
def spFour : Sp := fun vs H Q _ => ∃ (l : Addr) (n : Nat), vs = [.ref l] ∧ Dr H l n ∧ n ≤ 1000 ∧ ∀ r H' m y o k, Good m y o k → But l H H' → Dr H' l (n + 11) → Fo H' r m y o k → Q (.ref r) H'
theorem Tp.but {l : Addr} {H H1 : Hp} {n : Nat} {a : Addr} {q : Rat} (h : Tp H a q) (b : But l H H1) (d : Dr H l n) : Tp H1 a q := b.tup d h
section
variable {P : Program} {w : World} {K : PySem.W.Frag} {mg : Str → Option Value} {base : Heap}
theorem ok_lpart (D : Df K mg "_law_part" s_l_part []) (f_l_next : Ca P w K mg base CX0 1 "_law_next" s_l_next [] ["_law_draws_here"] spNext) (f_l_low : Ca P w K mg base CX0 1 "_law_low" s_l_low [] ["_law_top", "_law_bottom"] spLow) : Ca P w K mg base CX0 2 "_law_part" s_l_part [] ["_law_draws_here"] spPart := by
  refine ca0 (k := 1) D c_l_part (fun vs H Q E h => ?_) fun f cdv A outer s H vs Q E hr h => ?_
  · obtain ⟨l, n, rfl, _⟩ := h
    rfl
  · obtain ⟨l, n, rfl, d, hn, q⟩ := h
    refine ⟨_, (pss_cons (ps_set (i := 1) c_l_part.nd rfl (.inl rfl) (pe_ca f_l_next b_l_next hr (by decide) pass0 rfl (pa_cons (pv 0) pa_nil)))
      (pss_cons (ps_set (i := 2) c_l_part.nd rfl (.inl rfl) (pe_ix ix_list (pe_lst (pa_cons (pe_op op_add pe_int (pe_op op_mod (pe_op op_fdiv (pv 1) pe_int) pe_int)) (pa_cons (pe_op op_add pe_int (pe_op op_mod (pe_op op_fdiv (pv 1) pe_int) pe_int)) (pa_cons (pe_op op_add pe_int (pe_op op_mod (pe_op op_fdiv (pv 1) pe_int) pe_int)) (pa_cons (pe_op op_add (pe_op op_pow pe_int pe_int) (pe_op op_mod (pe_op op_fdiv (pv 1) pe_int) (pe_op op_pow pe_int pe_int))) pa_nil))))) (pe_op op_mod (pv 1) pe_int) (fun _ _ => rfl)))
      (pss_one (ps_ret (pe_ca f_l_low b_l_low hr (by decide) pass0 rfl (pa_cons (pe_op op_mod (pe_ca f_l_next b_l_next hr (by decide) pass0 rfl (pa_cons (pv 0) pa_nil)) (pe_op op_add (pv 2) pe_int)) (pa_cons (pv 2) pa_nil))))))), ?_⟩
    refine ⟨_, rfl, l, n, rfl, d, by omega, fun v H1 v0 v1 b1 d1 => ?_⟩
    refine ⟨_, rfl, _, _, rfl, rfl, ⟨by decide, by decide⟩, _, _, rfl, rfl, md, _, _, rfl, rfl, _, rfl, _, _, rfl, rfl, ⟨by decide, by decide⟩, _, _, rfl, rfl, md, _, _, rfl, rfl, _, rfl, _, _, rfl, rfl, ⟨by decide, by decide⟩, _, _, rfl, rfl, md, _, _, rfl, rfl, _, _, rfl, rfl, ⟨by decide, by decide, by decide⟩, _, rfl, _, _, rfl, rfl, ⟨by decide, by decide⟩, _, _, rfl, rfl, ⟨by decide, by decide, by decide⟩, _, _, rfl, rfl, md, _, _, rfl, rfl, (by show 4 ≤ sizeLine; decide), fun p hp => ?_⟩
    have h1 := Int.emod_nonneg v (show (4 : Int) ≠ 0 by decide)
    have h2 := Int.emod_lt_of_pos v (show (0 : Int) < 4 by decide)
    obtain ⟨x, hx, b, rfl, zb0, zb1⟩ := pick (P := fun x => ∃ i : Int, x = V.int i ∧ 1 ≤ i ∧ i ≤ 200000) (xs := [.int (1 + v / 4 % 3), .int (1 + v / 4 % 40), .int (1 + v / 4 % 1000), .int (10 ^ (5 : Int).toNat + v / 4 % 10 ^ (5 : Int).toNat)]) h1 h2 (by
      have e5 : (10 : Int) ^ (5 : Int).toNat = 100000 := by decide
      intro x hx
      rcases List.mem_cons.mp hx with rfl | hx
      · exact ⟨_, rfl, by omega, by omega⟩
      rcases List.mem_cons.mp hx with rfl | hx
      · exact ⟨_, rfl, by omega, by omega⟩
      rcases List.mem_cons.mp hx with rfl | hx
      · exact ⟨_, rfl, by omega, by omega⟩
      rcases List.mem_cons.mp hx with rfl | hx
      · exact ⟨_, rfl, by rw [e5]; omega, by rw [e5]; omega⟩
      · cases hx)
    refine ⟨_, rfl, _, _, rfl, rfl, md, p, _, _, _, rfl, rfl, SqL.of upd_same, hx, ?_⟩
    refine ⟨_, rfl, l, n + 1, rfl, d1.new hp, by omega, fun u H2 u0 u1 b2 d2 => ?_⟩
    have t0 := Int.emod_nonneg u (show b + 1 ≠ 0 by omega)
    have t1 := Int.emod_lt_of_pos u (show 0 < b + 1 by omega)
    refine ⟨_, rfl, _, _, rfl, rfl, _, _, rfl, rfl, (show 0 < b + 1 by omega), _, rfl, u % (b + 1), b, rfl, by omega, ?_, ?_, fun r hr' => ?_⟩
    · exact (Sz.of (n := 18) (by omega) (by have : (2 : Int) ^ 18 = 262144 := by decide
                                            omega)).mono (by decide)
    · exact (Sz.of (n := 18) (by omega) (by have : (2 : Int) ^ 18 = 262144 := by decide
                                            omega)).mono (by decide)
    · obtain ⟨q0, q1⟩ := unit_divInt t0 (show u % (b + 1) ≤ b by omega) (show 0 < b by omega)
      have e18 : (2 : Int) ^ 18 = 262144 := by decide
      exact q r _ _ q0 q1 (Rz.divInt (Sz.of (by omega) (by omega)) (Sz.of (by omega) (by omega)) (by decide)) (((b1.upd hp).trans b2).upd hr') (d2.new hr') upd_same
end
section
variable {P : Program} {w : World} {K : PySem.W.Frag} {mg : Str → Option Value} {base : Heap}
theorem ok_lmom (D : Df K mg "_law_moment" s_l_moment []) (f_l_next : Ca P w K mg base CX0 1 "_law_next" s_l_next [] ["_law_draws_here"] spNext) (f_l_part : Ca P w K mg base CX0 2 "_law_part" s_l_part [] ["_law_draws_here"] spPart) (f_l_plus : Ca P w K mg base CX0 2 "_law_plus" s_l_plus [] ["_law_one", "_law_two"] (spT2 fun a b => a + b)) : Ca P w K mg base CX0 3 "_law_moment" s_l_moment [] ["_law_draws_here"] spMom := by
  refine ca0 (k := 2) D c_l_moment (fun vs H Q E h => ?_) fun f cdv A outer s H vs Q E hr h => ?_
  · obtain ⟨l, n, rfl, _⟩ := h
    rfl
  · obtain ⟨l, n, rfl, d, hn, q⟩ := h
    refine ⟨_, (pss_cons (ps_set (i := 1) c_l_moment.nd rfl (.inl rfl) (pe_ca f_l_part b_l_part hr (by decide) pass0 rfl (pa_cons (pv 0) pa_nil)))
      (pss_cons (ps_set (i := 2) c_l_moment.nd rfl (.inl rfl) (pe_ca f_l_next b_l_next hr (by decide) pass0 rfl (pa_cons (pv 0) pa_nil)))
      (pss_cons (ps_set (i := 3) c_l_moment.nd rfl (.inl rfl) (pe_ix ix_list (pe_lst (pa_cons pe_int (pa_cons (pe_op op_mod (pe_op op_fdiv (pv 2) pe_int) pe_int) (pa_cons (pe_op op_add (pe_op op_pow pe_int pe_int) (pe_op op_fdiv (pv 2) pe_int)) (pa_cons (pe_op op_sub pe_int (pe_op op_mod (pe_op op_fdiv (pv 2) pe_int) (pe_op op_pow pe_int pe_int))) pa_nil))))) (pe_op op_mod (pv 2) pe_int) (fun _ _ => rfl)))
      (pss_one (ps_ret (pe_ca f_l_plus b_l_plus hr (by decide) pass0 rfl (pa_cons (pv 1) (pa_cons (pe_tup (pa_cons (pv 3) (pa_cons pe_int pa_nil))) pa_nil)))))))), ?_⟩
    refine ⟨_, rfl, l, n, rfl, d, by omega, fun a H1 x x0 x1 zx b1 d1 e1 => ?_⟩
    refine ⟨_, rfl, l, n + 2, rfl, d1, by omega, fun v H2 v0 v1 b2 d2 => ?_⟩
    refine ⟨_, rfl, _, _, rfl, rfl, ⟨by decide, by decide⟩, _, _, rfl, rfl, md, _, _, rfl, rfl, ⟨by decide, by decide, by decide⟩, _, rfl, _, _, rfl, rfl, ⟨by decide, by decide⟩, _, _, rfl, rfl, _, rfl, _, _, rfl, rfl, ⟨by decide, by decide⟩, _, _, rfl, rfl, ⟨by decide, by decide, by decide⟩, _, _, rfl, rfl, md, _, _, rfl, rfl, (by show 4 ≤ sizeLine; decide), fun p hp => ?_⟩
    have h1 := Int.emod_nonneg v (show (4 : Int) ≠ 0 by decide)
    have h2 := Int.emod_lt_of_pos v (show (0 : Int) < 4 by decide)
    obtain ⟨z, hz, i, rfl, zi⟩ := pick (P := fun x => ∃ i : Int, x = V.int i ∧ Sz 30 i) (xs := [.int 0, .int (v / 4 % 100), .int (10 ^ (6 : Int).toNat + v / 4), .int (0 - v / 4 % 10 ^ (5 : Int).toNat)]) h1 h2 (by
      have e5 : (10 : Int) ^ (5 : Int).toNat = 100000 := by decide
      have e6 : (10 : Int) ^ (6 : Int).toNat = 1000000 := by decide
      have e30 : (2 : Int) ^ 30 = 1073741824 := by decide
      intro x hx
      rcases List.mem_cons.mp hx with rfl | hx
      · exact ⟨_, rfl, Sz.of (by omega) (by omega)⟩
      rcases List.mem_cons.mp hx with rfl | hx
      · exact ⟨_, rfl, Sz.of (by omega) (by omega)⟩
      rcases List.mem_cons.mp hx with rfl | hx
      · exact ⟨_, rfl, Sz.of (by rw [e6, e30]; omega) (by rw [e6, e30]; omega)⟩
      rcases List.mem_cons.mp hx with rfl | hx
      · exact ⟨_, rfl, Sz.of (by rw [e5, e30]; omega) (by rw [e5, e30]; omega)⟩
      · cases hx)
    refine ⟨_, rfl, _, _, rfl, rfl, md, p, _, _, _, rfl, rfl, SqL.of upd_same, hz, ?_⟩
    refine ⟨_, rfl, _, rfl, (by show 2 ≤ sizeLine; decide), fun t ht => ?_⟩
    have ea : Tp _ a x := ((e1.but b2 d1).same (Same.new hp)).same (Same.new (o := .tup [.int i, .int 1]) ht)
    refine ⟨a, t, x, (i : Rat), rfl, ea.tq (zx.mono (by decide)), int_div i (zi.mono (by decide)) (by decide), fun r H3 nr s3 e3 => ?_⟩
    exact q r H3 _ (zx.add (Rz.int zi (by decide)) (by decide)) (((((b1.trans b2).upd hp).upd ht)).trans (But.same s3)) (((d2.new hp).new ht).same s3 (by omega)) e3
end
theorem Fo.but {l : Addr} {H H1 : Hp} {r : Addr} {n : Nat} {m y o k : Rat} (h : Fo H r m y o k) (b : But l H H1) (d : Dr H l n) : Fo H1 r m y o k := by
  obtain ⟨a, b', c, d', e, h1, h2, h3, h4⟩ := h
  exact ⟨a, b', c, d', b.tup d e, h1.but b d, h2.but b d, h3.but b d, h4.but b d⟩
/-- a month and a year of the law's -/
structure MY (m y : Rat) : Prop where
  fit : Fit m y
  zm : Rz 60 m
  zy : Rz 60 y
def qm1 : Rat := ⟨27759, 940, by decide, by decide⟩
def qy1 : Rat := ⟨1461, 4, by decide, by decide⟩
def qm2 : Rat := ⟨765433, 25920, by decide, by decide⟩
def qy2 : Rat := ⟨35975351, 98496, by decide, by decide⟩
def qm3 : Rat := ⟨59, 2, by decide, by decide⟩
def qy3 : Rat := ⟨365, 1, by decide, by decide⟩
def qm4 : Rat := ⟨30, 1, by decide, by decide⟩
def qy4 : Rat := ⟨366, 1, by decide, by decide⟩
theorem my1 : MY qm1 qy1 := ⟨⟨by decide +kernel, by decide +kernel, by decide +kernel⟩, ⟨szi _, szi _⟩, ⟨szi _, szi _⟩⟩
theorem my2 : MY qm2 qy2 := ⟨⟨by decide +kernel, by decide +kernel, by decide +kernel⟩, ⟨szi _, szi _⟩, ⟨szi _, szi _⟩⟩
theorem my3 : MY qm3 qy3 := ⟨⟨by decide +kernel, by decide +kernel, by decide +kernel⟩, ⟨szi _, szi _⟩, ⟨szi _, szi _⟩⟩
theorem my4 : MY qm4 qy4 := ⟨⟨by decide +kernel, by decide +kernel, by decide +kernel⟩, ⟨szi _, szi _⟩, ⟨szi _, szi _⟩⟩
section
variable {P : Program} {w : World} {K : PySem.W.Frag} {mg : Str → Option Value} {base : Heap}
theorem ok_lfour (D : Df K mg "_law_four" s_l_four []) (f_l_next : Ca P w K mg base CX0 1 "_law_next" s_l_next [] ["_law_draws_here"] spNext) (f_l_part : Ca P w K mg base CX0 2 "_law_part" s_l_part [] ["_law_draws_here"] spPart) (f_l_plus : Ca P w K mg base CX0 2 "_law_plus" s_l_plus [] ["_law_one", "_law_two"] (spT2 fun a b => a + b)) (f_l_by : Ca P w K mg base CX0 2 "_law_by" s_l_by [] ["_law_one", "_law_two"] (spT2 fun a b => a * b)) (f_l_moment : Ca P w K mg base CX0 3 "_law_moment" s_l_moment [] ["_law_draws_here"] spMom) : Ca P w K mg base CX0 4 "_law_four" s_l_four [] ["_law_draws_here"] spFour := by
  refine ca0 (k := 3) D c_l_four (fun vs H Q E h => ?_) fun f cdv A outer s H vs Q E hr h => ?_
  · obtain ⟨l, n, rfl, _⟩ := h
    rfl
  · obtain ⟨l, n, rfl, d, hn, q⟩ := h
    refine ⟨_, (pss_cons (ps_set (i := 1) c_l_four.nd rfl (.inl rfl) (pe_ca f_l_next b_l_next hr (by decide) pass0 rfl (pa_cons (pv 0) pa_nil)))
      (pss_cons (ps_if (pt_cmpR op_eq (pe_op op_mod (pv 1) pe_int) pe_int (nomark _)) (pss_cons (ps_set (i := 2) c_l_four.nd rfl (.inl rfl) (pe_lst (pa_cons (pe_tup (pa_cons (pe_tup (pa_cons pe_int (pa_cons pe_int pa_nil))) (pa_cons (pe_tup (pa_cons pe_int (pa_cons pe_int pa_nil))) pa_nil))) (pa_cons (pe_tup (pa_cons (pe_tup (pa_cons pe_int (pa_cons pe_int pa_nil))) (pa_cons (pe_tup (pa_cons pe_int (pa_cons pe_int pa_nil))) pa_nil))) pa_nil))))
      (pss_one (ps_asg (pe_ix ix_list (pe_op op_cat (pv 2) (pe_lst (pa_cons (pe_tup (pa_cons (pe_tup (pa_cons pe_int (pa_cons pe_int pa_nil))) (pa_cons (pe_tup (pa_cons pe_int (pa_cons pe_int pa_nil))) pa_nil))) (pa_cons (pe_tup (pa_cons (pe_tup (pa_cons pe_int (pa_cons pe_int pa_nil))) (pa_cons (pe_tup (pa_cons pe_int (pa_cons pe_int pa_nil))) pa_nil))) pa_nil)))) (pe_op op_mod (pe_op op_fdiv (pv 1) pe_int) pe_int) (fun _ _ => rfl)) (pg_tup rfl (pgs_cons (pg_name (i := 3) c_l_four.nd rfl (.inl rfl)) (pgs_cons (pg_name (i := 4) c_l_four.nd rfl (.inl rfl)) pgs_nil)))))) (pss_cons (ps_set (i := 5) c_l_four.nd rfl (.inl rfl) (pe_ix ix_list (pe_lst (pa_cons (pe_op op_add pe_int (pe_op op_mod (pe_op op_fdiv (pv 1) pe_int) pe_int)) (pa_cons (pe_op op_add pe_int (pe_op op_mod (pe_op op_fdiv (pv 1) pe_int) pe_int)) (pa_cons (pe_op op_add pe_int (pe_op op_mod (pe_op op_fdiv (pv 1) pe_int) pe_int)) (pa_cons pe_int (pa_cons pe_int pa_nil)))))) (pe_op op_mod (pe_op op_fdiv (pv 1) pe_int) pe_int) (fun _ _ => rfl)))
      (pss_cons (ps_set (i := 6) c_l_four.nd rfl (.inl rfl) (pe_ca f_l_part b_l_part hr (by decide) pass0 rfl (pa_cons (pv 0) pa_nil)))
      (pss_cons (ps_set (i := 7) c_l_four.nd rfl (.inl rfl) (pe_ca f_l_part b_l_part hr (by decide) pass0 rfl (pa_cons (pv 0) pa_nil)))
      (pss_cons (ps_set (i := 3) c_l_four.nd rfl (.inl rfl) (pe_ca f_l_by b_l_by hr (by decide) pass0 rfl (pa_cons (pe_ca f_l_plus b_l_plus hr (by decide) pass0 rfl (pa_cons (pe_tup (pa_cons (pe_op op_add (pe_op op_mul pe_int (pv 5)) pe_int) (pa_cons pe_int pa_nil))) (pa_cons (pe_ca f_l_by b_l_by hr (by decide) pass0 rfl (pa_cons (pv 6) (pa_cons (pe_tup (pa_cons (pe_op op_sub (pv 5) pe_int) (pa_cons pe_int pa_nil))) pa_nil))) pa_nil))) (pa_cons (pe_tup (pa_cons pe_int (pa_cons pe_int pa_nil))) pa_nil))))
      (pss_one (ps_set (i := 4) c_l_four.nd rfl (.inl rfl) (pe_ca f_l_plus b_l_plus hr (by decide) pass0 rfl (pa_cons (pe_tup (pa_cons (pe_op op_mul pe_int (pv 5)) (pa_cons pe_int pa_nil))) (pa_cons (pe_ca f_l_by b_l_by hr (by decide) pass0 rfl (pa_cons (pe_ca f_l_by b_l_by hr (by decide) pass0 rfl (pa_cons (pv 7) (pa_cons (pv 6) pa_nil))) (pa_cons (pe_tup (pa_cons (pe_op op_sub (pv 5) pe_int) (pa_cons pe_int pa_nil))) pa_nil))) pa_nil))))))))))
      (pss_one (ps_ret (pe_tup (pa_cons (pv 3) (pa_cons (pv 4) (pa_cons (pe_ca f_l_moment b_l_moment hr (by decide) pass0 rfl (pa_cons (pv 0) pa_nil)) (pa_cons (pe_ca f_l_moment b_l_moment hr (by decide) pass0 rfl (pa_cons (pv 0) pa_nil)) pa_nil))))))))), ?_⟩
    have fin : ∀ (x1 x2 x5 x6 x7 : Option V) (a b : Addr) (m y : Rat) (H1 : Hp), MY m y → But l H H1 → Dr H1 l (n + 5) → Tp H1 a m → Tp H1 b y →
        tRet (tTup (tCons (tVar 3) (tCons (tVar 4) (tCons (tCall spMom [] E0 (tCons (tVar 0) tNil)) (tCons (tCall spMom [] E0 (tCons (tVar 0) tNil)) tNil))))) { nx := fun _ H' => Q .non H', rt := Q } [some (.ref l), x1, x2, some (.ref a), some (.ref b), x5, x6, x7] H1 := by
      intro x1 x2 x5 x6 x7 a b m y H1 my b1 d1 ea eb
      refine ⟨_, rfl, _, rfl, _, rfl, l, n + 5, rfl, d1, by omega, fun c H2 o zo b2 d2 ec => ?_⟩
      refine ⟨_, rfl, l, n + 8, rfl, d2, by omega, fun e H3 k zk b3 d3 ee => ?_⟩
      refine ⟨(by show 4 ≤ sizeLine; decide), fun r hr' => ?_⟩
      have bb : But l H1 H3 := b2.trans b3
      refine q r _ m y o k ⟨my.fit, my.zm.mono (by decide), my.zy.mono (by decide), zo.mono (by decide), zk.mono (by decide)⟩ ((b1.trans bb).upd hr') ((d3.new hr').mono (by omega)) ?_
      exact ⟨a, b, c, e, upd_same, (ea.but bb d1).same (Same.new hr'), (eb.but bb d1).same (Same.new hr'), (ec.but b3 d2).same (Same.new hr'), ee.same (Same.new hr')⟩
    refine ⟨_, rfl, l, n, rfl, d, by omega, fun v H1 v0 v1 b1 d1 => ?_⟩
    refine ⟨_, rfl, _, _, rfl, rfl, md, rfl, _, rfl, ?_⟩
    refine ite2 (fun _ => ?_) (fun _ => ?_)
    · refine ⟨(by show 2 ≤ sizeLine; decide), fun a1 n1 => ⟨(by show 2 ≤ sizeLine; decide), fun c1 n2 => ⟨(by show 2 ≤ sizeLine; decide), fun r1 n3 => ⟨(by show 2 ≤ sizeLine; decide), fun a2 n4 => ⟨(by show 2 ≤ sizeLine; decide), fun c2 n5 => ⟨(by show 2 ≤ sizeLine; decide), fun r2 n6 => ⟨(by show 2 ≤ sizeLine; decide), fun l1 n7 => ?_⟩⟩⟩⟩⟩⟩⟩
      refine ⟨_, rfl, (by show 2 ≤ sizeLine; decide), fun a3 n8 => ⟨(by show 2 ≤ sizeLine; decide), fun c3 n9 => ⟨(by show 2 ≤ sizeLine; decide), fun r3 n10 => ⟨(by show 2 ≤ sizeLine; decide), fun a4 n11 => ⟨(by show 2 ≤ sizeLine; decide), fun c4 n12 => ⟨(by show 2 ≤ sizeLine; decide), fun r4 n13 => ⟨(by show 2 ≤ sizeLine; decide), fun l2 n14 => ?_⟩⟩⟩⟩⟩⟩⟩
      have s2 := Same.new (o := .tup [.int 1461, .int 4]) n2
      have s3 := Same.new (o := .tup [.ref a1, .ref c1]) n3
      have s4 := Same.new (o := .tup [.int 765433, .int 25920]) n4
      have s5 := Same.new (o := .tup [.int 35975351, .int 98496]) n5
      have s6 := Same.new (o := .tup [.ref a2, .ref c2]) n6
      have s7 := Same.new (o := .lst [.ref r1, .ref r2]) n7
      have s8 := Same.new (o := .tup [.int 59, .int 2]) n8
      have s9 := Same.new (o := .tup [.int 365, .int 1]) n9
      have s10 := Same.new (o := .tup [.ref a3, .ref c3]) n10
      have s11 := Same.new (o := .tup [.int 30, .int 1]) n11
      have s12 := Same.new (o := .tup [.int 366, .int 1]) n12
      have s13 := Same.new (o := .tup [.ref a4, .ref c4]) n13
      have s14 := Same.new (o := .lst [.ref r3, .ref r4]) n14
      have t13 := s14
      have t12 := s13.trans t13
      have t11 := s12.trans t12
      have t10 := s11.trans t11
      have t9 := s10.trans t10
      have t8 := s9.trans t9
      have t7 := s8.trans t8
      have t6 := s7.trans t7
      have t5 := s6.trans t6
      have t4 := s5.trans t5
      have t3 := s4.trans t4
      have t2 := s3.trans t3
      have t1 := s2.trans t2
      have t0 := (Same.new (o := .tup [.int 27759, .int 940]) n1).trans t1
      refine ⟨l1, l2, _, _, rfl, rfl, t7 _ _ upd_same, upd_same, (by show 4 ≤ sizeLine; decide), fun l3 n15 => ?_⟩
      have sz := Same.new (o := .lst ([.ref r1, .ref r2] ++ [.ref r3, .ref r4])) n15
      have h1 := Int.emod_nonneg (v / 8) (show (4 : Int) ≠ 0 by decide)
      have h2 := Int.emod_lt_of_pos (v / 8) (show (0 : Int) < 4 by decide)
      obtain ⟨x, hx, r, a, c, m, y, rfl, er, ea, ec, my⟩ := pick (P := fun x => ∃ (r a c : Addr) (m y : Rat), x = V.ref r ∧ (L2.upd _ l3 (.lst ([.ref r1, .ref r2] ++ [.ref r3, .ref r4]))) r = some (.tup [.ref a, .ref c]) ∧ Tp (L2.upd _ l3 (.lst ([.ref r1, .ref r2] ++ [.ref r3, .ref r4]))) a m ∧ Tp (L2.upd _ l3 (.lst ([.ref r1, .ref r2] ++ [.ref r3, .ref r4]))) c y ∧ MY m y) (xs := [.ref r1, .ref r2, .ref r3, .ref r4]) h1 h2 (by
        intro x hx
        rcases List.mem_cons.mp hx with rfl | hx
        · exact ⟨r1, a1, c1, qm1, qy1, rfl, sz _ _ (t3 _ _ upd_same), sz _ _ (t1 _ _ upd_same), sz _ _ (t2 _ _ upd_same), my1⟩
        rcases List.mem_cons.mp hx with rfl | hx
        · exact ⟨r2, a2, c2, qm2, qy2, rfl, sz _ _ (t6 _ _ upd_same), sz _ _ (t4 _ _ upd_same), sz _ _ (t5 _ _ upd_same), my2⟩
        rcases List.mem_cons.mp hx with rfl | hx
        · exact ⟨r3, a3, c3, qm3, qy3, rfl, sz _ _ (t10 _ _ upd_same), sz _ _ (t8 _ _ upd_same), sz _ _ (t9 _ _ upd_same), my3⟩
        rcases List.mem_cons.mp hx with rfl | hx
        · exact ⟨r4, a4, c4, qm4, qy4, rfl, sz _ _ (t13 _ _ upd_same), sz _ _ (t11 _ _ upd_same), sz _ _ (t12 _ _ upd_same), my4⟩
        · cases hx)
      refine ⟨_, rfl, _, _, rfl, rfl, ⟨by decide, by decide⟩, _, _, rfl, rfl, md, l3, _, _, _, rfl, rfl, SqL.of upd_same, hx, ?_⟩
      refine ⟨r, _, rfl, SqT.of er, rfl, _, _, rfl, _, _, rfl, rfl, ?_⟩
      exact fin _ _ _ _ _ a c m y _ my (b1.trans (But.same (t0.trans sz))) (d1.same (t0.trans sz) (by omega)) ea ec
    · refine ⟨_, rfl, _, _, rfl, rfl, ⟨by decide, by decide⟩, _, _, rfl, rfl, md, _, _, rfl, rfl, _, rfl, _, _, rfl, rfl, ⟨by decide, by decide⟩, _, _, rfl, rfl, md, _, _, rfl, rfl, _, rfl, _, _, rfl, rfl, ⟨by decide, by decide⟩, _, _, rfl, rfl, md, _, _, rfl, rfl, (by show 5 ≤ sizeLine; decide), fun p hp => ?_⟩
      have h1 := Int.emod_nonneg (v / 400) (show (5 : Int) ≠ 0 by decide)
      have h2 := Int.emod_lt_of_pos (v / 400) (show (0 : Int) < 5 by decide)
      obtain ⟨z, hz, i, rfl, i0, i1⟩ := pick (P := fun x => ∃ i : Int, x = V.int i ∧ 1 ≤ i ∧ i ≤ 32) (xs := [.int (1 + v / 8 % 4), .int (2 + v / 8 % 30), .int (28 + v / 8 % 5), .int 30, .int 30]) h1 h2 (by
        intro x hx
        rcases List.mem_cons.mp hx with rfl | hx
        · exact ⟨_, rfl, by omega, by omega⟩
        rcases List.mem_cons.mp hx with rfl | hx
        · exact ⟨_, rfl, by omega, by omega⟩
        rcases List.mem_cons.mp hx with rfl | hx
        · exact ⟨_, rfl, by omega, by omega⟩
        rcases List.mem_cons.mp hx with rfl | hx
        · exact ⟨_, rfl, by omega, by omega⟩
        rcases List.mem_cons.mp hx with rfl | hx
        · exact ⟨_, rfl, by omega, by omega⟩
        · cases hx)
      refine ⟨_, rfl, _, _, rfl, rfl, ⟨by decide, by decide⟩, _, _, rfl, rfl, md, p, _, _, _, rfl, rfl, SqL.of upd_same, hz, ?_⟩
      refine ⟨_, rfl, l, n + 1, rfl, d1.new hp, by omega, fun a2 H2 sq s0 s1 zs b2 d2 e2 => ?_⟩
      refine ⟨_, rfl, l, n + 3, rfl, d2, by omega, fun a3 H3 rq r0 r1 zr b3 d3 e3 => ?_⟩
      have b13 : But l H H3 := ((b1.upd hp).trans b2).trans b3
      have e2' : Tp H3 a2 sq := e2.but b3 d2
      have p6 : (2 : Int) ^ 6 = 64 := by decide
      have p10 : (2 : Int) ^ 10 = 1024 := by decide
      have z1 : Rz 6 ((i - 1 : Int) : Rat) := Rz.int (n := 6) (Sz.of (by omega) (by omega)) (by decide)
      have z12 : Rz 10 ((12 * i : Int) : Rat) := Rz.int (n := 10) (Sz.of (by omega) (by omega)) (by decide)
      have z121 : Rz 10 ((12 * i + 1 : Int) : Rat) := Rz.int (n := 10) (Sz.of (by omega) (by omega)) (by decide)
      have zsw : Rz 25 (sq * ((i - 1 : Int) : Rat)) := zs.mul z1 (by decide)
      have zp : Rz 36 (((12 * i + 1 : Int) : Rat) + sq * ((i - 1 : Int) : Rat)) := z121.add zsw (by decide)
      have z13 : Rz 4 (Rat.divInt 1 13) := Rz.divInt (szi 1) (szi 13) (by decide)
      have zm : Rz 60 ((((12 * i + 1 : Int) : Rat) + sq * ((i - 1 : Int) : Rat)) * Rat.divInt 1 13) := zp.mul z13 (by decide)
      have zrs : Rz 37 (rq * sq) := zr.mul zs (by decide)
      have zrw : Rz 44 (rq * sq * ((i - 1 : Int) : Rat)) := zrs.mul z1 (by decide)
      have zy : Rz 60 (((12 * i : Int) : Rat) + rq * sq * ((i - 1 : Int) : Rat)) := z12.add zrw (by decide)
      refine ⟨_, rfl, _, _, rfl, rfl, .inl ⟨by decide, by decide⟩, _, _, rfl, rfl, (by show 2 ≤ sizeLine; decide), fun t1 n1 => ?_⟩
      refine ⟨_, rfl, _, rfl, _, _, rfl, rfl, (by show 2 ≤ sizeLine; decide), fun t2 n2 => ?_⟩
      have u1 := Same.new (o := .tup [.int (12 * i + 1), .int 1]) n1
      have u2 := Same.new (o := .tup [.int (i - 1), .int 1]) n2
      refine ⟨a2, t2, sq, _, rfl, ((e2'.same u1).same u2).tq (zs.mono (by decide)), int_div (i - 1) (z1.1.mono (by decide)) (by decide), fun t3 H4 n3 u3 e4 => ?_⟩
      refine ⟨t1, t3, _, _, rfl, ((int_div (12 * i + 1) (z121.1.mono (by decide)) (by decide)).same u2).same u3, e4.tq (zsw.mono (by decide)), fun t4 H5 n4 u4 e5 => ?_⟩
      refine ⟨(by show 2 ≤ sizeLine; decide), fun t5 n5 => ?_⟩
      have u5 := Same.new (o := .tup [.int 1, .int 13]) n5
      refine ⟨t4, t5, _, Rat.divInt 1 13, rfl, (e5.same u5).tq (zp.mono (by decide)), ⟨1, 13, upd_same, by decide, rfl, szi 1 (Nat.one_lt_two_pow (by decide)), (szi (n := 4) 13).mono (by decide)⟩, fun t6 H6 n6 u6 e6 => ?_⟩
      have v16 : Same H3 H6 := u1.trans (u2.trans (u3.trans (u4.trans (u5.trans u6))))
      refine ⟨_, rfl, _, _, rfl, rfl, .inl ⟨by decide, by decide⟩, (by show 2 ≤ sizeLine; decide), fun t7 n7 => ?_⟩
      have u7 := Same.new (o := .tup [.int (12 * i), .int 1]) n7
      refine ⟨_, rfl, _, rfl, a3, a2, rq, sq, rfl, ((e3.same v16).same u7).tq (zr.mono (by decide)), ((e2'.same v16).same u7).tq (zs.mono (by decide)), fun t8 H8 n8 u8 e8 => ?_⟩
      refine ⟨_, rfl, _, _, rfl, rfl, (by show 2 ≤ sizeLine; decide), fun t9 n9 => ?_⟩
      have u9 := Same.new (o := .tup [.int (i - 1), .int 1]) n9
      refine ⟨t8, t9, _, _, rfl, (e8.same u9).tq (zrs.mono (by decide)), int_div (i - 1) (z1.1.mono (by decide)) (by decide), fun t10 H10 n10 u10 e10 => ?_⟩
      refine ⟨t7, t10, _, _, rfl, ((int_div (12 * i) (z12.1.mono (by decide)) (by decide)).same (u8.trans u9)).same u10, e10.tq (zrw.mono (by decide)), fun t11 H11 n11 u11 e11 => ?_⟩
      have v6 : Same H6 H11 := u7.trans (u8.trans (u9.trans (u10.trans u11)))
      exact fin _ _ _ _ _ t6 t11 _ _ H11 ⟨fit_drawn i0 s0 s1 r0 r1, zm, zy⟩ (b13.trans (But.same (v16.trans v6))) (d3.same (v16.trans v6) (by omega)) (e6.same v6) e11
end
/-- the law's four and the calendar made of them, of these fractions -/
structure Pr (C Cc : Addr) (H : Hp) (r p : Addr) (m y o k : Rat) : Prop where
  fo : Fo H r m y o k
  cl : Cl C Cc H p m y o k
  g : Good m y o k
theorem Pr.same {C Cc : Addr} {H H1 : Hp} {r p : Addr} {m y o k : Rat} (h : Pr C Cc H r p m y o k) (s : Same H H1) : Pr C Cc H1 r p m y o k := ⟨h.fo.same s, h.cl.same s, h.g⟩
theorem Pr.but {C Cc l : Addr} {H H1 : Hp} {r p : Addr} {n : Nat} {m y o k : Rat} (h : Pr C Cc H r p m y o k) (b : But l H H1) (d : Dr H l n) : Pr C Cc H1 r p m y o k := by
  refine ⟨h.fo.but b d, ?_, h.g⟩
  obtain ⟨dx, a, b', c, d', e, ⟨x1, h1⟩, ⟨x2, h2⟩, ⟨x3, h3⟩, ⟨x4, h4⟩⟩ := h.cl
  exact ⟨dx, a, b', c, d', b.ins d e, ⟨x1, b.ins d h1⟩, ⟨x2, b.ins d h2⟩, ⟨x3, b.ins d h3⟩, ⟨x4, b.ins d h4⟩⟩
/-! ### the law -/
def spLaw (K : PySem.W.Frag) : Sp := fun vs H Q _ => ∃ (a : Addr) (ns : List Int), vs = [.ref a] ∧ SqL K H a (ns.map V.int) ∧ ns.length ≤ 63 ∧ ∀ H', Q (.bl true) H'
theorem cut_ints {ns : List Int} {lo hi : Option Int} {j : Nat} {x : V} (h : (cutV (ns.map V.int) lo hi ++ [V.int 0])[j]? = some x) : ∃ c : Int, x = .int c := by
  have hx : x ∈ cutV (ns.map V.int) lo hi ++ [V.int 0] := List.mem_of_getElem? h
  rcases List.mem_append.mp hx with hx | hx
  · have h1 := List.mem_of_mem_take hx
    have h2 := List.mem_of_mem_drop h1
    obtain ⟨c, _, e⟩ := List.mem_map.mp h2
    exact ⟨c, e.symm⟩
  · exact ⟨0, List.mem_singleton.mp hx⟩
theorem cut_len {ns : List Int} {lo hi : Option Int} (h : ns.length ≤ 63) : (cutV (ns.map V.int) lo hi).length + ([V.int 0] : List V).length ≤ sizeLine := by
  have h1 := cutV_length (ns.map V.int) lo hi
  rw [List.length_map] at h1
  have h2 : ([V.int 0] : List V).length = 1 := rfl
  exact Nat.le_trans (show _ ≤ 64 by omega) (by decide)
theorem ne_of_none' {H : Hp} {l p : Addr} {n : Nat} (d : Dr H l n) (e : H p = none) : p ≠ l := by
  obtain ⟨_, _, _, h, _⟩ := d
  exact (ne_of_none h e).symm
/-! ### the law's calendars and years of feasts -/
def gC4 {α : Type} : List α → List α → List α → List α := fun us _ ws => us ++ (match ws with | [a, b, c, d] => [d, c, b, a] | _ => [])
theorem gC4_rel {vs ds zs : List V} {us its ws : List Value} (h : Vals vs us) (_ : Vals ds its) (k : Vals zs ws) : Vals (gC4 vs ds zs) (gC4 us its ws) := by
  refine h.append ?_
  cases k with
  | nil => exact .nil
  | cons a k => cases k with
    | nil => exact .nil
    | cons b k => cases k with
      | nil => exact .nil
      | cons c k => cases k with
        | nil => exact .nil
        | cons d k => cases k with
          | nil => exact .cons d (.cons c (.cons b (.cons a .nil)))
          | cons e k => exact .nil
theorem kb_Calendar_0_mark_moon_year_month : Kd "Calendar.__init__" s_Calendar_init 2 1 ["mark", "moon", "year", "month"] ["self", "month", "year", "moon", "mark"] gC4 :=
  ⟨fun _ _ _ _ _ _ _ us its ws hu hi hw => match us, hu, its, hi, ws, hw with | [_], _, [_, _], _, [_, _, _, _], _ => ⟨_, rfl, rfl⟩, gC4_rel⟩
theorem bd_Calendar4 : Bd1 "__init__" "Calendar.__init__" s_Calendar_init ["self", "month", "year", "moon", "mark"] 5 2 2 := fun _ _ _ _ _ _ _ us its hu hi => match us, hu, its, hi with | [_, _, _, _, _], _, [_, _], _ => ⟨_, rfl, rfl⟩
theorem made_ca {C Cc : Addr} {H : Hp} {R : Addr → Hp → Prop} {E : XK} {v u x z : V} {m y o k : Rat} (hv : Rv C H v m) (hu : Rv C H u y) (hx : Mv C H x o) (hz : Mv C H z k) (g : Good m y o k) (h : ∀ p H', H p = none → Same H H' → Cl C Cc H' p m y o k → R p H') :
    ∀ a dx, H a = none → H dx = none → dx ≠ a → spCaI C Cc [.ref a, v, u, x, z] (L2.upd (L2.upd H dx (.own a)) a (.ins Cc dx [])) (fun r H2 => r = .non ∧ R a H2) E := by
  intro a dx ha hd ne
  have s0 : Same H (L2.upd (L2.upd H dx (.own a)) a (.ins Cc dx [])) := Same.upd (Same.new hd) (by rw [upd_ne ne.symm]; exact ha)
  refine ⟨a, dx, v, u, x, z, m, y, o, k, rfl, upd_same, hv.same s0, hu.same s0, hx.same s0, hz.same s0, g, fun H' b hc => ⟨rfl, ?_⟩⟩
  exact h a H' ha (fun c w e => b c w (ne_of_none e ha) (s0 c w e)) hc
theorem Sh.mv {C p : Addr} {H : Hp} {q : Rat} (h : Sh C H p q) : Mv C H (.ref p) q := .inr h.rv
theorem four_at {H : Hp} {r a b c d : Addr} {m y o k : Rat} (g : Good m y o k) (h1 : Tp H a m) (h2 : Tp H b y) (h3 : Tp H c o) (h4 : Tp H d k) {i : Nat} {x : V} (hi : [V.ref a, V.ref b, V.ref c, V.ref d][i]? = some x) : ∃ (t : Addr) (q : Rat), x = V.ref t ∧ [m, y, o, k][i]? = some q ∧ Tp H t q ∧ Rz 70 q := by
  match i, hi with
  | 0, hi => cases hi; exact ⟨a, m, rfl, rfl, h1, g.zm⟩
  | 1, hi => cases hi; exact ⟨b, y, rfl, rfl, h2, g.zy⟩
  | 2, hi => cases hi; exact ⟨c, o, rfl, rfl, h3, g.zo⟩
  | 3, hi => cases hi; exact ⟨d, k, rfl, rfl, h4, g.zk⟩
  | j + 4, hi => simp at hi
def spCal (C Cc : Addr) : Sp := fun vs H Q _ => ∃ (l r : Addr) (n : Nat) (m y o k : Rat), vs = [.ref l, .ref r] ∧ Dr H l n ∧ n ≤ 1000 ∧ Fo H r m y o k ∧ Good m y o k ∧ ∀ p H', But l H H' → Dr H' l (n + 1) → Pr C Cc H' r p m y o k → Q (.ref p) H'
section
variable {P : Program} {w : World} {K : PySem.W.Frag} {mg : Str → Option Value} {base : Heap} {C Cc : Addr}
abbrev TE_l_cal1 (K : PySem.W.Frag) (C : Addr) : TE := tMake C (spShI C) (([.int 1] : List V).drop 1) E0 (tCons (tOp (rIxT K) (tVar 3) (tC (.int 0))) (tCons (tOp (rIxT K) (tVar 3) (tC (.int 1))) tNil))
theorem ok_lcal (D : Df K mg "_law_cal" s_l_cal []) (f_l_next : Ca P w K mg base CX0 1 "_law_next" s_l_next [] ["_law_draws_here"] spNext) (f_Share : Ci P w K mg base CX0 2 "Share" C "Share.__init__" s_Share_init [.int 1] ["self", "top", "bottom"] (spShI C)) (f_Calendar : Ci P w K mg base CX0 8 "Calendar" Cc "Calendar.__init__" s_Calendar_init [.non, .non] ["self", "month", "year", "moon", "mark"] (spCaI C Cc)) : Ca P w K mg base CX0 10 "_law_cal" s_l_cal [] ["_law_draws_here", "_law_four_here"] (spCal C Cc) := by
  refine ca0 (k := 9) D c_l_cal (fun vs H Q E h => ?_) fun f cdv A outer s H vs Q E hr h => ?_
  · obtain ⟨l, r, n, m, y, o, k, rfl, _⟩ := h
    rfl
  · obtain ⟨l, r, n, m, y, o, k, rfl, d0, hn, fo, g, q⟩ := h
    obtain ⟨a, b, c, d, e, h1, h2, h3, h4⟩ := id fo
    refine ⟨_, (pss_cons (ps_setLc (i := 2) (own := [("_law_one", 3)]) (g := gName 3) (tt := tYes) (te := TE_l_cal1 K C) rfl c_l_cal.nd rfl rfl (sw_true rfl rfl rfl (by decide +kernel)) (pi_tup (pv 1)) (blkOk_by (N := ["_law_draws_here", "_law_four_here", "_law_parts", "_law_one"]) (sc := defScope s_l_cal) (by decide +kernel)) (fun _ _ _ _ _ => (pg_name (i := 3) c_l_cal.nd rfl (.inl rfl))) (fun _ _ _ _ _ => by exact pts_nil) (fun _ _ _ _ _ => by exact (pe_ci f_Share bd_Share2 (by decide) rfl hr (by decide) pass0 rfl (pa_cons (pe_ix ix_tup (pv 3) pe_int (fun _ _ => rfl)) (pa_cons (pe_ix ix_tup (pv 3) pe_int (fun _ _ => rfl)) pa_nil)))))
      (pss_cons (ps_if (pt_cmpR op_eq (pe_op op_mod (pe_ca f_l_next b_l_next hr (by decide) pass0 rfl (pa_cons (pv 0) pa_nil)) pe_int) pe_int (nomark _)) (pss_one (ps_ret (pe_ci f_Calendar bd_Calendar4 (by decide) rfl hr (by decide) pass0 rfl (pa_cons (pe_ix ix_list (pv 2) pe_int (fun _ _ => rfl)) (pa_cons (pe_ix ix_list (pv 2) pe_int (fun _ _ => rfl)) (pa_cons (pe_ix ix_list (pv 2) pe_int (fun _ _ => rfl)) (pa_cons (pe_ix ix_list (pv 2) pe_int (fun _ _ => rfl)) pa_nil))))))) pss_nil)
      (pss_one (ps_ret (pe_ciK0 f_Calendar kb_Calendar_0_mark_moon_year_month (by decide) hr (by decide) pass0 rfl (pk_cons (pe_ix ix_list (pv 2) pe_int (fun _ _ => rfl)) (pk_cons (pe_ix ix_list (pv 2) pe_int (fun _ _ => rfl)) (pk_cons (pe_ix ix_list (pv 2) pe_int (fun _ _ => rfl)) (pk_cons (pe_ix ix_list (pv 2) pe_int (fun _ _ => rfl)) pk_nil))))))))), ?_⟩
    refine ⟨_, rfl, r, rfl, ⟨_, SqT.of e⟩, fun D0 hD => ?_⟩
    refine lc_all (walk_tup (K := K) (a := r) (xs := [.ref a, .ref b, .ref c, .ref d])) yAt_same hD (by show 4 < sizeLine; decide) (fun j v H' => ∃ (p : Addr) (x : Rat), v = .ref p ∧ [m, y, o, k][j]? = some x ∧ Sh C H' p x)
      (fun j v H1 H2 s ⟨p, x, e1, e2, e3⟩ => ⟨p, x, e1, e2, e3.same s⟩) (fun j v H1 acc acc' hacc ⟨p, x, e1, e2, dx, e3⟩ => ⟨p, x, e1, e2, dx, ?_⟩) (fun H' s' => SqT.of (s' _ _ e)) ?_ ?_
    · rw [upd_ne (ne_of e3 hacc (by intro z; cases z))]
      exact e3
    · rintro i x H1 H2 R hi s1 ⟨rfl, hx⟩ k1
      obtain ⟨t, xq, rfl, hq, ht, zq⟩ := four_at (r := r) g (h1.same s1) (h2.same s1) (h3.same s1) (h4.same s1) hx
      refine ⟨rfl, ?_⟩
      refine ⟨_, rfl, t, _, _, _, rfl, rfl, SqT.of ht, rfl, _, rfl, t, _, _, _, rfl, rfl, SqT.of ht, rfl, ?_⟩
      refine made_sh (Int.ne_of_gt (den_pos xq)) (zq.1.mono (by decide)) (zq.2.mono (by decide)) fun p H3 np s3 h3' => ?_
      rw [Rat.num_divInt_den] at h3'
      exact k1 _ H3 s3 ⟨p, xq, rfl, hq, h3'⟩
    · intro us H' hl hD' hs hp
      match us, hl with
      | [u1, u2, u3, u4], _ =>
        obtain ⟨p1, x1, rfl, e1, g1⟩ := hp 0 _ rfl
        obtain ⟨p2, x2, rfl, e2, g2⟩ := hp 1 _ rfl
        obtain ⟨p3, x3, rfl, e3, g3⟩ := hp 2 _ rfl
        obtain ⟨p4, x4, rfl, e4, g4⟩ := hp 3 _ rfl
        cases e1
        cases e2
        cases e3
        cases e4
        have d1 := d0.same hs (Nat.le_refl _)
        have neD : D0 ≠ l := ne_of_none' d0 hD
        refine ⟨_, rfl, l, n, rfl, d1, by omega, fun v H2 v0 v1 b2 d2 => ?_⟩
        have eD := b2 _ _ neD hD'
        have sh : ∀ {p : Addr} {x : Rat}, Sh C H' p x → Sh C H2 p x := fun ⟨dx, e⟩ => ⟨dx, b2.ins d1 e⟩
        have fo2 := (fo.same hs).but b2 d1
        have fin : ∀ a dx, H2 a = none → H2 dx = none → dx ≠ a → spCaI C Cc [.ref a, .ref p1, .ref p2, .ref p3, .ref p4] (L2.upd (L2.upd H2 dx (.own a)) a (.ins Cc dx [])) (fun r H2 => r = .non ∧ Q (.ref a) H2) E0 :=
          made_ca (sh g1).rv (sh g2).rv (sh g3).mv (sh g4).mv g fun p H3 np s3 hc => q p H3 (((But.same hs).trans b2).trans (But.same s3)) (d2.same s3 (Nat.le_refl _)) ⟨fo2.same s3, hc, g⟩
        refine ⟨_, _, rfl, rfl, md, rfl, _, rfl, ite2 (fun _ => ?_) (fun _ => ?_)⟩
        · exact ⟨_, rfl, D0, _, _, _, rfl, rfl, SqL.of eD, rfl, _, rfl, D0, _, _, _, rfl, rfl, SqL.of eD, rfl, _, rfl, D0, _, _, _, rfl, rfl, SqL.of eD, rfl, _, rfl, D0, _, _, _, rfl, rfl, SqL.of eD, rfl, fin⟩
        · exact ⟨_, rfl, D0, _, _, _, rfl, rfl, SqL.of eD, rfl, _, rfl, D0, _, _, _, rfl, rfl, SqL.of eD, rfl, _, rfl, D0, _, _, _, rfl, rfl, SqL.of eD, rfl, _, rfl, D0, _, _, _, rfl, rfl, SqL.of eD, rfl, rfl, rfl, fin⟩
end
/-! ### the __init__ of own errors -/
/-- a def of a class that is an exception's -/
structure Dx (K : PySem.W.Frag) (C : Addr) (qual : Str) (st : Stmt) : Prop where
  ex : ∃ (f : Addr) (fd : FuncData), FunD K "__init__" qual (defArgs st) (defBody st) (defScope st) [] [] f fd ∧ PySem.W.findIn K (.ref C) "__init__" = some (some (.ref f)) ∧ PySem.W.typeIn K (.ref f) = some (.type "function")
structure Cx1 (P : Program) (w : World) (K : PySem.W.Frag) (mg : Str → Option Value) (base : Heap) (k : Nat) (C : Addr) (qual : Str) (st : Stmt) (ps : List Str) (sp : Sp) : Prop where
  ex : ∃ (f : Addr) (fd : FuncData), FunD K "__init__" qual (defArgs st) (defBody st) (defScope st) [] [] f fd ∧ PySem.W.findIn K (.ref C) "__init__" = some (some (.ref f)) ∧ PySem.W.typeIn K (.ref f) = some (.type "function") ∧ FnOk P w K mg base CX0 k f fd ps sp
theorem str_app_len (a b : Str) : (a ++ b).length = a.length + b.length := by
  show (a.cps ++ b.cps).size = a.cps.size + b.cps.size
  exact Array.size_append
/-! ### which kind a kept error is -/
/-- the ten classes of errors, and what an error of the class D is an instance of -/
structure KdF (K : PySem.W.Frag) (mg : Str → Option Value) (D : Addr) (b0 b1 b2 b3 b4 b5 b6 b7 b8 b9 c0 c1 c2 c3 c4 c5 : Bool) (C_NoShare C_NoCalendar C_NoDate C_NoWheel C_NoName C_NoDay C_Taken C_NoText C_NoNote C_NoDeed : Addr) : Prop where
  xc : XcF K D
  m0 : mg "NoShare" = some (.ref C_NoShare)
  m1 : mg "NoCalendar" = some (.ref C_NoCalendar)
  m2 : mg "NoDate" = some (.ref C_NoDate)
  m3 : mg "NoWheel" = some (.ref C_NoWheel)
  m4 : mg "NoName" = some (.ref C_NoName)
  m5 : mg "NoDay" = some (.ref C_NoDay)
  m6 : mg "Taken" = some (.ref C_Taken)
  m7 : mg "NoText" = some (.ref C_NoText)
  m8 : mg "NoNote" = some (.ref C_NoNote)
  m9 : mg "NoDeed" = some (.ref C_NoDeed)
  k0 : PySem.W.kitOne K (.ref D) (.ref C_NoShare) = some b0
  k1 : PySem.W.kitOne K (.ref D) (.ref C_NoCalendar) = some b1
  k2 : PySem.W.kitOne K (.ref D) (.ref C_NoDate) = some b2
  k3 : PySem.W.kitOne K (.ref D) (.ref C_NoWheel) = some b3
  k4 : PySem.W.kitOne K (.ref D) (.ref C_NoName) = some b4
  k5 : PySem.W.kitOne K (.ref D) (.ref C_NoDay) = some b5
  k6 : PySem.W.kitOne K (.ref D) (.ref C_Taken) = some b6
  k7 : PySem.W.kitOne K (.ref D) (.ref C_NoText) = some b7
  k8 : PySem.W.kitOne K (.ref D) (.ref C_NoNote) = some b8
  k9 : PySem.W.kitOne K (.ref D) (.ref C_NoDeed) = some b9
  t0 : PySem.W.kitOne K (.ref D) (.type "ZeroDivisionError") = some c0
  t1 : PySem.W.kitOne K (.ref D) (.type "LookupError") = some c1
  t2 : PySem.W.kitOne K (.ref D) (.type "ValueError") = some c2
  t3 : PySem.W.kitOne K (.ref D) (.type "KeyError") = some c3
  t4 : PySem.W.kitOne K (.ref D) (.type "IndexError") = some c4
  t5 : PySem.W.kitOne K (.ref D) (.type "RuntimeError") = some c5
/-! ### NoName -/
structure NnT (K : PySem.W.Frag) (mg : Str → Option Value) (CM : Addr) : Prop where
  ox : OxK K CM
  no : PySem.W.findIn K (.ref CM) "name" = some none
  vV : PySem.W.findCls K (.type "KeyError") (.type "type") "__init__" = some (.val (.builtin "KeyError.__init__"))
  gV : mg "KeyError" = none
  mN : mg "NoName" = some (.ref CM)
/-- the __init__ of an error with one field -/
def spNx (CN : Addr) (f : Str) (ok : V → Prop) : Sp := fun vs H Q _ => ∃ (a : Addr) (x : V), vs = [.ref a, x] ∧ ok x ∧ H a = some (exo a CN none) ∧ ∀ dx, H dx = none → dx ≠ a → Q .non (L2.upd (L2.upd H dx (exd dx [(f, x)])) a (exo a CN (some dx)))
def okNm (x : V) : Prop := ∃ t : Str, x = .str t ∧ t.length ≤ 1000
/-- an error of the class CN whose field f is x -/
def NxE (CN : Addr) (f : Str) (E : XK) (H : Hp) (x : V) : Prop := ∀ (d : Addr) (H' : Hp), H d = none → Same H H' → H' d = some (.xd [(f, x)]) → E (.ref CN) (some d) H'
theorem NxE.same {CN : Addr} {f : Str} {E : XK} {H H1 : Hp} {x : V} (k : NxE CN f E H x) (s : Same H H1) : NxE CN f E H1 x := fun d H' nd hs e => k d H' (s.free nd) (s.trans hs) e
section
variable {P : Program} {w : World} {K : PySem.W.Frag} {mg : Str → Option Value} {base : Heap} {CM : Addr}
theorem ok_nn (D : Dx K CM "NoName.__init__" s_NoName_init) (T : NnT K mg CM) : Cx1 P w K mg base 1 CM "NoName.__init__" s_NoName_init ["self", "name"] (spNx CM "name" okNm) := by
  obtain ⟨f, fd, F, h1, h2⟩ := D.ex
  refine ⟨f, fd, F, h1, h2, F.ok c_NoName_init (fun vs H Q E h => ?_) fun cdv A outer s H vs Q E hr h => ?_⟩
  · obtain ⟨a, x, rfl, _⟩ := h
    rfl
  · obtain ⟨a, x, rfl, ⟨t, rfl, hx⟩, ha, q⟩ := h
    refine ⟨_, PSs.nox (pss_cons (ps_expr (pe_biny (newId := "LookupError.__new__") (bm := bmK) rfl T.gV (by decide +kernel) typ_K T.vV (pa_cons (pv 0) (pa_cons (pe_joined (.cons pe_str (.cons (pe_fmt (pv 1)) .nil))) pa_nil)))) (pss_one (ps_gsy (B := "KeyError") (newId := "LookupError.__new__") (initId := "KeyError.__init__") (bm := bmK) (f := "name") (pv 0) (pv 1)))), ?_⟩
    refine ⟨_, rfl, _, rfl, (by decide), _, rfl, .inl ⟨t, rfl, Nat.le_trans hx (by decide), t, rfl, ?_, a, CM, _, rfl, (by show 1 ≤ 1000; decide), T.ox, ha, ?_⟩⟩
    · rw [str_app_len, str_app_len]
      exact Nat.le_trans (Nat.add_le_add_left hx _) (by decide)
    · exact ⟨_, rfl, _, rfl, a, CM, rfl, T.ox, T.no, .inl ⟨ha, q⟩⟩
/-- raise NoName(x) -/
theorem mk_nn {X : Cx} {e : Expr} {te : TE} {p pos : Pos} (T : NnT X.K X.mg CM) (c : Cx1 X.prog X.w X.K X.mg X.base 1 CM "NoName.__init__" s_NoName_init ["self", "name"] (spNx CM "name" okNm)) (hr : Room 2 X.A) (hg : Gl X "NoName") (ha : PA X [e] (tCons te tNil))
    (he : starEach (e :: []) X.env = (false, eval e X.env) :: starEach [] X.env := by rfl) (hpl : (backTo pos (starEach [] X.env)).any (·.1) = false := by rfl) : PMk X (.Call (.Name "NoName" p) [e] [] pos) (tMkO CM (spNx CM "name" okNm) [] (tCons te tNil)) := by
  obtain ⟨f, fd, F, h1, h2, G⟩ := c.ex
  exact pmk_y T.ox h1 h2 G hr (F.bindsN fun _ _ _ _ _ _ us hl => match us, hl with | [_, _], _ => rfl) .nil pass0 hg T.mN ha (by decide) he hpl
theorem rd_nx {CN : Addr} {f : Str} {ok : V → Prop} {H : Hp} {E : XK} {x : V} (hx : ok x) (k : NxE CN f E H x) {H1 : Hp} (s : Same H H1) : ([x] : List V).length ≤ 1000 ∧ ∀ a, H1 a = none → spNx CN f ok (.ref a :: ([x] ++ [])) (L2.upd H1 a (exo a CN none))
    (fun v H2 => v = .non ∧ ∃ (d : Addr) (fs : List (Str × V)), H2 a = some (exo a CN (some d)) ∧ H2 d = some (exd d fs) ∧ H1 d = none ∧ E (.ref CN) (some d) (L2.upd (del H2 a) d (.xd fs))) (fun _ _ _ => False) := by
  refine ⟨(by show 1 ≤ 1000; decide), fun a na => ⟨a, x, rfl, hx, upd_same, fun dx nd ne => ⟨rfl, dx, [(f, x)], upd_same, ?_, ?_, ?_⟩⟩⟩
  · rw [upd_ne ne, upd_same]
  · rw [upd_ne ne] at nd
    exact nd
  · rw [upd_ne ne] at nd
    refine k dx _ (s.free nd) (fun b o e => ?_) upd_same
    have e1 := s b o e
    rw [upd_ne (ne_of_none e1 nd), del_ne (ne_of_none e1 na), upd_ne (ne_of_none e1 na), upd_ne (ne_of_none e1 nd), upd_ne (ne_of_none e1 na)]
    exact e1
end
/-! ### Taken -/
abbrev bmV : List Value := [.type "ValueError", .type "Exception", .type "BaseException", .type "object"]
abbrev OxV (K : PySem.W.Frag) (C : Addr) : Prop := OxG K C "ValueError" "ValueError.__new__" "ValueError.__init__" bmV
theorem typ_V : typeOf (.type "ValueError") = pure (.type "type") := by kernel_rfl
structure TkT (K : PySem.W.Frag) (mg : Str → Option Value) (CT : Addr) : Prop where
  ox : OxV K CT
  no : PySem.W.findIn K (.ref CT) "name" = some none
  vV : PySem.W.findCls K (.type "ValueError") (.type "type") "__init__" = some (.val (.builtin "ValueError.__init__"))
  gV : mg "ValueError" = none
  mN : mg "Taken" = some (.ref CT)
section
variable {P : Program} {w : World} {K : PySem.W.Frag} {mg : Str → Option Value} {base : Heap} {CT : Addr}
theorem ok_tk (D : Dx K CT "Taken.__init__" s_Taken_init) (T : TkT K mg CT) : Cx1 P w K mg base 1 CT "Taken.__init__" s_Taken_init ["self", "name"] (spNx CT "name" okNm) := by
  obtain ⟨f, fd, F, h1, h2⟩ := D.ex
  refine ⟨f, fd, F, h1, h2, F.ok c_Taken_init (fun vs H Q E h => ?_) fun cdv A outer s H vs Q E hr h => ?_⟩
  · obtain ⟨a, x, rfl, _⟩ := h
    rfl
  · obtain ⟨a, x, rfl, ⟨t, rfl, hx⟩, ha, q⟩ := h
    refine ⟨_, PSs.nox (pss_cons (ps_expr (pe_bini (newId := "ValueError.__new__") (bm := bmV) rfl T.gV (by decide +kernel) typ_V T.vV (pa_cons (pv 0) (pa_cons (pe_joined (.cons pe_str (.cons (pe_fmt (pv 1)) .nil))) pa_nil)))) (pss_one (ps_gst (B := "ValueError") (newId := "ValueError.__new__") (initId := "ValueError.__init__") (bm := bmV) (f := "name") (pv 0) (pv 1)))), ?_⟩
    refine ⟨_, rfl, _, rfl, (by decide), _, rfl, .inl ⟨t, rfl, Nat.le_trans hx (by decide), t, rfl, ?_, a, CT, _, rfl, (by show 1 ≤ 1000; decide), T.ox, ha, ?_⟩⟩
    · rw [str_app_len, str_app_len]
      exact Nat.le_trans (Nat.add_le_add_left hx _) (by decide)
    · exact ⟨_, rfl, _, rfl, a, CT, rfl, T.ox, T.no, .inl ⟨ha, q⟩⟩
/-- raise Taken(x) -/
theorem mk_tk {X : Cx} {e : Expr} {te : TE} {p pos : Pos} (T : TkT X.K X.mg CT) (c : Cx1 X.prog X.w X.K X.mg X.base 1 CT "Taken.__init__" s_Taken_init ["self", "name"] (spNx CT "name" okNm)) (hr : Room 2 X.A) (hg : Gl X "Taken") (ha : PA X [e] (tCons te tNil))
    (he : starEach (e :: []) X.env = (false, eval e X.env) :: starEach [] X.env := by rfl) (hpl : (backTo pos (starEach [] X.env)).any (·.1) = false := by rfl) : PMk X (.Call (.Name "Taken" p) [e] [] pos) (tMkO CT (spNx CT "name" okNm) [] (tCons te tNil)) := by
  obtain ⟨f, fd, F, h1, h2, G⟩ := c.ex
  exact pmk_g T.ox h1 h2 G hr (F.bindsN fun _ _ _ _ _ _ us hl => match us, hl with | [_, _], _ => rfl) .nil pass0 hg T.mN ha (by decide) he hpl
end
/-! ### a book of feasts -/
theorem hu1 {k : Nat} {A : Around} (r : Room k A) : A.units + 1 < cLine := by
  have := r.un
  omega
theorem hu20 {k : Nat} {A : Around} (r : Room k A) : A.units + 20 < cLine := by
  have := r.un
  omega
structure FbT (K : PySem.W.Frag) (Cb : Addr) : Prop where
  cl : Cls K Cb
  n1 : NoAttr K Cb "calendar"
  n2 : NoAttr K Cb "feasts"
def fbs (p d : Addr) : List (Str × V) := putF "feasts" (.ref d) (putF "calendar" (.ref p) [])
theorem fbn : ¬ (("calendar" : Str) = "feasts") := by decide +kernel
theorem fb_cal (p d : Addr) : (fbs p d).lookup ("calendar" : Str) = some (.ref p) := by
  unfold fbs
  rw [lookup_putF, if_neg fbn, lookup_putF, if_pos rfl]
theorem fb_feasts (p d : Addr) : (fbs p d).lookup ("feasts" : Str) = some (.ref d) := by
  unfold fbs
  rw [lookup_putF, if_pos rfl]
theorem fb_no (p d : Addr) {x : Str} (h1 : ¬ (x = ("feasts" : Str))) (h2 : ¬ (x = ("calendar" : Str))) : (fbs p d).lookup x = none := by
  unfold fbs
  rw [lookup_putF, if_neg h1, lookup_putF, if_neg h2]
  rfl
/-- a feast: its name, number, day and when -/
structure Fst where
  nm : Str
  nr : Int
  dy : Int
  wh : Str
def fkv (fs : List (Addr × Fst)) : List (L2.Key × V) := fs.map fun q => (.inr q.2.nm, .ref q.1)
/-- at b a book of the calendar at p with such feasts -/
structure Bk (C Cc Cb Cf : Addr) (H : Hp) (b p : Addr) (m y o k : Rat) (fs : List (Addr × Fst)) : Prop where
  ob : ∃ dx d, H b = some (.ins Cb dx (fbs p d)) ∧ H d = some (.dK (fkv fs))
  c : Cl C Cc H p m y o k
  g : Good m y o k
  fe : ∀ q ∈ fs, Fe Cf H q.1 q.2.nm q.2.nr q.2.dy q.2.wh
  sz : ∀ q ∈ fs, Sz 900 q.2.nr
  z : fs.length ≤ 50
theorem Bk.same {C Cc Cb Cf b p : Addr} {H H1 : Hp} {m y o k : Rat} {fs : List (Addr × Fst)} (h : Bk C Cc Cb Cf H b p m y o k fs) (s : Same H H1) : Bk C Cc Cb Cf H1 b p m y o k fs :=
  ⟨let ⟨dx, d, e1, e2⟩ := h.ob
   ⟨dx, d, s _ _ e1, s _ _ e2⟩, h.c.same s, h.g, fun q hq => (h.fe q hq).same s, h.sz, h.z⟩
/-- a place that isn't the book's own list -/
def Off (Cb : Addr) (H : Hp) (b p c : Addr) : Prop := ∀ dx d, H b = some (.ins Cb dx (fbs p d)) → c ≠ d
theorem fbs_inj {p d d' : Addr} (h : fbs p d = fbs p d') : d = d' := by
  have e := fb_feasts p d
  rw [h, fb_feasts] at e
  exact V.ref.inj (Option.some.inj e).symm
theorem Bk.own {C Cc Cb Cf b p : Addr} {H : Hp} {m y o k : Rat} {fs : List (Addr × Fst)} (h : Bk C Cc Cb Cf H b p m y o k fs) {dx d : Addr} (e : H b = some (.ins Cb dx (fbs p d))) : H d = some (.dK (fkv fs)) := by
  obtain ⟨dx0, d0, e1, e2⟩ := h.ob
  rw [e] at e1
  have e3 := HO.ins.inj (Option.some.inj e1)
  rw [fbs_inj e3.2.2]
  exact e2
theorem Bk.off {C Cc Cb Cf b p c : Addr} {H : Hp} {m y o k : Rat} {fs : List (Addr × Fst)} {ob : HO} (h : Bk C Cc Cb Cf H b p m y o k fs) (e : H c = some ob) (n : ∀ kvs, ob ≠ .dK kvs) : Off Cb H b p c := fun dx d e1 w => by
  have e2 := h.own e1
  rw [← w, e] at e2
  exact n _ (Option.some.inj e2)
theorem Off.of {Cb b p c : Addr} {H H1 : Hp} {ob : HO} (h : Off Cb H b p c) (e : H b = some ob) (e1 : H1 b = some ob) : Off Cb H1 b p c := fun dx d e2 => h dx d (by rw [e, ← e1]; exact e2)
/-- the days of a feast in a year -/
def fdL (m y o k : Rat) (a : Int) (f : Fst) : List Int := (fmL m y o k a f.nr f.wh).map (fdd m o f.dy)
theorem fdL_len (m y o k : Rat) (a : Int) (f : Fst) : (fdL m y o k a f).length ≤ 2 := by
  unfold fdL
  rw [List.length_map]
  exact fm_len _ _ _ _ _ _ _
def rawL (m y o k : Rat) (a : Int) (fs : List Fst) : List (Int × Str) := fs.flatMap fun f => (fdL m y o k a f).map fun d => (d, f.nm)
def inY (m y o k : Rat) (a : Int) (fs : List Fst) : List (Int × Str) := (rawL m y o k a fs).mergeSort leD
theorem rawL_snoc (m y o k : Rat) (a : Int) (fs : List Fst) (f : Fst) : rawL m y o k a (fs ++ [f]) = rawL m y o k a fs ++ (fdL m y o k a f).map fun d => (d, f.nm) := by
  unfold rawL
  simp
theorem rawL_len (m y o k : Rat) (a : Int) : ∀ fs : List Fst, (rawL m y o k a fs).length ≤ 2 * fs.length
  | [] => by simp [rawL]
  | f :: fs => by
    have h := rawL_len m y o k a fs
    have h2 := fdL_len m y o k a f
    unfold rawL at *
    simp only [List.flatMap_cons, List.length_append, List.length_map, List.length_cons]
    omega
theorem valV_fkv : ∀ {fs : List (Addr × Fst)} {x : Str}, (∀ q ∈ fs, q.2.nm ≠ x) → valV (fkv fs) (.inr x) = none
  | [], _, _ => rfl
  | q :: fs, x, h => by
    show valV ((Sum.inr q.2.nm, V.ref q.1) :: fkv fs) (.inr x) = none
    rw [valV_neg (fun e => h q List.mem_cons_self (Sum.inr.inj e))]
    exact valV_fkv fun q' hq => h q' (List.mem_cons_of_mem _ hq)
theorem putK_fkv {fs : List (Addr × Fst)} {f : Addr} {z : Fst} (h : ∀ q ∈ fs, q.2.nm ≠ z.nm) : putK (fkv fs) (.inr z.nm) (.ref f) = fkv (fs ++ [(f, z)]) := by
  unfold putK
  rw [valV_any, valV_fkv h, if_neg (by simp)]
  unfold fkv
  rw [List.map_append]
  rfl
def spInY (C Cc Cb Cf : Addr) : Sp := fun vs H Q _ => ∃ (b p : Addr) (a : Int) (m y o k : Rat) (fs : List (Addr × Fst)), vs = [.ref b, .int a] ∧ Bk C Cc Cb Cf H b p m y o k fs ∧ Sz 800 a ∧ ∀ r us H', H r = none → Same H H' → H' r = some (.lst us) → Duos H' us (inY m y o k a (fs.map (·.2))) → Q (.ref r) H'
abbrev TE_Feasts_in_year1 (_K : PySem.W.Frag) (_C _Cc _Cf : Addr) : TE := tTup (tCons (tVar 4) (tCons (tVar 2) tNil))
abbrev WI_Feasts_in_year1 (K : PySem.W.Frag) (C Cc Cf : Addr) : TI := iList K (tCall (spFds C Cc Cf) [] E0 (tCons (tFld K (tVar 0) "calendar") (tCons (tVar 3) (tCons (tVar 1) tNil))))
def spFbI (Cb : Addr) : Sp := fun vs H Q _ => ∃ (b dx p : Addr), vs = [.ref b, .ref p] ∧ H b = some (.ins Cb dx []) ∧ ∀ d H', But b H H' → H d = none → H' b = some (.ins Cb dx (fbs p d)) → H' d = some (.dK []) → Q .non H'
def spFbAX (C Cc Cb Cf CT : Addr) : Sp := fun vs H Q E => ∃ (b p f : Addr) (m y o k : Rat) (fs : List (Addr × Fst)) (z : Fst), vs = [.ref b, .ref f] ∧ Bk C Cc Cb Cf H b p m y o k fs ∧ Fe Cf H f z.nm z.nr z.dy z.wh ∧ Sz 900 z.nr ∧ z.nm.length ≤ 1000 ∧ fs.length < 50 ∧ ((∀ q ∈ fs, q.2.nm ≠ z.nm) → ∀ H', (∀ c o, Off Cb H b p c → H c = some o → H' c = some o) → Bk C Cc Cb Cf H' b p m y o k (fs ++ [(f, z)]) → Q .non H') ∧ ((∃ q ∈ fs, q.2.nm = z.nm) → NxE CT "name" E H (.str z.nm))
def spMisX (C Cc Cb Cf CM : Addr) : Sp := fun vs H Q E => ∃ (b p : Addr) (s : Str) (m y o k : Rat) (fs : List (Addr × Fst)), vs = [.ref b, .str s] ∧ Bk C Cc Cb Cf H b p m y o k fs ∧ s.length ≤ 1000 ∧ ((∃ q ∈ fs, q.2.nm = s) → Q .non H) ∧ ((∀ q ∈ fs, q.2.nm ≠ s) → NxE CM "name" E H (.str s))
section
variable {P : Program} {w : World} {K : PySem.W.Frag} {mg : Str → Option Value} {base : Heap} {C Cc Cb Cf CT CM : Addr}
theorem ok_fbI (D : Di K mg "Feasts" Cb "Feasts.__init__" s_Feasts_init []) (T : FbT K Cb) : Ci P w K mg base CX0 1 "Feasts" Cb "Feasts.__init__" s_Feasts_init [] ["self", "calendar"] (spFbI Cb) := by
  refine ci0 (k := 0) D c_Feasts_init (fun vs H Q E h => ?_) fun f cdv A outer s H vs Q E hr h => ?_
  · obtain ⟨b, dx, p, rfl, _⟩ := h
    rfl
  · obtain ⟨b, dx, p, rfl, hb, q⟩ := h
    refine ⟨_, (pss_cons (ps_fld (pv 0) (pv 1) rfl)
      (pss_one (ps_fld (pv 0) pe_dnewK rfl))), ?_⟩
    refine ⟨_, rfl, _, rfl, b, Cb, dx, _, rfl, hb, T.cl, T.n1, (by show 0 < 1000; decide), ?_⟩
    intro d nd
    have ndb : b ≠ d := fun z => by rw [← z, upd_same] at nd; cases nd
    have nd0 : H d = none := by
      rw [upd_ne ndb.symm] at nd
      exact nd
    refine ⟨_, rfl, b, Cb, dx, _, rfl, (by rw [upd_ne ndb]; exact upd_same), T.cl, T.n2, (by show 1 < 1000; decide), ?_⟩
    refine q d _ (fun c o hc e => ?_) nd0 upd_same ?_
    · rw [upd_ne hc, upd_ne (ne_of_none e nd0), upd_ne hc]
      exact e
    · rw [upd_ne ndb.symm]
      exact upd_same
theorem ok_inY (D : Dm K Cb "in_year" "Feasts.in_year" s_Feasts_in_year) (T : FbT K Cb) (g_sorted : mg "sorted" = none) (f_feast_days : Ca P w K mg base CX0 13 "feast_days" s_feast_days [] ["calendar", "feast", "year"] (spFds C Cc Cf)) : Cm P w K mg base CX0 14 Cb "in_year" "Feasts.in_year" s_Feasts_in_year ["self", "year"] (spInY C Cc Cb Cf) := by
  refine cm0 (k := 13) D c_Feasts_in_year (fun vs H Q E h => ?_) fun f cdv A outer s H vs Q E hr h => ?_
  · obtain ⟨b, p, a, m, y, o, k, fs, rfl, _⟩ := h
    rfl
  · obtain ⟨b, p, a, m, y, o, k, fs, rfl, hb, za, q⟩ := h
    obtain ⟨dx, d, e1, e2⟩ := hb.ob
    refine ⟨_, (pss_one (ps_ret (pe_callB (cr_srtD (hu20 hr)) rfl g_sorted (by decide +kernel) (pa_cons (pe_lock (pe_lc2 (own := [("name", 2), ("feast", 3), ("day", 4)]) (vs1 := [4]) (te := TE_Feasts_in_year1 K C Cc Cf) (wi1 := WI_Feasts_in_year1 K C Cc Cf) (g := gTup K 2 (gCons (gName 2) (gCons (gName 3) gNil))) (g1 := gName 4) (tt := tYes) (tt1 := tYes) rfl c_Feasts_in_year.nd (pi_items (pe_fld (pv 0) rfl)) (blkOk_by (N := ["self", "year", "name", "feast", "day"]) (sc := defScope s_Feasts_in_year) (by decide +kernel)) (by decide) (fun _ _ _ _ _ => (pg_tup rfl (pgs_cons (pg_name (i := 2) c_Feasts_in_year.nd rfl (.inl rfl)) (pgs_cons (pg_name (i := 3) c_Feasts_in_year.nd rfl (.inl rfl)) pgs_nil)))) (fun _ _ _ _ _ => by exact pts_nil) (fun _ _ _ _ _ => by exact (pi_list (pe_ca f_feast_days b_feast_days hr (by decide) pass0 rfl (pa_cons (pe_fld (pv 0) rfl) (pa_cons (pv 3) (pa_cons (pv 1) pa_nil)))))) (fun _ _ _ _ _ => (pg_name (i := 4) c_Feasts_in_year.nd rfl (.inl rfl))) (fun _ _ _ _ _ => by exact pts_nil) (fun _ _ _ _ _ => by exact (pe_tup (pa_cons (pv 4) (pa_cons (pv 2) pa_nil)))))) pa_nil)))), ?_⟩
    refine ⟨d, _, e2, trivial, fun od => ?_⟩
    have ef : (L2.upd H d (.frz od (.dK (fkv fs)))) d = some (.frz od (.dK (fkv fs))) := upd_same
    have kpi : ∀ {c c' dx : Addr} {fs' : List (Str × V)}, H c = some (.ins c' dx fs') → (L2.upd H d (.frz od (.dK (fkv fs)))) c = some (.ins c' dx fs') := fun e => (upd_ne (ne_of e e2 (by intro zz; cases zz))).trans e
    have hcF : Cl C Cc (L2.upd H d (.frz od (.dK (fkv fs)))) p m y o k := by
      obtain ⟨dx', a, b', c, d', e, ⟨x1, h1⟩, ⟨x2, h2⟩, ⟨x3, h3⟩, ⟨x4, h4⟩⟩ := hb.c
      exact ⟨dx', a, b', c, d', kpi e, ⟨x1, kpi h1⟩, ⟨x2, kpi h2⟩, ⟨x3, kpi h3⟩, ⟨x4, kpi h4⟩⟩
    have hfF : ∀ q ∈ fs, Fe Cf (L2.upd H d (.frz od (.dK (fkv fs)))) q.1 q.2.nm q.2.nr q.2.dy q.2.wh := fun q' hq => by
      obtain ⟨dxq, eq⟩ := hb.fe q' hq
      exact ⟨dxq, kpi eq⟩
    have e1F := kpi e1
    have bk : ∀ c o, c ≠ d → (L2.upd H d (.frz od (.dK (fkv fs)))) c = some o → H c = some o := fun c o n e => by rwa [upd_ne n] at e
    have fw : ∀ c o, c ≠ d → H c = some o → (L2.upd H d (.frz od (.dK (fkv fs)))) c = some o := fun c o n e => (upd_ne n).trans e
    have fn : ∀ c, (L2.upd H d (.frz od (.dK (fkv fs)))) c = none → H c = none ∧ c ≠ d := fun c e => by
      by_cases n : c = d
      · rw [n, upd_same] at e
        cases e
      · rw [upd_ne n] at e
        exact ⟨e, n⟩
    generalize hHf : L2.upd H d (.frz od (.dK (fkv fs))) = Hf at *
    refine ⟨_, rfl, b, Cb, dx, _, _, rfl, e1F, T.cl, T.n2, fb_feasts _ _, d, od, _, rfl, ef, fun D0 nD => ?_⟩
    have lkv : (fkv fs).length = fs.length := by
      unfold fkv
      rw [List.length_map]
    refine lc2_it (walk_items (d := d) (o := od) (kvs := fkv fs)) (fun i Hx => ∃ us, Hx D0 = some (.lst us) ∧ Duos Hx us (rawL m y o k a ((fs.take i).map (·.2))) ∧ Same Hf Hx) ⟨[], upd_same, Duos.nil, upd_keep nD (Same.refl Hf)⟩ (fun i Hx _ ⟨_, _, _, s⟩ => s _ _ ef) ?_ ?_
    · rintro i x Ha Hb hi ⟨us, ea, du, sa⟩ ⟨T', u, z, rfl, nT, rfl, hu, hz⟩
      rw [lkv] at hi
      have hq := List.getElem?_eq_getElem hi
      have hk : (fkv fs)[i]? = some (Sum.inr fs[i].2.nm, V.ref fs[i].1) := by
        unfold fkv
        rw [List.getElem?_map, hq]
        rfl
      have hu : (fkv fs)[i]?.map (fun kv => kV kv.1) = some u := hu
      have hz : (fkv fs)[i]?.map Prod.snd = some z := hz
      rw [hk] at hu hz
      obtain rfl : u = V.str fs[i].2.nm := (Option.some.inj hu).symm
      obtain rfl : z = V.ref fs[i].1 := (Option.some.inj hz).symm
      have hmem : fs[i] ∈ fs := List.getElem_mem hi
      have sT := Same.new (o := .tup [V.str fs[i].2.nm, V.ref fs[i].1]) nT
      have eT := upd_same (H := Ha) (a := T') (o := .tup [V.str fs[i].2.nm, V.ref fs[i].1])
      have eb := sT _ _ ea
      have du := du.same fun t xs e => sT _ _ e
      have sb := sa.trans sT
      refine ⟨T', _, rfl, SqT.of eT, rfl, _, _, rfl, _, _, rfl, rfl, ?_⟩
      refine ⟨rfl, ?_⟩
      dsimp only [tYes]
      rw [if_pos rfl]
      generalize L2.upd Ha T' (.tup [V.str fs[i].2.nm, V.ref fs[i].1]) = Hb at *
      refine ⟨_, rfl, b, Cb, dx, _, _, rfl, sb _ _ e1F, T.cl, T.n1, fb_cal _ _, _, rfl, _, rfl, p, fs[i].1, _, _, a, _, _, m, y, o, k, rfl, hcF.same sb, hb.g, (hfF _ hmem).same sb, za.mono (by decide), hb.sz _ hmem, fun r Hc nr sc er => ?_⟩
      have er : Hc r = some (.lst ((fdL m y o k a fs[i].2).map V.int)) := er
      have nrD : r ≠ D0 := fun zz => by
        rw [zz, eb] at nr
        cases nr
      refine ⟨r, rfl, ⟨_, SqL.of er⟩, ?_⟩
      have wl := walk_list (K := K) (a := r) (xs := (fdL m y o k a fs[i].2).map V.int)
      rw [List.length_map] at wl
      refine lc_in (g1 := gName 4) (tt1 := tYes) (te := TE_Feasts_in_year1 K C Cc Cf) (vs1 := [4]) (D := D0) wl (fun j Hx => ∃ us, Hx D0 = some (.lst us) ∧ Duos Hx us (rawL m y o k a ((fs.take i).map (·.2)) ++ ((fdL m y o k a fs[i].2).take j).map fun d => (d, fs[i].2.nm)) ∧ Same Hf Hx ∧ Hx r = some (.lst ((fdL m y o k a fs[i].2).map V.int))) ⟨us, sc _ _ eb, ?_, sb.trans sc, er⟩ (fun j Hx _ ⟨_, _, _, _, e⟩ => SqL.of e) ?_ ?_
      · have h := du.same fun t xs e => sc _ _ e
        simpa using h
      · rintro j x Hx Hy hj ⟨us', ex, dux, sfx, erx⟩ ⟨rfl, hx⟩
        obtain ⟨rfl, hmd⟩ := get_int hx hj
        refine ⟨rfl, ?_⟩
        dsimp only [tYes]
        rw [if_pos rfl]
        refine ⟨_, rfl, _, rfl, (by show 2 ≤ sizeLine; decide), fun t nt => ?_⟩
        have st := Same.new (o := .tup [V.int ((fdL m y o k a fs[i].2).getD j 0), V.str fs[i].2.nm]) nt
        have et := upd_same (H := Hy) (a := t) (o := .tup [V.int ((fdL m y o k a fs[i].2).getD j 0), V.str fs[i].2.nm])
        have ex' := st _ _ ex
        have dux' := dux.same fun t xs e => st _ _ e
        have sfx' := sfx.trans st
        have erx' := st _ _ erx
        generalize L2.upd Hy t (.tup [V.int ((fdL m y o k a fs[i].2).getD j 0), V.str fs[i].2.nm]) = Hz at *
        have kt : ∀ t xs, Hz t = some (.tup xs) → L2.upd Hz D0 (.lst (us' ++ [V.ref t])) t = some (.tup xs) := fun t xs e => (upd_ne (ne_of e ex' (by intro zz; cases zz))).trans e
        have kt2 : ∀ (c : Addr) (xs : List V) (v : V), Hz c = some (.tup xs) → L2.upd Hz D0 (.lst (us' ++ [v])) c = some (.tup xs) := fun c xs v e => (upd_ne (ne_of e ex' (by intro zz; cases zz))).trans e
        refine ⟨us', ex', ?_, us' ++ [.ref t], upd_same, ?_, upd_keep nD sfx', (upd_ne nrD).trans erx'⟩
        · rw [← dux.1]
          have l1 := rawL_len m y o k a ((fs.take i).map (·.2))
          have l2 := fdL_len m y o k a fs[i].2
          have l3 := hb.z
          rw [List.length_map, List.length_take] at l1
          rw [List.length_append, List.length_map, List.length_take]
          exact Nat.lt_of_lt_of_le (show _ < 1000 by omega) (by decide)
        · have hj' := List.getElem?_eq_getElem hj
          rw [List.take_succ, hj']
          have hd := (dux'.snoc (v := .ref t) (x := ((fdL m y o k a fs[i].2).getD j 0, fs[i].2.nm)) ⟨t, rfl, et⟩).same fun c xs e => kt2 c xs (.ref t) e
          have e9 : (fdL m y o k a fs[i].2).getD j 0 = (fdL m y o k a fs[i].2)[j] := by
            rw [List.getD_eq_getElem?_getD, hj']
            rfl
          rw [e9] at hd
          rw [List.map_append, ← List.append_assoc]
          exact hd
      · rintro Hx ⟨us', ex, dux, sfx, erx⟩
        refine ⟨us', ex, ?_, sfx⟩
        rw [List.take_length] at dux
        rw [List.take_succ, hq, List.map_append]
        show Duos Hx us' (rawL m y o k a ((fs.take i).map (·.2) ++ [fs[i].2]))
        rw [rawL_snoc]
        exact dux
    · rintro Hz ⟨us, ez, du, sz⟩
      rw [lkv, List.take_length] at du
      refine ⟨sz _ _ ef, ?_⟩
      have nDd : D0 ≠ d := (fn _ nD).2
      refine ⟨D0, us, _, rfl, SqL.of ((upd_ne nDd).trans ez), du.same fun c xs e => (upd_ne (ne_of e (sz _ _ ef) (by intro zz; cases zz))).trans e, fun us' r du' nr => ?_⟩
      have nrd : r ≠ d := fun zz => by
        rw [zz, upd_same] at nr
        cases nr
      rw [upd_ne nrd] at nr
      have nrH : H r = none := (fn _ (sz.free nr)).1
      have nrD0 : r ≠ D0 := fun zz => by
        rw [zz, ez] at nr
        cases nr
      refine q r us' _ nrH (fun c o' e => ?_) upd_same (du'.same fun c xs e => (upd_ne (ne_of_none e (by rw [upd_ne nrd]; exact nr))).trans e)
      rw [upd_ne (ne_of_none e nrH)]
      by_cases hc : c = d
      · rw [hc, upd_same]
        rw [hc, e2] at e
        exact e
      · rw [upd_ne hc]
        exact sz _ _ (fw c o' hc e)
theorem ok_fbAX (D : Dm K Cb "add" "Feasts.add" s_Feasts_add) (Tb : FbT K Cb) (Tf : FeT K Cf) (T : TkT K mg CT) (nc : Cx1 P w K mg base 1 CT "Taken.__init__" s_Taken_init ["self", "name"] (spNx CT "name" okNm)) : Cm P w K mg base (L2.CX P w) 3 Cb "add" "Feasts.add" s_Feasts_add ["self", "feast"] (spFbAX C Cc Cb Cf CT) := by
  refine cmX (k := 2) D c_Feasts_add (fun vs H Q E h => ?_) fun f cdv A outer s H vs Q E hr h => ?_
  · obtain ⟨b, p, f, m, y, o, k, fs, z, rfl, _⟩ := h
    rfl
  · obtain ⟨b, p, f, m, y, o, k, fs, z, rfl, hb, ⟨dxf, ef⟩, zs, hl, hz, q, qe⟩ := h
    obtain ⟨dx, d, e1, e2⟩ := hb.ob
    refine ⟨_, (pss_cons (ps_if (pt_cmp (pc_din (hu1 hr) (pe_fld (pv 1) rfl) (pe_fld (pv 0) rfl))) (pss_one (ps_raise rfl (takes_of (E := E) rfl rfl rfl rfl) (mk_tk T nc (hr.mono (by decide)) rfl (pa_cons (pe_fld (pv 1) rfl) pa_nil)))) pss_nil)
      (pss_one (ps_dput (hu1 hr) (pe_fld (pv 0) rfl) (pe_fld (pv 1) rfl) (pv 1) rfl))), ?_⟩
    refine ⟨_, rfl, f, Cf, dxf, _, _, rfl, ef, Tf.cl, Tf.n1, ff_name _ _ _ _, ?_⟩
    refine ⟨_, rfl, b, Cb, dx, _, _, rfl, e1, Tb.cl, Tb.n2, fb_feasts _ _, d, _, rfl, DGet.k (k := .inr z.nm) e2, ?_⟩
    by_cases hn : ∀ q ∈ fs, q.2.nm ≠ z.nm
    case neg =>
      have hq : ∃ q ∈ fs, q.2.nm = z.nm := by
        refine Classical.byContradiction fun w => hn fun q hq e => w ⟨q, hq, e⟩
      obtain ⟨q0, hq0, hn0⟩ := hq
      have hs : ((valV (fkv fs) (.inr z.nm)).isSome) = true := by
        rw [← valV_any]
        refine List.any_eq_true.mpr ⟨(.inr q0.2.nm, .ref q0.1), List.mem_map.mpr ⟨q0, hq0, rfl⟩, ?_⟩
        rw [hn0]
        exact decide_eq_true rfl
      obtain ⟨v, hv⟩ := Option.isSome_iff_exists.mp hs
      rw [hv]
      exact ⟨_, rfl, iteT ⟨_, rfl, f, Cf, dxf, _, _, rfl, ef, Tf.cl, Tf.n1, ff_name _ _ _ _, rd_nx ⟨_, rfl, hl⟩ (qe ⟨q0, hq0, hn0⟩) (Same.refl _)⟩⟩
    replace q := q hn
    rw [valV_fkv hn]
    refine ⟨_, rfl, no' rfl ?_⟩
    refine ⟨_, rfl, _, rfl, b, Cb, dx, _, _, rfl, e1, Tb.cl, Tb.n2, fb_feasts _ _, _, rfl, f, Cf, dxf, _, _, rfl, ef, Tf.cl, Tf.n1, ff_name _ _ _ _, d, _, rfl, DPut.k (k := .inr z.nm) e2 ?_, ?_⟩
    · unfold fkv
      rw [List.length_map]
      exact Nat.lt_of_lt_of_le hz (by decide)
    rw [putK_fkv hn]
    have kp : ∀ c o, (∀ kvs, o ≠ .dK kvs) → H c = some o → (L2.upd H d (.dK (fkv (fs ++ [(f, z)])))) c = some o := fun c o n e => by
      have hcd : c ≠ d := fun zz => by
        subst zz
        rw [e2] at e
        exact n _ (Option.some.inj e).symm
      exact (upd_ne hcd).trans e
    have kpi : ∀ {c c' dx : Addr} {fs' : List (Str × V)}, H c = some (.ins c' dx fs') → (L2.upd H d (.dK (fkv (fs ++ [(f, z)])))) c = some (.ins c' dx fs') := fun e => kp _ _ (fun _ zz => nomatch zz) e
    refine q _ (fun c o n e => (upd_ne (n dx d e1)).trans e) ⟨⟨dx, d, kpi e1, upd_same⟩, ?_, hb.g, fun q' hq => ?_, fun q' hq => ?_, by rw [List.length_append]; exact hz⟩
    · obtain ⟨dx', a, b', c, d', e, ⟨x1, h1⟩, ⟨x2, h2⟩, ⟨x3, h3⟩, ⟨x4, h4⟩⟩ := hb.c
      exact ⟨dx', a, b', c, d', kpi e, ⟨x1, kpi h1⟩, ⟨x2, kpi h2⟩, ⟨x3, kpi h3⟩, ⟨x4, kpi h4⟩⟩
    · rcases List.mem_append.mp hq with hq | hq
      · obtain ⟨dxq, eq⟩ := hb.fe q' hq
        exact ⟨dxq, kpi eq⟩
      · rw [List.mem_singleton.mp hq]
        exact ⟨dxf, kpi ef⟩
    · rcases List.mem_append.mp hq with hq | hq
      · exact hb.sz q' hq
      · rw [List.mem_singleton.mp hq]
        exact zs
theorem ok_misX (D : Dm K Cb "refuse_missing" "Feasts.refuse_missing" s_Feasts_refuse_missing) (Tb : FbT K Cb) (T : NnT K mg CM) (nc : Cx1 P w K mg base 1 CM "NoName.__init__" s_NoName_init ["self", "name"] (spNx CM "name" okNm)) : Cm P w K mg base (L2.CX P w) 3 Cb "refuse_missing" "Feasts.refuse_missing" s_Feasts_refuse_missing ["self", "name"] (spMisX C Cc Cb Cf CM) := by
  refine cmX (k := 2) D c_Feasts_refuse_missing (fun vs H Q E h => ?_) fun f cdv A outer s H vs Q E hr h => ?_
  · obtain ⟨b, p, x, m, y, o, k, fs, rfl, _⟩ := h
    rfl
  · obtain ⟨b, p, x, m, y, o, k, fs, rfl, hb, hl, q, qe⟩ := h
    obtain ⟨dx, d, e1, e2⟩ := hb.ob
    refine ⟨_, (pss_one (ps_if (pt_cmp (pc_dnotin (hu1 hr) (pv 1) (pe_fld (pv 0) rfl))) (pss_one (ps_raise rfl (takes_of (E := E) rfl rfl rfl rfl) (mk_nn T nc (hr.mono (by decide)) rfl (pa_cons (pv 1) pa_nil)))) pss_nil)), ?_⟩
    refine ⟨_, rfl, _, rfl, b, Cb, dx, _, _, rfl, e1, Tb.cl, Tb.n2, fb_feasts _ _, d, _, rfl, DGet.k (k := .inr x) e2, ?_⟩
    by_cases hno : ∀ q ∈ fs, q.2.nm ≠ x
    · rw [valV_fkv hno]
      exact ⟨_, rfl, iteT ⟨_, rfl, rd_nx ⟨_, rfl, hl⟩ (qe hno) (Same.refl _)⟩⟩
    have hq : ∃ q ∈ fs, q.2.nm = x := Classical.byContradiction fun w => hno fun q hq e => w ⟨q, hq, e⟩
    replace q := q hq
    obtain ⟨q0, hq0, hn⟩ := hq
    have hs : ((valV (fkv fs) (.inr x)).isSome) = true := by
      rw [← valV_any]
      refine List.any_eq_true.mpr ⟨(.inr q0.2.nm, .ref q0.1), List.mem_map.mpr ⟨q0, hq0, rfl⟩, ?_⟩
      rw [hn]
      exact decide_eq_true rfl
    obtain ⟨v, hv⟩ := Option.isSome_iff_exists.mp hs
    rw [hv]
    exact ⟨_, rfl, no' rfl q⟩
end
/-! ### feasts on a day, and the next one -/
theorem flt_range {α β : Type} (d : α) (B : α → Bool) (f : α → β) : ∀ xs : List α, ((List.range xs.length).filter fun i => B (xs.getD i d)).map (fun i => f (xs.getD i d)) = (xs.filter B).map f
  | [] => rfl
  | x :: xs => by
    have ih := flt_range d B f xs
    rw [List.length_cons, List.range_succ_eq_map, List.filter_cons, List.filter_map]
    have e0 : ((x :: xs).getD 0 d) = x := rfl
    have e1 : ((fun i => B ((x :: xs).getD i d)) ∘ Nat.succ) = fun i => B (xs.getD i d) := rfl
    rw [e1]
    cases hb : B x with
    | true =>
      rw [e0, if_pos hb, List.map_cons, List.map_map, List.filter_cons, if_pos hb, List.map_cons]
      congr 1
    | false =>
      rw [e0, if_neg (by rw [hb]; simp), List.map_map, List.filter_cons, if_neg (by rw [hb]; simp)]
      exact ih
theorem getD_at {α : Type} {xs : List α} {j : Nat} {x d : α} (h : xs[j]? = some x) : xs.getD j d = x := by
  rw [List.getD_eq_getElem?_getD, h]
  rfl
def d0 : Int × Str := (0, "")
/-- things picked out of rows -/
theorem Duos.filter {H : Hp} {us : List V} {xs : List (Int × Str)} (B : Int × Str → Bool) (h : Duos H us xs) : Duos H (((List.range us.length).filter fun i => B (xs.getD i d0)).map fun i => us.getD i .non) (xs.filter B) := by
  have e1 : xs.filter B = ((List.range us.length).filter fun i => B (xs.getD i d0)).map fun i => xs.getD i d0 := by
    have := flt_range d0 B id xs
    rw [List.map_id] at this
    rw [← h.1, ← this]
    rfl
  rw [e1]
  refine ⟨by simp, fun j v hj => ?_⟩
  rw [List.getElem?_map] at hj ⊢
  cases hi : ((List.range us.length).filter fun i => B (xs.getD i d0))[j]? with
  | none => rw [hi] at hj; cases hj
  | some i =>
    rw [hi] at hj
    have hm := List.mem_of_getElem? hi
    have hl : i < us.length := List.mem_range.mp (List.mem_filter.mp hm).1
    have hu := List.getElem?_eq_getElem hl
    have hv : us.getD i .non = v := Option.some.inj hj
    rw [getD_at hu] at hv
    obtain ⟨x, ex, d⟩ := h.2 i _ hu
    refine ⟨x, ?_, by rw [← hv]; exact d⟩
    show some (xs.getD i d0) = some x
    rw [getD_at ex]
theorem inY_len (m y o k : Rat) (a : Int) (fs : List Fst) : (inY m y o k a fs).length ≤ 2 * fs.length := by
  unfold inY
  rw [List.length_mergeSort]
  exact rawL_len _ _ _ _ _ _
/-- the names of the feasts on a day -/
def onD (m y o k : Rat) (x : Int) (fs : List Fst) : List Str := ((inY m y o k (dtY m y o k x) fs).filter fun r => decide (r.1 = x)).map (·.2)
def spOnD (C Cc Cb Cf : Addr) : Sp := fun vs H Q _ => ∃ (b p : Addr) (x : Int) (m y o k : Rat) (fs : List (Addr × Fst)), vs = [.ref b, .int x] ∧ Bk C Cc Cb Cf H b p m y o k fs ∧ Sz 700 x ∧ ∀ r H', H r = none → Same H H' → H' r = some (.lst ((onD m y o k x (fs.map (·.2))).map V.str)) → Q (.ref r) H'
def nmV : Option Str → V
  | none => .non
  | some s => .str s
/-- what stands to choose from -/
def nxL (m y o k : Rat) (x : Int) (nm : Option Str) (fs : List Fst) : List (Int × Str) := (inY m y o k (dtY m y o k x) fs ++ inY m y o k (dtY m y o k x + 1) fs).filter fun r => decide (x ≤ r.1) && (nm.isNone || decide (V.str r.2 = nmV nm))
def spNxfX (C Cc Cb Cf CM : Addr) : Sp := fun vs H Q E => ∃ (b p : Addr) (x : Int) (nm : Option Str) (m y o k : Rat) (fs : List (Addr × Fst)), vs = [.ref b, .int x, nmV nm] ∧ Bk C Cc Cb Cf H b p m y o k fs ∧ Sz 600 x ∧ (∀ s, nm = some s → s.length ≤ 1000) ∧ ((∀ s, nm = some s → ∃ q ∈ fs, q.2.nm = s) → (nxL m y o k x nm (fs.map (·.2)) = [] → ∀ H', Same H H' → Q .non H') ∧ ∀ z zs, nxL m y o k x nm (fs.map (·.2)) = z :: zs → ∀ t H', Same H H' → Duo H' (.ref t) (PySem.W.minOf z zs) → Q (.ref t) H') ∧ ∀ s, nm = some s → (∀ q ∈ fs, q.2.nm ≠ s) → NxE CM "name" E H (.str s)
section
variable {P : Program} {w : World} {K : PySem.W.Frag} {mg : Str → Option Value} {base : Heap} {C Cc Cb Cf CM : Addr}
abbrev TE_Feasts_on_day1 : TE := tVar 3
abbrev TT_Feasts_on_day1 : TT := tTest (tOp rEq (tVar 2) (tVar 1))
theorem ok_onD (D : Dm K Cb "on_day" "Feasts.on_day" s_Feasts_on_day) (T : FbT K Cb) (f_year_with : Ca P w K mg base CX0 10 "year_with" s_year_with [] ["calendar", "day"] (spYw C Cc)) (f_in_year : Cm P w K mg base CX0 14 Cb "in_year" "Feasts.in_year" s_Feasts_in_year ["self", "year"] (spInY C Cc Cb Cf)) : Cm P w K mg base CX0 15 Cb "on_day" "Feasts.on_day" s_Feasts_on_day ["self", "day"] (spOnD C Cc Cb Cf) := by
  refine cm0 (k := 14) D c_Feasts_on_day (fun vs H Q E h => ?_) fun f cdv A outer s H vs Q E hr h => ?_
  · obtain ⟨b, p, x, m, y, o, k, fs, rfl, _⟩ := h
    rfl
  · obtain ⟨b, p, x, m, y, o, k, fs, rfl, hb, zx, q⟩ := h
    obtain ⟨dx, d, e1, e2⟩ := hb.ob
    refine ⟨_, (pss_one (ps_ret (pe_lc (own := [("there", 2), ("name", 3)]) (g := gTup K 2 (gCons (gName 2) (gCons (gName 3) gNil))) (tt := TT_Feasts_on_day1 ) (te := TE_Feasts_on_day1 ) rfl c_Feasts_on_day.nd (pi_list (pe_cm f_in_year b_Feasts_in_year hr (by decide) pass0 (pv 0) (pa_cons (pe_ca f_year_with b_year_with hr (by decide) pass0 rfl (pa_cons (pe_fld (pv 0) rfl) (pa_cons (pv 1) pa_nil))) pa_nil))) (blkOk_by (N := ["self", "day", "there", "name"]) (sc := defScope s_Feasts_on_day) (by decide +kernel)) (fun _ _ _ _ _ => (pg_tup rfl (pgs_cons (pg_name (i := 2) c_Feasts_on_day.nd rfl (.inl rfl)) (pgs_cons (pg_name (i := 3) c_Feasts_on_day.nd rfl (.inl rfl)) pgs_nil)))) (fun _ _ _ _ _ => by exact pts_one (pt_cmpR op_eq (pv 2) (pv 1) (nomark _))) (fun _ _ _ _ _ => by exact (pv 3))))), ?_⟩
    have zx' : Sz 1200 x := zx.mono (by decide)
    have zy : Sz 800 (dtY m y o k x) := (hb.g.zdY (n := 700) zx (by decide)).mono (by decide)
    refine ⟨_, rfl, b, dx, _, rfl, e1, fb_no _ _ (by decide +kernel) (by decide +kernel), _, rfl, b, Cb, dx, _, _, rfl, e1, T.cl, T.n1, fb_cal _ _, _, rfl, p, x, m, y, o, k, rfl, hb.c, hb.g, zx', fun H1 s1 => ?_⟩
    refine ⟨b, p, _, m, y, o, k, fs, rfl, hb.same s1, zy, fun r us H2 nr s2 er du => ?_⟩
    refine ⟨r, rfl, ⟨_, SqL.of er⟩, fun D nD => ?_⟩
    have ln : us.length ≤ 100 := by
      rw [← du.1]
      have h1 := inY_len m y o k (dtY m y o k x) (fs.map (·.2))
      have h2 := hb.z
      rw [List.length_map] at h1
      omega
    refine lc_fltV (walk_list (K := K) (a := r) (xs := us)) yAt_same nD (Nat.lt_of_le_of_lt ln (by decide)) (fun i => .str (((inY m y o k (dtY m y o k x) (fs.map (·.2))).getD i d0).2)) (fun i => decide (((inY m y o k (dtY m y o k x) (fs.map (·.2))).getD i d0).1 = x)) (fun H' s' => SqL.of (s' _ _ er)) ?_ ?_
    · rintro i v Ha Hb R N hi sa ⟨rfl, hv⟩ kT kF
      obtain ⟨z, ez, t, rfl, et⟩ := du.2 i v hv
      rw [getD_at ez] at kT kF
      refine ⟨t, _, rfl, SqT.of (sa _ _ et), rfl, _, _, rfl, _, _, rfl, rfl, ?_⟩
      refine ⟨rfl, ?_⟩
      refine ⟨_, rfl, _, rfl, rfl, _, rfl, ?_⟩
      by_cases hB : z.1 = x
      · rw [decide_eq_true (congrArg V.int hB)]
        exact iteT ⟨_, rfl, kT (decide_eq_true hB) _ (Same.refl _)⟩
      · rw [decide_eq_false (fun e => hB (V.int.inj e))]
        exact iteF (kF (decide_eq_false hB) _ (Same.refl _))
    · intro H3 e3 s3
      rw [← du.1, flt_range d0 (fun z => decide (z.1 = x)) (fun z => V.str z.2)] at e3
      refine q D H3 ((s1.trans s2).free nD) (s1.trans (s2.trans s3)) ?_
      rw [e3]
      unfold onD
      rw [List.map_map]
      rfl
abbrev TE_Feasts_next_feast1 (_K : PySem.W.Frag) : TE := tVar 5
abbrev TT_Feasts_next_feast1 (K : PySem.W.Frag) : TT := tAnd (tTest (tOp (rI0 fun i j => .bl (decide (j ≤ i))) (tOp (rIxT K) (tVar 5) (tC (.int 0))) (tVar 1))) (tOr (tB (tIsN (tVar 2))) (tTest (tOp rEq (tOp (rIxT K) (tVar 5) (tC (.int 1))) (tVar 2))))
theorem ok_nxfX (D : DmD K Cb "next_feast" "Feasts.next_feast" s_Feasts_next_feast [.non]) (T : FbT K Cb) (f_year_with : Ca P w K mg base CX0 10 "year_with" s_year_with [] ["calendar", "day"] (spYw C Cc)) (g_min : mg "min" = none) (f_in_year : Cm P w K mg base CX0 14 Cb "in_year" "Feasts.in_year" s_Feasts_in_year ["self", "year"] (spInY C Cc Cb Cf)) (f_refuse_missing : Cm P w K mg base (L2.CX P w) 3 Cb "refuse_missing" "Feasts.refuse_missing" s_Feasts_refuse_missing ["self", "name"] (spMisX C Cc Cb Cf CM)) : CmD P w K mg base (L2.CX P w) 15 Cb "next_feast" "Feasts.next_feast" s_Feasts_next_feast [.non] ["self", "day", "name"] (spNxfX C Cc Cb Cf CM) := by
  refine cmDX (k := 14) D c_Feasts_next_feast (fun vs H Q E h => ?_) fun f cdv A outer s H vs Q E hr h => ?_
  · obtain ⟨b, p, x, nm, m, y, o, k, fs, rfl, _⟩ := h
    rfl
  · obtain ⟨b, p, x, nm, m, y, o, k, fs, rfl, hb, zx, hl, q, qe⟩ := h
    obtain ⟨dx, d, e1, e2⟩ := hb.ob
    refine ⟨_, (C8.pss_cut (ps_if (pt_cmp (pc_notN (pv 2))) (pss_one (ps_expr (pe_cm f_refuse_missing b_Feasts_refuse_missing hr (by decide) (passes_call (takes_of (E := E) rfl rfl rfl rfl) fun _ _ _ _ z => z) (pv 0) (pa_cons (pv 2) pa_nil)))) pss_nil)
      (pss_cons (ps_set (i := 3) c_Feasts_next_feast.nd rfl (.inl rfl) (pe_ca f_year_with b_year_with hr (by decide) pass0 rfl (pa_cons (pe_fld (pv 0) rfl) (pa_cons (pv 1) pa_nil))))
      (pss_cons (ps_set (i := 4) c_Feasts_next_feast.nd rfl (.inl rfl) (pe_op op_cat (pe_cm f_in_year b_Feasts_in_year hr (by decide) pass0 (pv 0) (pa_cons (pv 3) pa_nil)) (pe_cm f_in_year b_Feasts_in_year hr (by decide) pass0 (pv 0) (pa_cons (pe_op op_add (pv 3) pe_int) pa_nil))))
      (pss_one (ps_ret (pe_minD hr rfl (pk_cons pe_non pk_nil) rfl g_min (pa_cons (pe_lc (own := [("row", 5)]) (g := gName 5) (tt := TT_Feasts_next_feast1 K) (te := TE_Feasts_next_feast1 K) rfl c_Feasts_next_feast.nd (pi_list (pv 4)) (blkOk_by (N := ["self", "day", "name", "year", "rows", "row"]) (sc := defScope s_Feasts_next_feast) (by decide +kernel)) (fun _ _ _ _ _ => (pg_name (i := 5) c_Feasts_next_feast.nd rfl (.inl rfl))) (fun _ _ _ _ _ => by exact pts_one (PW.pt (pw_and (pt_cmpR op_ge (pe_ix ix_tup (pv 5) pe_int (fun _ _ => rfl)) (pv 1) (nomark _)) (pw_and1 (PW.pt (pw_or (pt_cmp (pc_isN (pv 2))) (pw_or1 (pt_cmpR op_eq (pe_ix ix_tup (pv 5) pe_int (fun _ _ => rfl)) (pv 2) (nomark _))))))))) (fun _ _ _ _ _ => by exact (pv 5))) pa_nil))))))), ?_⟩
    refine ⟨fun σ' H' => σ' = [some (.ref b), some (.int x), some (nmV nm), none, none, none] ∧ H' = H ∧ ∀ s, nm = some s → ∃ q ∈ fs, q.2.nm = s, ?_, ?_⟩
    · refine ⟨_, rfl, ?_⟩
      cases nm with
      | none => exact ⟨_, rfl, no' (by simp [nmV]) ⟨rfl, rfl, fun s e => by cases e⟩⟩
      | some s =>
        refine ⟨_, rfl, ?_⟩
        rw [decide_eq_false (show ¬ nmV (some s) = V.non by intro zz; cases zz)]
        refine iteT ?_
        exact ⟨_, rfl, b, dx, _, rfl, e1, fb_no _ _ (by decide +kernel) (by decide +kernel), _, rfl, b, p, s, m, y, o, k, fs, rfl, hb, hl s rfl, fun hq => ⟨rfl, rfl, fun s' e => by cases e; exact hq⟩, fun hq => qe s rfl hq⟩
    · rintro σ' H' ⟨rfl, rfl, hnm⟩
      obtain ⟨q0, q1⟩ := q hnm
      have zx' : Sz 1200 x := zx.mono (by decide)
      have zy : Sz 700 (dtY m y o k x) := (hb.g.zdY (n := 600) zx (by decide)).mono (by decide)
      refine ⟨_, rfl, b, Cb, dx, _, _, rfl, e1, T.cl, T.n1, fb_cal _ _, _, rfl, p, x, m, y, o, k, rfl, hb.c, hb.g, zx', fun H1 s1 => ?_⟩
      have hb1 := hb.same s1
      refine ⟨_, rfl, b, dx, _, rfl, s1 _ _ e1, fb_no _ _ (by decide +kernel) (by decide +kernel), _, rfl, b, p, _, m, y, o, k, fs, rfl, hb1, zy.mono (by decide), fun r1 us1 H2 nr1 s2 er1 du1 => ?_⟩
      have hb2 := hb1.same s2
      refine ⟨_, rfl, b, dx, _, rfl, s2 _ _ (s1 _ _ e1), fb_no _ _ (by decide +kernel) (by decide +kernel), _, rfl, _, _, rfl, rfl, b, p, _, m, y, o, k, fs, rfl, hb2, zadd zy 1, fun r2 us2 H3 nr2 s3 er2 du2 => ?_⟩
      have ln : ∀ (a : Int) {us : List V}, (inY m y o k a (fs.map (·.2))).length = us.length → us.length ≤ 100 := fun a us e => by
        have h1 := inY_len m y o k a (fs.map (·.2))
        have h2 := hb.z
        rw [List.length_map] at h1
        omega
      have l1 := ln _ du1.1
      have l2 := ln _ du2.1
      refine ⟨r1, r2, us1, us2, rfl, rfl, s3 _ _ er1, er2, Nat.le_trans (show _ ≤ 200 by omega) (by decide), fun r3 nr3 => ?_⟩
      have s4 := Same.new (o := .lst (us1 ++ us2)) nr3
      have er3 := upd_same (H := H3) (a := r3) (o := .lst (us1 ++ us2))
      have du3 := ((du1.same fun t xs e => s3 _ _ e).append du2).same fun t xs e => s4 _ _ e
      have s04 := s1.trans (s2.trans (s3.trans s4))
      generalize L2.upd H3 r3 (.lst (us1 ++ us2)) = H4 at *
      refine ⟨_, rfl, r3, rfl, ⟨_, SqL.of er3⟩, fun D nD => ?_⟩
      have l3 : (us1 ++ us2).length ≤ 200 := by
        rw [List.length_append]
        omega
      generalize us1 ++ us2 = us at *
      refine lc_fltV (walk_list (K := K) (a := r3) (xs := us)) yAt_same nD (Nat.lt_of_le_of_lt l3 (by decide)) (fun i => us.getD i .non) (fun i => (fun r : Int × Str => decide (x ≤ r.1) && (nm.isNone || decide (V.str r.2 = nmV nm))) ((inY m y o k (dtY m y o k x) (fs.map (·.2)) ++ inY m y o k (dtY m y o k x + 1) (fs.map (·.2))).getD i d0)) (fun H' s' => SqL.of (s' _ _ er3)) ?_ ?_
      · rintro i v Ha Hb R N hi sa ⟨rfl, hv⟩ kT kF
        obtain ⟨zz, ez, t, rfl, et⟩ := du3.2 i v hv
        rw [getD_at ez] at kT kF
        rw [getD_at hv] at kT
        refine ⟨rfl, ?_⟩
        refine ⟨_, rfl, t, _, _, _, rfl, rfl, SqT.of (sa _ _ et), rfl, _, rfl, _, _, rfl, rfl, _, rfl, ?_⟩
        by_cases c1 : x ≤ zz.1
        · rw [decide_eq_true c1]
          refine iteT ?_
          dsimp only at kT kF
          rw [decide_eq_true c1, Bool.true_and] at kT kF
          cases nm with
          | none => exact ⟨_, rfl, _, rfl, iteT (iteT ⟨_, rfl, kT rfl _ (Same.refl _)⟩)⟩
          | some s =>
            refine ⟨_, rfl, _, rfl, ?_⟩
            rw [decide_eq_false (show ¬ nmV (some s) = V.non by intro zz; cases zz)]
            refine iteF ?_
            refine ⟨_, rfl, t, _, _, _, rfl, rfl, SqT.of (sa _ _ et), rfl, _, rfl, rfl, _, rfl, ?_⟩
            by_cases c2 : V.str zz.2 = nmV (some s)
            · rw [decide_eq_true c2]
              refine iteT ⟨_, rfl, kT ?_ _ (Same.refl _)⟩
              rw [decide_eq_true c2]
              rfl
            · rw [decide_eq_false c2]
              refine iteF (kF ?_ _ (Same.refl _))
              rw [decide_eq_false c2]
              rfl
        · rw [decide_eq_false c1]
          refine iteF (iteF (kF ?_ _ (Same.refl _)))
          dsimp only
          rw [decide_eq_false c1]
          rfl
      · intro H5 e5 s5
        have du5 := (du3.filter (fun r : Int × Str => decide (x ≤ r.1) && (nm.isNone || decide (V.str r.2 = nmV nm)))).same fun t xs e => s5 _ _ e
        refine ⟨D, _, _, rfl, SqL.of e5, du5, fun e => q0 e _ (s04.trans s5), fun y' ys t e ht => ?_⟩
        exact q1 y' ys e t H5 (s04.trans s5) ⟨t, rfl, ht⟩
end
/-! ### feasts struck out, and all their names -/
def dropF (x : Str) (fs : List (Addr × Fst)) : List (Addr × Fst) := fs.filter fun q => !decide (q.2.nm = x)
theorem dropK_fkv (x : Str) : ∀ fs : List (Addr × Fst), dropK (fkv fs) (.inr x) = fkv (dropF x fs)
  | [] => rfl
  | q :: fs => by
    have ih := dropK_fkv x fs
    unfold dropK dropF fkv at *
    rw [List.map_cons, List.filter_cons, List.filter_cons]
    by_cases c : q.2.nm = x
    · rw [if_neg (by simp [c]), if_neg (by simp [c])]
      exact ih
    · rw [if_pos (by simp only [decide_eq_true_eq]; intro e; exact c (by injection e)), if_pos (by simp [c]), List.map_cons, ih]
theorem dropF_mem {x : Str} {fs : List (Addr × Fst)} {q : Addr × Fst} (h : q ∈ dropF x fs) : q ∈ fs := (List.mem_filter.mp h).1
theorem has_fkv {x : Str} {fs : List (Addr × Fst)} (h : ∃ q ∈ fs, q.2.nm = x) : (valV (fkv fs) (.inr x)).isSome = true := by
  obtain ⟨q0, hq0, hn⟩ := h
  rw [← valV_any]
  refine List.any_eq_true.mpr ⟨(.inr q0.2.nm, .ref q0.1), List.mem_map.mpr ⟨q0, hq0, rfl⟩, ?_⟩
  rw [hn]
  exact decide_eq_true rfl
def spFbD (C Cc Cb Cf CM : Addr) : Sp := fun vs H Q E => ∃ (b p : Addr) (s : Str) (m y o k : Rat) (fs : List (Addr × Fst)), vs = [.ref b, .str s] ∧ Bk C Cc Cb Cf H b p m y o k fs ∧ s.length ≤ 1000 ∧ ((∃ q ∈ fs, q.2.nm = s) → ∀ H', (∀ c o, Off Cb H b p c → H c = some o → H' c = some o) → Bk C Cc Cb Cf H' b p m y o k (dropF s fs) → Q .non H') ∧ ((∀ q ∈ fs, q.2.nm ≠ s) → NxE CM "name" E H (.str s))
def spCald (C Cc Cb Cf : Addr) : Sp := fun vs H Q _ => ∃ (b p : Addr) (m y o k : Rat) (fs : List (Addr × Fst)), vs = [.ref b] ∧ Bk C Cc Cb Cf H b p m y o k fs ∧ ∀ (ys : List Str) r H', ys.Perm (fs.map fun q => q.2.nm) → sortedS ys = true → H r = none → Same H H' → H' r = some (.lst (ys.map V.str)) → Q (.ref r) H'
section
variable {P : Program} {w : World} {K : PySem.W.Frag} {mg : Str → Option Value} {base : Heap} {C Cc Cb Cf CM : Addr}
theorem ok_fbD (D : Dm K Cb "drop" "Feasts.drop" s_Feasts_drop) (Tb : FbT K Cb) (f_refuse_missing : Cm P w K mg base (L2.CX P w) 3 Cb "refuse_missing" "Feasts.refuse_missing" s_Feasts_refuse_missing ["self", "name"] (spMisX C Cc Cb Cf CM)) : Cm P w K mg base (L2.CX P w) 4 Cb "drop" "Feasts.drop" s_Feasts_drop ["self", "name"] (spFbD C Cc Cb Cf CM) := by
  refine cmX (k := 3) D c_Feasts_drop (fun vs H Q E h => ?_) fun f cdv A outer s H vs Q E hr h => ?_
  · obtain ⟨b, p, x, m, y, o, k, fs, rfl, _⟩ := h
    rfl
  · obtain ⟨b, p, x, m, y, o, k, fs, rfl, hb, hl, q, qe⟩ := h
    obtain ⟨dx, d, e1, e2⟩ := hb.ob
    refine ⟨_, (pss_cons (ps_expr (pe_cm f_refuse_missing b_Feasts_refuse_missing hr (by decide) (passes_call (takes_of (E := E) rfl rfl rfl rfl) fun _ _ _ _ z => z) (pv 0) (pa_cons (pv 1) pa_nil)))
      (pss_one (ps_ddel (pe_fld (pv 0) rfl) (pv 1)))), ?_⟩
    refine ⟨_, rfl, b, dx, _, rfl, e1, fb_no _ _ (by decide +kernel) (by decide +kernel), _, rfl, b, p, x, m, y, o, k, fs, rfl, hb, hl, fun hq => ?_, qe⟩
    refine ⟨_, rfl, b, Cb, dx, _, _, rfl, e1, Tb.cl, Tb.n2, fb_feasts _ _, ?_⟩
    refine ⟨_, rfl, d, _, .inr x, rfl, e2, rfl, has_fkv hq, ?_⟩
    rw [dropK_fkv]
    have kp : ∀ c o, (∀ kvs, o ≠ .dK kvs) → H c = some o → (L2.upd H d (.dK (fkv (dropF x fs)))) c = some o := fun c o n e => by
      have hcd : c ≠ d := fun zz => by
        subst zz
        rw [e2] at e
        exact n _ (Option.some.inj e).symm
      exact (upd_ne hcd).trans e
    have kpi : ∀ {c c' dx : Addr} {fs' : List (Str × V)}, H c = some (.ins c' dx fs') → (L2.upd H d (.dK (fkv (dropF x fs)))) c = some (.ins c' dx fs') := fun e => kp _ _ (fun _ zz => nomatch zz) e
    refine q hq _ (fun c o n e => (upd_ne (n dx d e1)).trans e) ⟨⟨dx, d, kpi e1, upd_same⟩, ?_, hb.g, fun q' hq => ?_, fun q' hq => hb.sz q' (dropF_mem hq), Nat.le_trans (List.length_filter_le _ _) hb.z⟩
    · obtain ⟨dx', a, b', c, d', e, ⟨x1, h1⟩, ⟨x2, h2⟩, ⟨x3, h3⟩, ⟨x4, h4⟩⟩ := hb.c
      exact ⟨dx', a, b', c, d', kpi e, ⟨x1, kpi h1⟩, ⟨x2, kpi h2⟩, ⟨x3, kpi h3⟩, ⟨x4, kpi h4⟩⟩
    · obtain ⟨dxq, eq⟩ := hb.fe q' (dropF_mem hq)
      exact ⟨dxq, kpi eq⟩
theorem ok_cald (D : Dm K Cb "called" "Feasts.called" s_Feasts_called) (Tb : FbT K Cb) (g_sorted : mg "sorted" = none) (g_list : mg "list" = none) : Cm P w K mg base CX0 1 Cb "called" "Feasts.called" s_Feasts_called ["self"] (spCald C Cc Cb Cf) := by
  refine cm0 (k := 0) D c_Feasts_called (fun vs H Q E h => ?_) fun f cdv A outer s H vs Q E hr h => ?_
  · obtain ⟨b, p, m, y, o, k, fs, rfl, _⟩ := h
    rfl
  · obtain ⟨b, p, m, y, o, k, fs, rfl, hb, q⟩ := h
    obtain ⟨dx, d, e1, e2⟩ := hb.ob
    refine ⟨_, (pss_one (ps_ret (pe_callB cr_sortedS rfl g_sorted (by decide +kernel) (pa_cons (pe_callTy (call_listD rfl) rfl g_list (by decide +kernel) (pa_cons (pe_fld (pv 0) rfl) pa_nil)) pa_nil)))), ?_⟩
    refine ⟨_, rfl, b, Cb, dx, _, _, rfl, e1, Tb.cl, Tb.n2, fb_feasts _ _, ?_⟩
    refine ⟨d, _, rfl, .inl e2, fun p1 n1 => ?_⟩
    have s1 := Same.new (o := .lst ((fs.map fun q => q.2.nm).map V.str)) n1
    have ek : (fkv fs).map (fun kv => kV kv.1) = (fs.map fun q => q.2.nm).map V.str := by
      unfold fkv
      rw [List.map_map, List.map_map]
      rfl
    rw [ek]
    refine ⟨p1, _, rfl, SqL.of upd_same, by rw [List.length_map]; have := hb.z; omega, fun ys r hp hs hr => ?_⟩
    exact q ys r _ hp hs (s1.free hr) (s1.trans (Same.new hr)) upd_same
end
/-! ### the law's own feasts -/
def ms1 (m y o k : Rat) (a b : Int) (w : Str) : List Int := if hasM m y o k (pmF m y o k a b + 1) then [pmF m y o k a b] else if isW w "odd" = true then [pmF m y o k a b + 1] else [pmF m y o k a b]
def ms2 (m y o k : Rat) (a b : Int) (w : Str) : List Int := if hasM m y o k (pmF m y o k a b + 1) then ms1 m y o k a b w else if isW w "both" = true then [pmF m y o k a b, pmF m y o k a b + 1] else ms1 m y o k a b w
theorem not_two {w : Str} (h1 : isW w "odd" = true) (h2 : isW w "both" = true) : False := by
  have e1 := V.str.inj (of_decide_eq_true h1)
  have e2 := V.str.inj (of_decide_eq_true h2)
  rw [e1] at e2
  exact absurd e2 (by decide +kernel)
theorem ms_eq (m y o k : Rat) (a b : Int) (w : Str) : ms2 m y o k a b w = fmL m y o k a b w := by
  unfold ms2 ms1 fmL miyF
  by_cases hm : hasM m y o k (pmF m y o k a b + 1)
  · rw [if_pos hm, if_pos hm, if_pos hm]
    by_cases hB : isW w "both" = true
    · rw [if_pos hB]
    · rw [if_neg hB]
      by_cases hO : isW w "odd" = true
      · rw [if_pos hO, if_pos hm]
      · rw [if_neg hO]
  · rw [if_neg hm, if_neg hm, if_neg hm]
    by_cases hB : isW w "both" = true
    · rw [if_pos hB, if_pos hB]
    · rw [if_neg hB, if_neg hB]
      by_cases hO : isW w "odd" = true
      · rw [if_pos hO, if_pos hO, if_neg hm]
      · rw [if_neg hO, if_neg hO]
def spLfd : Sp := fun vs H Q _ => ∃ (r : Addr) (w : Str) (a b d : Int) (m y o k : Rat), vs = [.ref r, .int b, .int d, .str w, .int a] ∧ Fo H r m y o k ∧ Good m y o k ∧ Sz 900 a ∧ Sz 900 b ∧ ∀ r' H', H r' = none → Same H H' → H' r' = some (.lst (((fmL m y o k a b w).map (fdd m o d)).map V.int)) → Q (.ref r') H'
section
variable {P : Program} {w : World} {K : PySem.W.Frag} {mg : Str → Option Value} {base : Heap}
theorem ok_llong (D : Df K mg "_law_long" s_l_long []) (f_l_start : Ca P w K mg base CX0 3 "_law_start" s_l_start [] ["_law_four_here", "_law_k"] (spF1 3000 fun m _ o _ i => .int (stF m o i))) : Ca P w K mg base CX0 4 "_law_long" s_l_long [] ["_law_four_here", "_law_k"] (spF1 2000 fun m _ o _ i => .int (stF m o (i + 1) - stF m o i)) := by
  refine ca0 (k := 3) D c_l_long (fun vs H Q E h => ?_) fun f cdv A outer s H vs Q E hr h => ?_
  · obtain ⟨r, i, m, y, o, k, rfl, _⟩ := h
    rfl
  · obtain ⟨r, i, m, y, o, k, rfl, fo, g, zi, q⟩ := h
    refine ⟨_, (pss_one (ps_ret (pe_op op_sub (pe_ca f_l_start b_l_start hr (by decide) pass0 rfl (pa_cons (pv 0) (pa_cons (pe_op op_add (pv 1) pe_int) pa_nil))) (pe_ca f_l_start b_l_start hr (by decide) pass0 rfl (pa_cons (pv 0) (pa_cons (pv 1) pa_nil)))))), ?_⟩
    refine ⟨_, rfl, _, rfl, _, _, rfl, rfl, r, _, m, y, o, k, rfl, fo, g, zadd zi 1, fun H1 s1 => ?_⟩
    exact ⟨_, rfl, _, rfl, r, i, m, y, o, k, rfl, fo.same s1, g, zi.mono (by decide), fun H2 s2 => ⟨_, _, rfl, rfl, q H2 (s1.trans s2)⟩⟩
abbrev TE_l_feast_days1 : TE := tOp (rI0 fun i j => .int (i - j)) (tOp (rI0 fun i j => .int (i + j)) (tCall (spF1 3000 fun m _ o _ i => .int (stF m o i)) [] E0 (tCons (tVar 0) (tCons (tVar 7) tNil))) (tCB (fun xs H Q => ∃ i j, xs = [.int i, .int j] ∧ Q (.int (if j < i then j else i)) H) (tCons (tVar 2) (tCons (tCall (spF1 2000 fun m _ o _ i => .int (stF m o (i + 1) - stF m o i)) [] E0 (tCons (tVar 0) (tCons (tVar 7) tNil))) tNil)))) (tC (.int 1))
theorem ok_lfd (D : Df K mg "_law_feast_days" s_l_feast_days []) (f_l_month_with : Ca P w K mg base CX0 5 "_law_month_with" s_l_month_with [] ["_law_four_here", "_law_j"] (spF1 1200 fun m y o k i => .int (maF m o (mdF y k i)))) (f_l_mark_in : Ca P w K mg base CX0 4 "_law_mark_in" s_l_mark_in [] ["_law_four_here", "_law_k"] (spF1 1400 miF)) (f_l_start : Ca P w K mg base CX0 3 "_law_start" s_l_start [] ["_law_four_here", "_law_k"] (spF1 3000 fun m _ o _ i => .int (stF m o i))) (g_min : mg "min" = none) (f_l_long : Ca P w K mg base CX0 4 "_law_long" s_l_long [] ["_law_four_here", "_law_k"] (spF1 2000 fun m _ o _ i => .int (stF m o (i + 1) - stF m o i))) : Ca P w K mg base CX0 6 "_law_feast_days" s_l_feast_days [] ["_law_four_here", "_law_number", "_law_a_day", "_law_a_when", "_law_a_year"] spLfd := by
  refine ca0 (k := 5) D c_l_feast_days (fun vs H Q E h => ?_) fun f cdv A outer s H vs Q E hr h => ?_
  · obtain ⟨r, w, a, b, d, m, y, o, k, rfl, _⟩ := h
    rfl
  · obtain ⟨r, w, a, b, d, m, y, o, k, rfl, fo, g, za, zb, q⟩ := h
    have zp := g.zpm za zb
    have zp1 : Sz 1300 (pmF m y o k a b + 1) := zadd (zp.2.mono (by decide : 1218 ≤ 1290)) 1
    refine ⟨_, (pss_cons (ps_set (i := 5) c_l_feast_days.nd rfl (.inl rfl) (pe_ca f_l_month_with b_l_month_with hr (by decide) pass0 rfl (pa_cons (pv 0) (pa_cons (pe_op op_sub (pe_op op_add (pe_op op_mul pe_int (pv 4)) (pv 1)) pe_int) pa_nil))))
      (pss_cons (ps_set (i := 6) c_l_feast_days.nd rfl (.inl rfl) (pe_lst (pa_cons (pv 5) pa_nil)))
      (C8.pss_cut (ps_if (PW.pt (pw_and (pt_cmp (pc_isN (pe_ca f_l_mark_in b_l_mark_in hr (by decide) pass0 rfl (pa_cons (pv 0) (pa_cons (pe_op op_add (pv 5) pe_int) pa_nil))))) (pw_and1 (pt_cmpR op_eq (pv 3) pe_str (nomark _))))) (pss_one (ps_set (i := 6) c_l_feast_days.nd rfl (.inl rfl) (pe_lst (pa_cons (pe_op op_add (pv 5) pe_int) pa_nil)))) pss_nil)
      (C8.pss_cut (ps_if (PW.pt (pw_and (pt_cmp (pc_isN (pe_ca f_l_mark_in b_l_mark_in hr (by decide) pass0 rfl (pa_cons (pv 0) (pa_cons (pe_op op_add (pv 5) pe_int) pa_nil))))) (pw_and1 (pt_cmpR op_eq (pv 3) pe_str (nomark _))))) (pss_one (ps_set (i := 6) c_l_feast_days.nd rfl (.inl rfl) (pe_lst (pa_cons (pv 5) (pa_cons (pe_op op_add (pv 5) pe_int) pa_nil))))) pss_nil)
      (pss_one (ps_ret (pe_lc (own := [("_law_k", 7)]) (g := gName 7) (tt := tYes) (te := TE_l_feast_days1 ) rfl c_l_feast_days.nd (pi_list (pv 6)) (blkOk_by (N := ["_law_four_here", "_law_number", "_law_a_day", "_law_a_when", "_law_a_year", "_law_plain", "_law_months", "_law_k"]) (sc := defScope s_l_feast_days) (by decide +kernel)) (fun _ _ _ _ _ => (pg_name (i := 7) c_l_feast_days.nd rfl (.inl rfl))) (fun _ _ _ _ _ => by exact pts_nil) (fun _ _ _ _ _ => by exact (pe_op op_sub (pe_op op_add (pe_ca f_l_start b_l_start hr (by decide) pass0 rfl (pa_cons (pv 0) (pa_cons (pv 7) pa_nil))) (pe_callB (call_min2 rfl) rfl g_min (by decide +kernel) (pa_cons (pv 2) (pa_cons (pe_ca f_l_long b_l_long hr (by decide) pass0 rfl (pa_cons (pv 0) (pa_cons (pv 7) pa_nil))) pa_nil)))) pe_int))))))))), ?_⟩
    refine ⟨_, rfl, _, rfl, _, _, rfl, rfl, .inl ⟨by decide, by decide⟩, _, rfl, _, _, rfl, rfl, _, _, rfl, rfl, r, _, m, y, o, k, rfl, fo, g, zp.1.mono (by decide), fun H1 s1 => ?_⟩
    refine ⟨_, rfl, (by show 1 ≤ sizeLine; decide), fun l1 nl1 => ?_⟩
    have s2 := Same.new (o := .lst [.int (pmF m y o k a b)]) nl1
    refine ⟨fun σ H' => ∃ l : Addr, σ = [some (.ref r), some (.int b), some (.int d), some (.str w), some (.int a), some (.int (pmF m y o k a b)), some (.ref l), none] ∧ Same H H' ∧ H' l = some (.lst ((ms1 m y o k a b w).map V.int)) ∧ H l = none, ?_, ?_⟩
    · refine ⟨_, rfl, _, rfl, _, _, rfl, rfl, r, _, m, y, o, k, rfl, (fo.same s1).same s2, g, zp1.mono (by decide), fun H3 s3 => ?_⟩
      have s13 := s1.trans (s2.trans s3)
      have e3 := s3 _ _ (upd_same (H := H1) (a := l1) (o := .lst [.int (pmF m y o k a b)]))
      rw [show miF m y o k (maF m o (mdF y k (12 * a + b - 1)) + 1) = miF m y o k (pmF m y o k a b + 1) from rfl, miF_eq]
      by_cases hm : hasM m y o k (pmF m y o k a b + 1)
      · rw [if_pos hm]
        refine ⟨_, rfl, iteF ⟨l1, rfl, s13, ?_, s1.free nl1⟩⟩
        unfold ms1
        rw [if_pos hm]
        exact e3
      · rw [if_neg hm]
        refine ⟨_, rfl, iteT ?_⟩
        refine ⟨_, rfl, rfl, _, rfl, ?_⟩
        show if isW w "odd" = true then _ else _
        by_cases hO : isW w "odd" = true
        · rw [if_pos hO]
          refine ⟨_, rfl, _, _, rfl, rfl, (by show 1 ≤ sizeLine; decide), fun l2 nl2 => ⟨l2, rfl, s13.trans (Same.new nl2), ?_, s13.free nl2⟩⟩
          rw [upd_same]
          unfold ms1
          rw [if_neg hm, if_pos hO]
          rfl
        · rw [if_neg hO]
          refine ⟨l1, rfl, s13, ?_, s1.free nl1⟩
          unfold ms1
          rw [if_neg hm, if_neg hO]
          exact e3
    rintro σ H4 ⟨l4, rfl, s4, e4, f4⟩
    refine ⟨fun σ H' => ∃ l : Addr, σ = [some (.ref r), some (.int b), some (.int d), some (.str w), some (.int a), some (.int (pmF m y o k a b)), some (.ref l), none] ∧ Same H H' ∧ H' l = some (.lst ((fmL m y o k a b w).map V.int)) ∧ H l = none, ?_, ?_⟩
    · refine ⟨_, rfl, _, rfl, _, _, rfl, rfl, r, _, m, y, o, k, rfl, fo.same s4, g, zp1.mono (by decide), fun H5 s5 => ?_⟩
      have s15 := s4.trans s5
      have e5 := s5 _ _ e4
      rw [miF_eq]
      by_cases hm : hasM m y o k (pmF m y o k a b + 1)
      · rw [if_pos hm]
        refine ⟨_, rfl, iteF ⟨l4, rfl, s15, ?_, f4⟩⟩
        rw [← ms_eq]
        unfold ms2
        rw [if_pos hm]
        exact e5
      · rw [if_neg hm]
        refine ⟨_, rfl, iteT ?_⟩
        refine ⟨_, rfl, rfl, _, rfl, ?_⟩
        show if isW w "both" = true then _ else _
        by_cases hB : isW w "both" = true
        · rw [if_pos hB]
          refine ⟨_, rfl, _, rfl, _, _, rfl, rfl, (by show 2 ≤ sizeLine; decide), fun l2 nl2 => ⟨l2, rfl, s15.trans (Same.new nl2), ?_, s15.free nl2⟩⟩
          rw [upd_same, ← ms_eq]
          unfold ms2
          rw [if_neg hm, if_pos hB]
          rfl
        · rw [if_neg hB]
          refine ⟨l4, rfl, s15, ?_, f4⟩
          rw [← ms_eq]
          unfold ms2
          rw [if_neg hm, if_neg hB]
          exact e5
    rintro σ H6 ⟨l6, rfl, s6, e6, f6⟩
    refine ⟨_, rfl, l6, rfl, ⟨_, SqL.of e6⟩, fun D0 hD => ?_⟩
    have wl := walk_list (K := K) (a := l6) (xs := (fmL m y o k a b w).map V.int)
    rw [List.length_map] at wl
    refine lc_ints wl yAt_same hD (Nat.lt_of_le_of_lt (fm_len _ _ _ _ _ _ _) (by decide)) (fun j => fdd m o d ((fmL m y o k a b w).getD j 0)) (fun H' s' => SqL.of (s' _ _ e6)) ?_ ?_
    · rintro j x H7 H8 R hj s7 ⟨rfl, hx⟩ k1
      obtain ⟨rfl, hmem⟩ := get_int hx hj
      have zi := fm_sz g za zb _ hmem
      have s17 := s6.trans s7
      refine ⟨rfl, ?_⟩
      refine ⟨_, rfl, _, rfl, r, _, m, y, o, k, rfl, fo.same s17, g, zi.mono (by decide), fun H9 s9 => ?_⟩
      refine ⟨_, rfl, _, rfl, _, rfl, r, _, m, y, o, k, rfl, (fo.same s17).same s9, g, zi.mono (by decide), fun H10 s10 => ?_⟩
      refine ⟨_, _, rfl, _, _, rfl, rfl, _, _, rfl, rfl, ?_⟩
      exact k1 H10 (s9.trans s10)
    · intro H7 e7 s7
      rw [range_getD] at e7
      exact q D0 H7 (s6.free hD) (s6.trans s7) e7
end
/-! ### the year of a day, as the law tells it -/
def spYof : Sp := fun vs H Q _ => ∃ (r : Addr) (i : Int) (m y o k : Rat), vs = [.ref r, .int i] ∧ Fo H r m y o k ∧ Good m y o k ∧ Sz 1100 i ∧ ∀ H', Same H H' → Q (.int (dtY m y o k i)) H'
section
variable {P : Program} {w : World} {K : PySem.W.Frag} {mg : Str → Option Value} {base : Heap}
theorem ok_lyof (D : Df K mg "_law_year_of" s_l_year_of []) (f_l_month_at : Ca P w K mg base CX0 4 "_law_month_at" s_l_month_at [] ["_law_four_here", "_law_a_day"] (spF1 2000 fun m _ o _ i => .int (maF m o i))) (f_l_name : Ca P w K mg base CX0 5 "_law_name" s_l_name [] ["_law_four_here", "_law_k"] spLName) : Ca P w K mg base CX0 6 "_law_year_of" s_l_year_of [] ["_law_four_here", "_law_a_day"] spYof := by
  refine ca0 (k := 5) D c_l_year_of (fun vs H Q E h => ?_) fun f cdv A outer s H vs Q E hr h => ?_
  · obtain ⟨r, i, m, y, o, k, rfl, _⟩ := h
    rfl
  · obtain ⟨r, i, m, y, o, k, rfl, fo, g, zi, q⟩ := h
    refine ⟨_, (pss_one (ps_ret (pe_ix ix_tup (pe_ca f_l_name b_l_name hr (by decide) pass0 rfl (pa_cons (pv 0) (pa_cons (pe_ca f_l_month_at b_l_month_at hr (by decide) pass0 rfl (pa_cons (pv 0) (pa_cons (pv 1) pa_nil))) pa_nil))) pe_int (fun _ _ => rfl)))), ?_⟩
    have zk : Sz 1300 (maF m o i) := g.zma zi (by decide) (by decide)
    refine ⟨_, rfl, _, rfl, _, rfl, r, i, m, y, o, k, rfl, fo, g, zi.mono (by decide), fun H1 s1 => ?_⟩
    refine ⟨r, _, m, y, o, k, rfl, fo.same s1, g, zk.mono (by decide), fun t H2 nt s2 et => ?_⟩
    exact ⟨t, _, _, _, rfl, rfl, SqT.of et, rfl, q H2 (s1.trans s2)⟩
end
/-! ### the feasts of a year, as the law reckons them -/
structure LK (H : Hp) (dk : Addr) (gs : List (Addr × Fst)) : Prop where
  ed : H dk = some (.dK (fkv gs))
  tp : ∀ q ∈ gs, H q.1 = some (.tup [.int q.2.nr, .int q.2.dy, .str q.2.wh])
  nd : (gs.map fun q => q.2.nm).Nodup
  sz : ∀ q ∈ gs, Sz 900 q.2.nr
  z : gs.length ≤ 50
theorem valV_at : ∀ {gs : List (Addr × Fst)} {i : Nat} {q : Addr × Fst}, (gs.map fun q => q.2.nm).Nodup → gs[i]? = some q → valV (fkv gs) (.inr q.2.nm) = some (.ref q.1)
  | [], i, q, _, h => by simp at h
  | g :: gs, 0, q, _, h => by
    cases h
    exact valV_pos rfl
  | g :: gs, i + 1, q, hn, h => by
    rw [List.map_cons, List.nodup_cons] at hn
    have h : gs[i]? = some q := h
    have hm := List.mem_of_getElem? h
    have e : ¬ ((.inr g.2.nm : L2.Key) = .inr q.2.nm) := fun e => hn.1 (by
      injection e with e
      rw [e]
      exact List.mem_map.mpr ⟨q, hm, rfl⟩)
    show valV ((.inr g.2.nm, .ref g.1) :: fkv gs) _ = _
    rw [valV_neg e]
    exact valV_at hn.2 h
def spLiy : Sp := fun vs H Q _ => ∃ (r dk : Addr) (a : Int) (m y o k : Rat) (gs : List (Addr × Fst)), vs = [.ref r, .ref dk, .int a] ∧ Fo H r m y o k ∧ Good m y o k ∧ Sz 800 a ∧ LK H dk gs ∧ ∀ L us H', H L = none → Same H H' → H' L = some (.lst us) → Duos H' us (inY m y o k a (gs.map (·.2))) → Q (.ref L) H'
section
variable {P : Program} {w : World} {K : PySem.W.Frag} {mg : Str → Option Value} {base : Heap}
abbrev TE_l_in_year1 (_K : PySem.W.Frag) : TE := tTup (tCons (tVar 8) (tCons (tVar 4) tNil))
theorem ok_liy (D : Df K mg "_law_in_year" s_l_in_year []) (g_sorted : mg "sorted" = none) (f_l_feast_days : Ca P w K mg base CX0 6 "_law_feast_days" s_l_feast_days [] ["_law_four_here", "_law_number", "_law_a_day", "_law_a_when", "_law_a_year"] spLfd) : Ca P w K mg base CX0 7 "_law_in_year" s_l_in_year [] ["_law_four_here", "_law_kept", "_law_a_year"] spLiy := by
  refine ca0 (k := 6) D c_l_in_year (fun vs H Q E h => ?_) fun f cdv A outer s H vs Q E hr h => ?_
  · obtain ⟨r, dk, a, m, y, o, k, gs, rfl, _⟩ := h
    rfl
  · obtain ⟨r, dk, a, m, y, o, k, gs, rfl, fo, g, za, lk, q⟩ := h
    refine ⟨_, (pss_cons (ps_set (i := 3) c_l_in_year.nd rfl (.inl rfl) (pe_lst pa_nil))
      (pss_cons (ps_lock (ps_for PassesOwn.never rfl (pi_keys (pv 1)) (pg_name (i := 4) c_l_in_year.nd rfl (.inr rfl)) (pss_cons (ps_asg (pe_dget (hu1 hr) (pv 1) (pv 4) (fun _ _ => rfl)) (pg_tup rfl (pgs_cons (pg_name (i := 5) c_l_in_year.nd rfl (.inl rfl)) (pgs_cons (pg_name (i := 6) c_l_in_year.nd rfl (.inl rfl)) (pgs_cons (pg_name (i := 7) c_l_in_year.nd rfl (.inl rfl)) pgs_nil)))))
      (pss_one (ps_set (i := 3) c_l_in_year.nd rfl (.inl rfl) (pe_op op_cat (pv 3) (pe_lc (own := [("_law_one", 8)]) (g := gName 8) (tt := tYes) (te := TE_l_in_year1 K) rfl c_l_in_year.nd (pi_list (pe_ca f_l_feast_days b_l_feast_days hr (by decide) pass0 rfl (pa_cons (pv 0) (pa_cons (pv 5) (pa_cons (pv 6) (pa_cons (pv 7) (pa_cons (pv 2) pa_nil))))))) (blkOk_by (N := ["_law_four_here", "_law_kept", "_law_a_year", "_law_told", "_law_a_name", "_law_number", "_law_a_day", "_law_a_when", "_law_one"]) (sc := defScope s_l_in_year) (by decide +kernel)) (fun _ _ _ _ _ => (pg_name (i := 8) c_l_in_year.nd rfl (.inl rfl))) (fun _ _ _ _ _ => by exact pts_nil) (fun _ _ _ _ _ => by exact (pe_tup (pa_cons (pv 8) (pa_cons (pv 4) pa_nil)))))))))))
      (pss_one (ps_ret (pe_callB (cr_srtD (hu20 hr)) rfl g_sorted (by decide +kernel) (pa_cons (pv 3) pa_nil)))))), ?_⟩
    refine ⟨ln _, fun T nT => ?_⟩
    have s1 := Same.new (o := .lst []) nT
    have eT := upd_same (H := H) (a := T) (o := .lst [])
    change (fun Hx : Hp => _) (L2.upd H T (.lst []))
    generalize L2.upd H T (.lst []) = H1 at *
    have ed1 := s1 _ _ lk.ed
    refine ⟨dk, _, ed1, trivial, fun od => ?_⟩
    have ef := upd_same (H := H1) (a := dk) (o := .frz od (.dK (fkv gs)))
    have fw : ∀ c o, c ≠ dk → H1 c = some o → (L2.upd H1 dk (.frz od (.dK (fkv gs)))) c = some o := fun c o n e => (upd_ne n).trans e
    have ft : ∀ c xs, H1 c = some (.tup xs) → (L2.upd H1 dk (.frz od (.dK (fkv gs)))) c = some (.tup xs) := fun c xs e => fw _ _ (fun w => by rw [w, ed1] at e; cases e) e
    have nTd : T ≠ dk := fun w => by rw [w, ed1] at eT; cases eT
    have fn : ∀ c, (L2.upd H1 dk (.frz od (.dK (fkv gs)))) c = none → H1 c = none := fun c e => by
      by_cases n : c = dk
      · rw [n, upd_same] at e
        cases e
      · rw [upd_ne n] at e
        exact e
    generalize hHf : L2.upd H1 dk (.frz od (.dK (fkv gs))) = Hf at *
    refine ⟨_, rfl, dk, od, rfl, .inl ⟨_, ef, for_it (walk_keys (d := dk) (o := od) (kvs := fkv gs)) (fun i σ Hx => ∃ (v4 v5 v6 v7 : Option V) (L : Addr) (us : List V), σ = [some (.ref r), some (.ref dk), some (.int a), some (.ref L), v4, v5, v6, v7, none] ∧ Same Hf Hx ∧ (L = T ∨ Hf L = none) ∧ Hx L = some (.lst us) ∧ Duos Hx us (rawL m y o k a ((gs.take i).map (·.2)))) ⟨_, _, _, _, T, [], rfl, Same.refl _, .inl rfl, fw _ _ nTd eT, Duos.nil⟩ (fun i σ H' _ ⟨_, _, _, _, _, _, _, s, _⟩ => s _ _ ef) ?_ ?_⟩⟩
    · rintro i x σ Hx0 Hx hi ⟨v4, v5, v6, v7, L, us, rfl, sx, hL, eL, du⟩ ⟨rfl, key, vv, hk, rfl⟩
      obtain ⟨qg, hqg, rfl, rfl⟩ : ∃ qg, gs[i]? = some qg ∧ key = .inr qg.2.nm ∧ vv = .ref qg.1 := by
        unfold fkv at hk
        rw [List.getElem?_map] at hk
        cases h : gs[i]? with
        | none => rw [h] at hk; cases hk
        | some qg => rw [h] at hk; cases hk; exact ⟨qg, rfl, rfl, rfl⟩
      have hm := List.mem_of_getElem? hqg
      have et := sx _ _ (ft _ _ (s1 _ _ (lk.tp qg hm)))
      have hv := valV_at lk.nd hqg
      refine ⟨_, rfl, _, rfl, dk, _, rfl, .inl ⟨fkv gs, .inr qg.2.nm, .inr ⟨od, sx _ _ ef⟩, rfl, hv.symm⟩, ?_⟩
      refine ⟨qg.1, _, rfl, SqT.of et, rfl, _, _, rfl, _, _, rfl, _, _, rfl, rfl, ?_⟩
      have foX : Fo Hx r m y o k := by
        obtain ⟨a', b', c', d', e0, h1, h2, h3, h4⟩ := fo
        have up : ∀ {c : Addr} {xs : List V}, H c = some (.tup xs) → Hx c = some (.tup xs) := fun e => sx _ _ (ft _ _ (s1 _ _ e))
        exact ⟨a', b', c', d', up e0, up h1, up h2, up h3, up h4⟩
      refine ⟨_, rfl, _, rfl, _, rfl, _, rfl, _, rfl, _, rfl, r, qg.2.wh, a, qg.2.nr, qg.2.dy, m, y, o, k, rfl, foX, g, za.mono (by decide), lk.sz qg hm, fun D1 H2 nD1 s2 eD1 => ?_⟩
      have lf := fdL_len m y o k a qg.2
      have lf' : (((fmL m y o k a qg.2.nr qg.2.wh).map (fdd m o qg.2.dy)).map V.int).length ≤ 2 := by rw [List.length_map]; exact lf
      refine ⟨D1, rfl, ⟨_, SqL.of eD1⟩, fun D2 nD2 => ?_⟩
      refine lc_all (walk_list (K := K) (a := D1) (xs := ((fmL m y o k a qg.2.nr qg.2.wh).map (fdd m o qg.2.dy)).map V.int)) yAt_same nD2 (Nat.lt_of_le_of_lt lf' (by decide)) (fun j v H' => ∃ (t : Addr) (d : Int), (fdL m y o k a qg.2)[j]? = some d ∧ v = .ref t ∧ H' t = some (.tup [.int d, .str qg.2.nm])) (fun j v H1 H2 s ⟨t, d, e1, e2, e3⟩ => ⟨t, d, e1, e2, s _ _ e3⟩) (fun j v H1 acc acc' hacc ⟨t, d, e1, e2, e3⟩ => ⟨t, d, e1, e2, (upd_ne (ne_of e3 hacc (by intro z; cases z))).trans e3⟩) (fun H' s' => SqL.of (s' _ _ eD1)) ?_ ?_
      · rintro j v Ha Hb R hj sa ⟨rfl, hv2⟩ k1
        rw [List.getElem?_map] at hv2
        cases hd : ((fmL m y o k a qg.2.nr qg.2.wh).map (fdd m o qg.2.dy))[j]? with
        | none => rw [hd] at hv2; cases hv2
        | some d =>
          rw [hd] at hv2
          cases hv2
          refine ⟨rfl, _, rfl, _, rfl, (by show 2 ≤ sizeLine; decide), fun t nt => k1 _ _ (Same.new nt) ⟨t, d, hd, rfl, upd_same⟩⟩
      intro ws H3 hl eD2 s3 hps
      have hws : Duos H3 ws ((fdL m y o k a qg.2).map fun d => (d, qg.2.nm)) := ⟨by rw [List.length_map, hl, List.length_map]; rfl, fun j v hj => by
        obtain ⟨t, d, e1, rfl, e3⟩ := hps j v hj
        exact ⟨(d, qg.2.nm), by rw [List.getElem?_map, e1]; rfl, t, rfl, e3⟩⟩
      have l1 : us.length ≤ 100 := by
        have h1 := rawL_len m y o k a ((gs.take i).map (·.2))
        have h2 := du.1
        rw [List.length_map, List.length_take] at h1
        have := lk.z
        omega
      have s23 := s2.trans s3
      refine ⟨L, D2, us, ws, rfl, rfl, s23 _ _ eL, eD2, Nat.le_trans (show us.length + ws.length ≤ 200 by omega) (by decide), fun p3 np3 => ?_⟩
      have s4 := Same.new (o := .lst (us ++ ws)) np3
      have sx4 := sx.trans (s23.trans s4)
      refine ⟨_, _, _, _, p3, us ++ ws, rfl, sx4, .inr ((sx.trans s23).free np3), upd_same, ?_⟩
      have tk : gs.take (i + 1) = gs.take i ++ [qg] := by rw [List.take_succ, hqg]; rfl
      rw [tk, List.map_append, List.map_singleton, rawL_snoc]
      exact ((du.same fun t xs e => s23 _ _ e).append hws).same fun t xs e => s4 _ _ e
    · rintro σ Hx ⟨v4, v5, v6, v7, L, us, rfl, sx, hL, eL, du⟩
      refine ⟨sx _ _ ef, ?_⟩
      have lg : (fkv gs).length = gs.length := by unfold fkv; rw [List.length_map]
      rw [lg, List.take_length] at du
      have nLd : L ≠ dk := by
        rcases hL with rfl | hL
        · exact nTd
        · exact fun w => by rw [w, ef] at hL; cases hL
      have sy : Same H (L2.upd Hx dk (.dK (fkv gs))) := fun c o e => by
        by_cases n : c = dk
        · rw [n, upd_same]
          rw [n, lk.ed] at e
          exact e
        · rw [upd_ne n]
          exact sx _ _ (fw _ _ n (s1 _ _ e))
      have eL' : (L2.upd Hx dk (.dK (fkv gs))) L = some (.lst us) := (upd_ne nLd).trans eL
      have du' := du.same (H1 := L2.upd Hx dk (.dK (fkv gs))) fun t xs e => (upd_ne (fun w => by rw [w, sx _ _ ef] at e; cases e)).trans e
      refine ⟨_, rfl, L, us, _, rfl, SqL.of eL', du', fun us2 p4 hd np => ?_⟩
      exact q p4 us2 _ (sy.free np) (sy.trans (Same.new np)) upd_same (hd.same fun t xs e => Same.new np _ _ e)
end
/-! ### the next feast, as the law reckons it -/
def nmD : Option Str → PyData
  | none => .none
  | some s => .str s
theorem nm_any (nm : Option Str) (t : Str) : (([.none, .str t] : List PyData).any fun z => PyData.eqv z (nmD nm)) = (nm.isNone || decide (V.str t = nmV nm)) := by
  cases nm with
  | none => rfl
  | some s =>
    show (PyData.eqv .none (.str s) || (PyData.eqv (.str t) (.str s) || false)) = (false || decide (V.str t = V.str s))
    have e1 : PyData.eqv .none (.str s) = false := rfl
    have e2 : PyData.eqv (.str t) (.str s) = decide (t = s) := rfl
    rw [e1, e2, Bool.or_false]
    congr 1
    by_cases h : t = s
    · rw [decide_eq_true h, h, decide_eq_true rfl]
    · rw [decide_eq_false h, decide_eq_false fun w => h (V.str.inj w)]
theorem nm_dp {K : PySem.W.Frag} {H : Hp} (nm : Option Str) : Dp K H (nmV nm) (nmD nm) := by
  cases nm with
  | none => exact .non
  | some s => exact .str s
theorem nm_sh (nm : Option Str) (h : ∀ s, nm = some s → PyData.strOk s = true) : SeqAt.shaped (nmD nm) = true := by
  cases nm with
  | none => rfl
  | some s =>
    show (PyData.canLay0 (.str s) && decide (PyData.depth (.str s) ≤ 64)) = true
    simp [PyData.canLay0, PyData.depth, h s rfl]
theorem ns_sh {t : Str} (h : PyData.strOk t = true) : SeqAt.shaped (.list [.none, .str t]) = true := by
  show (PyData.canLay0 (.list [.none, .str t]) && decide (PyData.depth (.list [.none, .str t]) ≤ 64)) = true
  simp [PyData.canLay0, PyData.canLayAll0, PyData.depth, PyData.depthAll, h]
theorem inY_nm {m y o k : Rat} {a : Int} {fs : List Fst} {r : Int × Str} (h : r ∈ inY m y o k a fs) : ∃ q ∈ fs, q.nm = r.2 := by
  unfold inY at h
  have h := List.mem_mergeSort.mp h
  unfold rawL at h
  obtain ⟨q, hq, h⟩ := List.mem_flatMap.mp h
  obtain ⟨d, _, rfl⟩ := List.mem_map.mp h
  exact ⟨q, hq, rfl⟩
def spLnx : Sp := fun vs H Q _ => ∃ (r dk : Addr) (x : Int) (nm : Option Str) (m y o k : Rat) (gs : List (Addr × Fst)), vs = [.ref r, .ref dk, .int x, nmV nm] ∧ Fo H r m y o k ∧ Good m y o k ∧ Sz 600 x ∧ LK H dk gs ∧ (∀ s, nm = some s → PyData.strOk s = true) ∧ (∀ q ∈ gs, PyData.strOk q.2.nm = true) ∧ (nxL m y o k x nm (gs.map (·.2)) = [] → ∀ H', Same H H' → Q .non H') ∧ ∀ z zs, nxL m y o k x nm (gs.map (·.2)) = z :: zs → ∀ t H', Same H H' → Duo H' (.ref t) (PySem.W.minOf z zs) → Q (.ref t) H'
theorem LK.same {H H1 : Hp} {dk : Addr} {gs : List (Addr × Fst)} (h : LK H dk gs) (s : Same H H1) : LK H1 dk gs := ⟨s _ _ h.ed, fun q hq => s _ _ (h.tp q hq), h.nd, h.sz, h.z⟩
section
variable {P : Program} {w : World} {K : PySem.W.Frag} {mg : Str → Option Value} {base : Heap}
abbrev TE_l_next_feast1 (_K : PySem.W.Frag) : TE := tVar 6
abbrev TT_l_next_feast1 (K : PySem.W.Frag) : TT := tAnd (tTest (tOp (rI0 fun i j => .bl (decide (j ≤ i))) (tOp (rIxT K) (tVar 6) (tC (.int 0))) (tVar 2))) (tTest (tOp (rInD K) (tVar 3) (tLst (tCons (tC .non) (tCons (tOp (rIxT K) (tVar 6) (tC (.int 1))) tNil)))))
theorem ok_lnx (D : Df K mg "_law_next_feast" s_l_next_feast []) (g_min : mg "min" = none) (f_l_year_of : Ca P w K mg base CX0 6 "_law_year_of" s_l_year_of [] ["_law_four_here", "_law_a_day"] spYof) (f_l_in_year : Ca P w K mg base CX0 7 "_law_in_year" s_l_in_year [] ["_law_four_here", "_law_kept", "_law_a_year"] spLiy) : Ca P w K mg base CX0 8 "_law_next_feast" s_l_next_feast [] ["_law_four_here", "_law_kept", "_law_a_day", "_law_a_name"] spLnx := by
  refine ca0 (k := 7) D c_l_next_feast (fun vs H Q E h => ?_) fun f cdv A outer s H vs Q E hr h => ?_
  · obtain ⟨r, dk, x, nm, m, y, o, k, gs, rfl, _⟩ := h
    rfl
  · obtain ⟨r, dk, x, nm, m, y, o, k, gs, rfl, fo, g, zx, lk, on, og, q0, q1⟩ := h
    refine ⟨_, (pss_cons (ps_set (i := 4) c_l_next_feast.nd rfl (.inl rfl) (pe_ca f_l_year_of b_l_year_of hr (by decide) pass0 rfl (pa_cons (pv 0) (pa_cons (pv 2) pa_nil))))
      (pss_cons (ps_set (i := 5) c_l_next_feast.nd rfl (.inl rfl) (pe_op op_cat (pe_ca f_l_in_year b_l_in_year hr (by decide) pass0 rfl (pa_cons (pv 0) (pa_cons (pv 1) (pa_cons (pv 4) pa_nil)))) (pe_ca f_l_in_year b_l_in_year hr (by decide) pass0 rfl (pa_cons (pv 0) (pa_cons (pv 1) (pa_cons (pe_op op_add (pv 4) pe_int) pa_nil))))))
      (pss_cons (ps_setLc (i := 5) (own := [("_law_row", 6)]) (g := gName 6) (tt := TT_l_next_feast1 K) (te := TE_l_next_feast1 K) rfl c_l_next_feast.nd rfl rfl (sw_true rfl rfl rfl (by decide +kernel)) (pi_list (pv 5)) (blkOk_by (N := ["_law_four_here", "_law_kept", "_law_a_day", "_law_a_name", "_law_a_year", "_law_rows", "_law_row"]) (sc := defScope s_l_next_feast) (by decide +kernel)) (fun _ _ _ _ _ => (pg_name (i := 6) c_l_next_feast.nd rfl (.inl rfl))) (fun _ _ _ _ _ => by exact pts_one (PW.pt (pw_and (pt_cmpR op_ge (pe_ix ix_tup (pv 6) pe_int (fun _ _ => rfl)) (pv 2) (nomark _)) (pw_and1 (pt_cmpR (op_inD (hu65 hr)) (pv 3) (pe_lst (pa_cons pe_non (pa_cons (pe_ix ix_tup (pv 6) pe_int (fun _ _ => rfl)) pa_nil))) rfl))))) (fun _ _ _ _ _ => by exact (pv 6)))
      (pss_one (ps_ret (pe_minD hr rfl (pk_cons pe_non pk_nil) rfl g_min (pa_cons (pv 5) pa_nil))))))), ?_⟩
    have zy : Sz 700 (dtY m y o k x) := (g.zdY (n := 600) zx (by decide)).mono (by decide)
    refine ⟨_, rfl, _, rfl, r, x, m, y, o, k, rfl, fo, g, zx.mono (by decide), fun H1 s1 => ?_⟩
    refine ⟨_, rfl, _, rfl, _, rfl, r, dk, _, m, y, o, k, gs, rfl, fo.same s1, g, zy.mono (by decide), lk.same s1, fun r1 us1 H2 nr1 s2 er1 du1 => ?_⟩
    refine ⟨_, rfl, _, rfl, _, rfl, _, _, rfl, rfl, r, dk, _, m, y, o, k, gs, rfl, (fo.same s1).same s2, g, zadd zy 1, (lk.same s1).same s2, fun r2 us2 H3 nr2 s3 er2 du2 => ?_⟩
    have ln : ∀ (a : Int) {us : List V}, (inY m y o k a (gs.map (·.2))).length = us.length → us.length ≤ 100 := fun a us e => by
      have h1 := inY_len m y o k a (gs.map (·.2))
      have h2 := lk.z
      rw [List.length_map] at h1
      omega
    have l1 := ln _ du1.1
    have l2 := ln _ du2.1
    refine ⟨r1, r2, us1, us2, rfl, rfl, s3 _ _ er1, er2, Nat.le_trans (show _ ≤ 200 by omega) (by decide), fun r3 nr3 => ?_⟩
    have s4 := Same.new (o := .lst (us1 ++ us2)) nr3
    have er3 := upd_same (H := H3) (a := r3) (o := .lst (us1 ++ us2))
    have du3 := ((du1.same fun t xs e => s3 _ _ e).append du2).same fun t xs e => s4 _ _ e
    have s04 := s1.trans (s2.trans (s3.trans s4))
    generalize L2.upd H3 r3 (.lst (us1 ++ us2)) = H4 at *
    refine ⟨_, rfl, r3, rfl, ⟨_, SqL.of er3⟩, fun D nD => ?_⟩
    have l3 : (us1 ++ us2).length ≤ 200 := by
      rw [List.length_append]
      omega
    generalize us1 ++ us2 = us at *
    refine lc_fltV (walk_list (K := K) (a := r3) (xs := us)) yAt_same nD (Nat.lt_of_le_of_lt l3 (by decide)) (fun i => us.getD i .non) (fun i => (fun r : Int × Str => decide (x ≤ r.1) && (nm.isNone || decide (V.str r.2 = nmV nm))) ((inY m y o k (dtY m y o k x) (gs.map (·.2)) ++ inY m y o k (dtY m y o k x + 1) (gs.map (·.2))).getD i d0)) (fun H' s' => SqL.of (s' _ _ er3)) ?_ ?_
    · rintro i v Ha Hb R N hi sa ⟨rfl, hv⟩ kT kF
      obtain ⟨zz, ez, t, rfl, et⟩ := du3.2 i v hv
      rw [getD_at ez] at kT kF
      rw [getD_at hv] at kT
      have okz : PyData.strOk zz.2 = true := by
        have hm := List.mem_of_getElem? ez
        rcases List.mem_append.mp hm with hm | hm
        all_goals
          obtain ⟨q', hq', e'⟩ := inY_nm hm
          obtain ⟨q2, hq2, rfl⟩ := List.mem_map.mp hq'
          rw [← e']
          exact og q2 hq2
      refine ⟨rfl, ?_⟩
      refine ⟨_, rfl, t, _, _, _, rfl, rfl, SqT.of (sa _ _ et), rfl, _, rfl, _, _, rfl, rfl, _, rfl, ?_⟩
      by_cases c1 : x ≤ zz.1
      · rw [decide_eq_true c1]
        refine iteT ?_
        dsimp only at kT kF
        rw [decide_eq_true c1, Bool.true_and] at kT kF
        refine ⟨_, rfl, _, rfl, t, _, _, _, rfl, rfl, SqT.of (sa _ _ et), rfl, (by show 2 ≤ sizeLine; decide), fun p np => ?_⟩
        have sp := Same.new (o := .lst [.non, .str zz.2]) np
        refine ⟨nmD nm, [.none, .str zz.2], nm_dp nm, .lst (SqL.of upd_same) (.cons .non (.cons (.str _) .nil)), nm_sh nm on, ns_sh okz, _, rfl, ?_⟩
        rw [nm_any]
        by_cases c2 : (nm.isNone || decide (V.str zz.2 = nmV nm)) = true
        · rw [c2]
          exact iteT ⟨_, rfl, kT c2 _ sp⟩
        · have c2 : (nm.isNone || decide (V.str zz.2 = nmV nm)) = false := Bool.eq_false_iff.mpr c2
          rw [c2]
          exact iteF (kF c2 _ sp)
      · rw [decide_eq_false c1]
        refine iteF (iteF (kF ?_ _ (Same.refl _)))
        dsimp only
        rw [decide_eq_false c1]
        rfl
    · intro H5 e5 s5
      have du5 := (du3.filter (fun r : Int × Str => decide (x ≤ r.1) && (nm.isNone || decide (V.str r.2 = nmV nm)))).same fun t xs e => s5 _ _ e
      refine ⟨_, rfl, D, _, _, rfl, SqL.of e5, du5, fun e => q0 e _ (s04.trans s5), fun y' ys t e ht => ?_⟩
      exact q1 y' ys e t H5 (s04.trans s5) ⟨t, rfl, ht⟩
end
/-! ### which of two kinds a kept error is -/
def spKinds (D : Addr) (bs : List Bool) : Sp := fun vs H Q _ => ∃ (a d : Addr) (fs : List (Str × V)), vs = [.ref a] ∧ H a = some (KX a (.ref D) (some d)) ∧ H d = some (.xd fs) ∧ ∀ l H', Same H H' → H' l = some (.lst (bs.map V.bl)) → Q (.ref l) H'
def spKinds2 (CM CT : Addr) : Sp := fun vs H Q E => spKinds CM [false, false, false, false, true, false, false, false, false, false] vs H Q E ∨ spKinds CT [false, false, false, false, false, false, true, false, false, false] vs H Q E
section
variable {P : Program} {w : World} {K : PySem.W.Frag} {mg : Str → Option Value} {base : Heap} {CM CT C_NoShare C_NoCalendar C_NoDate C_NoWheel C_NoDay C_NoText C_NoNote C_NoDeed : Addr}
theorem ok_kinds67 (D : Df K mg "_law_kinds" s_l_kinds []) (T : KdF K mg CM false false false false true false false false false false false true false true false false C_NoShare C_NoCalendar C_NoDate C_NoWheel CM C_NoDay CT C_NoText C_NoNote C_NoDeed) (T' : KdF K mg CT false false false false false false true false false false false false true false false false C_NoShare C_NoCalendar C_NoDate C_NoWheel CM C_NoDay CT C_NoText C_NoNote C_NoDeed) (g_isinstance : mg "isinstance" = none) :
    Ca P w K mg base CX0 1 "_law_kinds" s_l_kinds [] ["_law_kept"] (spKinds2 CM CT) := by
  refine ca0 (k := 0) D c_l_kinds (fun vs H Q E h => ?_) fun f cdv A outer s H vs Q E hr h => ?_
  · rcases h with ⟨a, d, fs, rfl, _⟩ | ⟨a, d, fs, rfl, _⟩ <;> rfl
  · rcases h with ⟨a, d, fs, rfl, ha, hd, q⟩ | ⟨a, d, fs, rfl, ha, hd, q⟩
    · skip
      have XC := T.xc
      have h_NoShare := T.m0
      have h_NoCalendar := T.m1
      have h_NoDate := T.m2
      have h_NoWheel := T.m3
      have h_NoName := T.m4
      have h_NoDay := T.m5
      have h_Taken := T.m6
      have h_NoText := T.m7
      have h_NoNote := T.m8
      have h_NoDeed := T.m9
      refine ⟨_, (pss_cons (ps_set (i := 1) c_l_kinds.nd rfl (.inl rfl) (pe_lst (pa_cons (pe_callB (call_isK XC) rfl g_isinstance (by decide +kernel) (pa_cons (pv 0) (pa_cons (pe_glob (v := .ref C_NoShare) rfl h_NoShare rfl) pa_nil))) (pa_cons (pe_callB (call_isK XC) rfl g_isinstance (by decide +kernel) (pa_cons (pv 0) (pa_cons (pe_glob (v := .ref C_NoCalendar) rfl h_NoCalendar rfl) pa_nil))) (pa_cons (pe_callB (call_isK XC) rfl g_isinstance (by decide +kernel) (pa_cons (pv 0) (pa_cons (pe_glob (v := .ref C_NoDate) rfl h_NoDate rfl) pa_nil))) pa_nil)))))
      (pss_cons (ps_set (i := 1) c_l_kinds.nd rfl (.inl rfl) (pe_op op_cat (pv 1) (pe_lst (pa_cons (pe_callB (call_isK XC) rfl g_isinstance (by decide +kernel) (pa_cons (pv 0) (pa_cons (pe_glob (v := .ref C_NoWheel) rfl h_NoWheel rfl) pa_nil))) (pa_cons (pe_callB (call_isK XC) rfl g_isinstance (by decide +kernel) (pa_cons (pv 0) (pa_cons (pe_glob (v := .ref CM) rfl h_NoName rfl) pa_nil))) (pa_cons (pe_callB (call_isK XC) rfl g_isinstance (by decide +kernel) (pa_cons (pv 0) (pa_cons (pe_glob (v := .ref C_NoDay) rfl h_NoDay rfl) pa_nil))) pa_nil))))))
      (pss_cons (ps_set (i := 1) c_l_kinds.nd rfl (.inl rfl) (pe_op op_cat (pv 1) (pe_lst (pa_cons (pe_callB (call_isK XC) rfl g_isinstance (by decide +kernel) (pa_cons (pv 0) (pa_cons (pe_glob (v := .ref CT) rfl h_Taken rfl) pa_nil))) (pa_cons (pe_callB (call_isK XC) rfl g_isinstance (by decide +kernel) (pa_cons (pv 0) (pa_cons (pe_glob (v := .ref C_NoText) rfl h_NoText rfl) pa_nil))) (pa_cons (pe_callB (call_isK XC) rfl g_isinstance (by decide +kernel) (pa_cons (pv 0) (pa_cons (pe_glob (v := .ref C_NoNote) rfl h_NoNote rfl) pa_nil))) pa_nil))))))
      (pss_one (ps_ret (pe_op op_cat (pv 1) (pe_lst (pa_cons (pe_callB (call_isK XC) rfl g_isinstance (by decide +kernel) (pa_cons (pv 0) (pa_cons (pe_glob (v := .ref C_NoDeed) rfl h_NoDeed rfl) pa_nil))) pa_nil)))))))), ?_⟩
      refine ⟨_, rfl, a, d, fs, _, _, _, rfl, ha, hd, .own _, T.k0, _, rfl, a, d, fs, _, _, _, rfl, ha, hd, .own _, T.k1, _, rfl, a, d, fs, _, _, _, rfl, ha, hd, .own _, T.k2, ln _, fun p1 n1 => ?_⟩
      have s1 := Same.new (o := .lst [.bl false, .bl false, .bl false]) n1
      refine ⟨_, rfl, _, rfl, a, d, fs, _, _, _, rfl, s1 _ _ ha, s1 _ _ hd, .own _, T.k3, _, rfl, a, d, fs, _, _, _, rfl, s1 _ _ ha, s1 _ _ hd, .own _, T.k4, _, rfl, a, d, fs, _, _, _, rfl, s1 _ _ ha, s1 _ _ hd, .own _, T.k5, ln _, fun p2 n2 => ?_⟩
      have s2 := s1.trans (Same.new (o := .lst [.bl false, .bl true, .bl false]) n2)
      refine ⟨p1, p2, _, _, rfl, rfl, (Same.new n2 _ _ upd_same), upd_same, (by show 6 ≤ sizeLine; decide), fun p3 n3 => ?_⟩
      have s3 := s2.trans (Same.new (o := .lst ([.bl false, .bl false, .bl false] ++ [.bl false, .bl true, .bl false])) n3)
      refine ⟨_, rfl, _, rfl, a, d, fs, _, _, _, rfl, s3 _ _ ha, s3 _ _ hd, .own _, T.k6, _, rfl, a, d, fs, _, _, _, rfl, s3 _ _ ha, s3 _ _ hd, .own _, T.k7, _, rfl, a, d, fs, _, _, _, rfl, s3 _ _ ha, s3 _ _ hd, .own _, T.k8, ln _, fun p4 n4 => ?_⟩
      have s4 := s3.trans (Same.new (o := .lst [.bl false, .bl false, .bl false]) n4)
      refine ⟨p3, p4, _, _, rfl, rfl, (Same.new n4 _ _ upd_same), upd_same, (by show 9 ≤ sizeLine; decide), fun p5 n5 => ?_⟩
      have s5 := s4.trans (Same.new (o := .lst (([.bl false, .bl false, .bl false] ++ [.bl false, .bl true, .bl false]) ++ [.bl false, .bl false, .bl false])) n5)
      refine ⟨_, rfl, _, rfl, a, d, fs, _, _, _, rfl, s5 _ _ ha, s5 _ _ hd, .own _, T.k9, ln _, fun p6 n6 => ?_⟩
      have s6 := s5.trans (Same.new (o := .lst [.bl false]) n6)
      refine ⟨p5, p6, _, _, rfl, rfl, (Same.new n6 _ _ upd_same), upd_same, (by show 10 ≤ sizeLine; decide), fun p7 n7 => ?_⟩
      exact q p7 _ (s6.trans (Same.new n7)) upd_same
    · skip
      have XC := T'.xc
      have h_NoShare := T'.m0
      have h_NoCalendar := T'.m1
      have h_NoDate := T'.m2
      have h_NoWheel := T'.m3
      have h_NoName := T'.m4
      have h_NoDay := T'.m5
      have h_Taken := T'.m6
      have h_NoText := T'.m7
      have h_NoNote := T'.m8
      have h_NoDeed := T'.m9
      refine ⟨_, (pss_cons (ps_set (i := 1) c_l_kinds.nd rfl (.inl rfl) (pe_lst (pa_cons (pe_callB (call_isK XC) rfl g_isinstance (by decide +kernel) (pa_cons (pv 0) (pa_cons (pe_glob (v := .ref C_NoShare) rfl h_NoShare rfl) pa_nil))) (pa_cons (pe_callB (call_isK XC) rfl g_isinstance (by decide +kernel) (pa_cons (pv 0) (pa_cons (pe_glob (v := .ref C_NoCalendar) rfl h_NoCalendar rfl) pa_nil))) (pa_cons (pe_callB (call_isK XC) rfl g_isinstance (by decide +kernel) (pa_cons (pv 0) (pa_cons (pe_glob (v := .ref C_NoDate) rfl h_NoDate rfl) pa_nil))) pa_nil)))))
      (pss_cons (ps_set (i := 1) c_l_kinds.nd rfl (.inl rfl) (pe_op op_cat (pv 1) (pe_lst (pa_cons (pe_callB (call_isK XC) rfl g_isinstance (by decide +kernel) (pa_cons (pv 0) (pa_cons (pe_glob (v := .ref C_NoWheel) rfl h_NoWheel rfl) pa_nil))) (pa_cons (pe_callB (call_isK XC) rfl g_isinstance (by decide +kernel) (pa_cons (pv 0) (pa_cons (pe_glob (v := .ref CM) rfl h_NoName rfl) pa_nil))) (pa_cons (pe_callB (call_isK XC) rfl g_isinstance (by decide +kernel) (pa_cons (pv 0) (pa_cons (pe_glob (v := .ref C_NoDay) rfl h_NoDay rfl) pa_nil))) pa_nil))))))
      (pss_cons (ps_set (i := 1) c_l_kinds.nd rfl (.inl rfl) (pe_op op_cat (pv 1) (pe_lst (pa_cons (pe_callB (call_isK XC) rfl g_isinstance (by decide +kernel) (pa_cons (pv 0) (pa_cons (pe_glob (v := .ref CT) rfl h_Taken rfl) pa_nil))) (pa_cons (pe_callB (call_isK XC) rfl g_isinstance (by decide +kernel) (pa_cons (pv 0) (pa_cons (pe_glob (v := .ref C_NoText) rfl h_NoText rfl) pa_nil))) (pa_cons (pe_callB (call_isK XC) rfl g_isinstance (by decide +kernel) (pa_cons (pv 0) (pa_cons (pe_glob (v := .ref C_NoNote) rfl h_NoNote rfl) pa_nil))) pa_nil))))))
      (pss_one (ps_ret (pe_op op_cat (pv 1) (pe_lst (pa_cons (pe_callB (call_isK XC) rfl g_isinstance (by decide +kernel) (pa_cons (pv 0) (pa_cons (pe_glob (v := .ref C_NoDeed) rfl h_NoDeed rfl) pa_nil))) pa_nil)))))))), ?_⟩
      refine ⟨_, rfl, a, d, fs, _, _, _, rfl, ha, hd, .own _, T'.k0, _, rfl, a, d, fs, _, _, _, rfl, ha, hd, .own _, T'.k1, _, rfl, a, d, fs, _, _, _, rfl, ha, hd, .own _, T'.k2, ln _, fun p1 n1 => ?_⟩
      have s1 := Same.new (o := .lst [.bl false, .bl false, .bl false]) n1
      refine ⟨_, rfl, _, rfl, a, d, fs, _, _, _, rfl, s1 _ _ ha, s1 _ _ hd, .own _, T'.k3, _, rfl, a, d, fs, _, _, _, rfl, s1 _ _ ha, s1 _ _ hd, .own _, T'.k4, _, rfl, a, d, fs, _, _, _, rfl, s1 _ _ ha, s1 _ _ hd, .own _, T'.k5, ln _, fun p2 n2 => ?_⟩
      have s2 := s1.trans (Same.new (o := .lst [.bl false, .bl false, .bl false]) n2)
      refine ⟨p1, p2, _, _, rfl, rfl, (Same.new n2 _ _ upd_same), upd_same, (by show 6 ≤ sizeLine; decide), fun p3 n3 => ?_⟩
      have s3 := s2.trans (Same.new (o := .lst ([.bl false, .bl false, .bl false] ++ [.bl false, .bl false, .bl false])) n3)
      refine ⟨_, rfl, _, rfl, a, d, fs, _, _, _, rfl, s3 _ _ ha, s3 _ _ hd, .own _, T'.k6, _, rfl, a, d, fs, _, _, _, rfl, s3 _ _ ha, s3 _ _ hd, .own _, T'.k7, _, rfl, a, d, fs, _, _, _, rfl, s3 _ _ ha, s3 _ _ hd, .own _, T'.k8, ln _, fun p4 n4 => ?_⟩
      have s4 := s3.trans (Same.new (o := .lst [.bl true, .bl false, .bl false]) n4)
      refine ⟨p3, p4, _, _, rfl, rfl, (Same.new n4 _ _ upd_same), upd_same, (by show 9 ≤ sizeLine; decide), fun p5 n5 => ?_⟩
      have s5 := s4.trans (Same.new (o := .lst (([.bl false, .bl false, .bl false] ++ [.bl false, .bl false, .bl false]) ++ [.bl true, .bl false, .bl false])) n5)
      refine ⟨_, rfl, _, rfl, a, d, fs, _, _, _, rfl, s5 _ _ ha, s5 _ _ hd, .own _, T'.k9, ln _, fun p6 n6 => ?_⟩
      have s6 := s5.trans (Same.new (o := .lst [.bl false]) n6)
      refine ⟨p5, p6, _, _, rfl, rfl, (Same.new n6 _ _ upd_same), upd_same, (by show 10 ≤ sizeLine; decide), fun p7 n7 => ?_⟩
      exact q p7 _ (s6.trans (Same.new n7)) upd_same
end
/-! ### a deed of the law on a book -/
def XKk (n : Nat) (W : WX) : XK := fun c d H => ∀ σ : L2.St, σ.length = n → W c d σ H
theorem takes_len {X : Cx} {W : WX} (t : Takes X W) : Takes X (fun c d σ H => σ.length = X.N.length → W c d σ H) := fun u s' ⟨a, B, sI, pins, σ, H, cls, d, e, I, nb, up, sky, na, os, ag, w⟩ =>
  t u s' ⟨a, B, sI, pins, σ, H, cls, d, e, I, nb, up, sky, na, os, ag, w I.len⟩
theorem ix_listK {X : Cx} {K : PySem.W.Frag} (hK : X.K = K) : IxR X (rIxL K) := by
  subst hK
  exact ix_list
theorem ix_tupK {X : Cx} {K : PySem.W.Frag} (hK : X.K = K) : IxR X (rIxT K) := by
  subst hK
  exact ix_tup
theorem yes' {A B : Prop} {b : Bool} (hb : b = true) (h : A) : if b = true then A else B := by
  rw [if_pos hb]
  exact h
def gOd {α : Type} : List α → List α → List α → List α := fun us _ ws => us ++ ws
theorem gOd_rel {vs ds zs : List V} {us its ws : List Value} (h : Vals vs us) (_ : Vals ds its) (k : Vals zs ws) : Vals (gOd vs ds zs) (gOd us its ws) := h.append k
theorem kb_Feast_3_when : Kd "Feast.__init__" s_Feast_init 1 4 ["when"] ["self", "name", "number", "day", "when"] gOd :=
  ⟨fun _ _ _ _ _ _ _ us its ws hu hi hw => match us, hu, its, hi, ws, hw with | [_, _, _, _], _, [_], _, [_], _ => ⟨_, rfl, rfl⟩, gOd_rel⟩
theorem kb_add_feast : Kbm "add" "Feasts.add" s_Feasts_add 1 ["feast"] ["self", "feast"] g1 := ⟨fun _ _ _ _ _ _ us ws hu hw => match us, hu, ws, hw with | [_], _, [_], _ => rfl, g1_rel⟩
theorem kb_drop_name : Kbm "drop" "Feasts.drop" s_Feasts_drop 1 ["name"] ["self", "name"] g1 := ⟨fun _ _ _ _ _ _ us ws hu hw => match us, hu, ws, hw with | [_], _, [_], _ => rfl, g1_rel⟩
theorem kd_next_feast_1_name : Kdm "next_feast" "Feasts.next_feast" s_Feasts_next_feast 1 2 ["name"] ["self", "day", "name"] gOd :=
  ⟨fun _ _ _ _ _ _ _ us its ws hu hi hw => match us, hu, its, hi, ws, hw with | [_, _], _, [_], _, [_], _ => ⟨_, rfl, rfl⟩, gOd_rel⟩
/-- what the least of the rows is told as -/
def MinV (H : Hp) (v : V) (xs : List (Int × Str)) : Prop := (xs = [] ∧ v = .non) ∨ ∃ z zs t, xs = z :: zs ∧ v = .ref t ∧ Duo H (.ref t) (PySem.W.minOf z zs)
def spDeed (C Cc Cb Cf : Addr) : Sp := fun vs H Q _ => ∃ (b p fl : Addr) (way : Int) (x : Str) (m y o k : Rat) (fs : List (Addr × Fst)), vs = [.ref b, .int way, .str x, .ref fl] ∧ Bk C Cc Cb Cf H b p m y o k fs ∧ x.length ≤ 1000 ∧
  ((way = 0 ∧ ∃ z : Fst, z.nm = x ∧ H fl = some (.tup [.int z.nr, .int z.dy, .str z.wh]) ∧ Sz 900 z.nr ∧ fs.length < 50 ∧
      ((∀ q ∈ fs, q.2.nm ≠ x) → ∀ f r H', (∀ c o, Off Cb H b p c → H c = some o → H' c = some o) → Bk C Cc Cb Cf H' b p m y o k (fs ++ [(f, z)]) → H' r = some (.lst [.str "told", .non]) → Q (.ref r) H') ∧
      ((∃ q ∈ fs, q.2.nm = x) → ∀ r H', Same H H' → H' r = some (.lst [.str "taken", .str x]) → Q (.ref r) H')) ∨
   (way = 1 ∧ ((∃ q ∈ fs, q.2.nm = x) → ∀ r H', (∀ c o, Off Cb H b p c → H c = some o → H' c = some o) → Bk C Cc Cb Cf H' b p m y o k (dropF x fs) → H' r = some (.lst [.str "told", .non]) → Q (.ref r) H') ∧
      ((∀ q ∈ fs, q.2.nm ≠ x) → ∀ r H', Same H H' → H' r = some (.lst [.str "name", .str x]) → Q (.ref r) H')) ∨
   (way = 2 ∧ ∃ d : Int, H fl = some (.lst [.int d]) ∧ Sz 600 d ∧
      ((∃ q ∈ fs, q.2.nm = x) → ∀ r v H', Same H H' → MinV H' v (nxL m y o k d (some x) (fs.map (·.2))) → H' r = some (.lst [.str "told", v]) → Q (.ref r) H') ∧
      ((∀ q ∈ fs, q.2.nm ≠ x) → ∀ r H', Same H H' → H' r = some (.lst [.str "name", .str x]) → Q (.ref r) H')))
section
variable {P : Program} {w : World} {K : PySem.W.Frag} {mg : Str → Option Value} {base : Heap} {C Cc Cb Cf CM CT : Addr} {C_NoShare C_NoCalendar C_NoDate C_NoWheel C_NoDay C_NoText C_NoNote C_NoDeed : Addr}
theorem ok_ldeed (D : Df K mg "_law_deed" s_l_deed []) (T : KdF K mg CM false false false false true false false false false false false true false true false false C_NoShare C_NoCalendar C_NoDate C_NoWheel CM C_NoDay CT C_NoText C_NoNote C_NoDeed) (T' : KdF K mg CT false false false false false false true false false false false false true false false false C_NoShare C_NoCalendar C_NoDate C_NoWheel CM C_NoDay CT C_NoText C_NoNote C_NoDeed)
    (XA : ∃ B : Value → Bool, (∀ c ∈ [Value.ref C_NoCalendar, .ref C_NoDate, .ref C_NoDay, .ref C_NoDeed, .ref CM, .ref C_NoNote, .ref C_NoShare, .ref C_NoText, .ref C_NoWheel, .ref CT], PySem.W.exmOne K (.ref CM) c = some (B c)) ∧ ([Value.ref C_NoCalendar, .ref C_NoDate, .ref C_NoDay, .ref C_NoDeed, .ref CM, .ref C_NoNote, .ref C_NoShare, .ref C_NoText, .ref C_NoWheel, .ref CT]).any B = true)
    (XA' : ∃ B : Value → Bool, (∀ c ∈ [Value.ref C_NoCalendar, .ref C_NoDate, .ref C_NoDay, .ref C_NoDeed, .ref CM, .ref C_NoNote, .ref C_NoShare, .ref C_NoText, .ref C_NoWheel, .ref CT], PySem.W.exmOne K (.ref CT) c = some (B c)) ∧ ([Value.ref C_NoCalendar, .ref C_NoDate, .ref C_NoDay, .ref C_NoDeed, .ref CM, .ref C_NoNote, .ref C_NoShare, .ref C_NoText, .ref C_NoWheel, .ref CT]).any B = true)
    (n_name : PySem.W.findIn K (.ref CM) "name" = some none) (n_nameT : PySem.W.findIn K (.ref CT) "name" = some none) (g_isinstance : mg "isinstance" = none) (g_ValueError : mg "ValueError" = none) (g_KeyError : mg "KeyError" = none)
    (f_Feast : Ci P w K mg base CX0 1 "Feast" Cf "Feast.__init__" s_Feast_init [.str "plain"] ["self", "name", "number", "day", "when"] (spFeI Cf))
    (f_add : Cm P w K mg base (L2.CX P w) 3 Cb "add" "Feasts.add" s_Feasts_add ["self", "feast"] (spFbAX C Cc Cb Cf CT)) (f_drop : Cm P w K mg base (L2.CX P w) 4 Cb "drop" "Feasts.drop" s_Feasts_drop ["self", "name"] (spFbD C Cc Cb Cf CM))
    (f_next_feast : CmD P w K mg base (L2.CX P w) 15 Cb "next_feast" "Feasts.next_feast" s_Feasts_next_feast [.non] ["self", "day", "name"] (spNxfX C Cc Cb Cf CM)) (f_l_kinds : Ca P w K mg base CX0 1 "_law_kinds" s_l_kinds [] ["_law_kept"] (spKinds2 CM CT)) :
    Ca P w K mg base CX0 16 "_law_deed" s_l_deed [] ["_law_book", "_law_way", "_law_a_name", "_law_fields"] (spDeed C Cc Cb Cf) := by
  refine ca0 (k := 15) D c_l_deed (fun vs H Q E h => ?_) fun f cdv A outer s H vs Q E hr h => ?_
  · obtain ⟨b, p, fl, way, x, m, y, o, k, fs, rfl, _⟩ := h
    rfl
  · obtain ⟨b, p, fl, way, x, m, y, o, k, fs, rfl, hb, hx, q⟩ := h
    have XC := T.xc
    have XC' := T'.xc
    have h_NoShare := T.m0
    have h_NoCalendar := T.m1
    have h_NoDate := T.m2
    have h_NoWheel := T.m3
    have h_NoName := T.m4
    have h_NoDay := T.m5
    have h_Taken := T.m6
    have h_NoText := T.m7
    have h_NoNote := T.m8
    have h_NoDeed := T.m9
    obtain ⟨dx, d, e1, e2⟩ := hb.ob
    refine ⟨_, (pss_cons (ps_set (i := 4) c_l_deed.nd rfl (.inl rfl) pe_non)
      (pss_cons (ps_set (i := 5) c_l_deed.nd rfl (.inl rfl) pe_non)
      (pss_cons (ps_try_keep (i := 6) (j := 4) rfl rfl rfl c_l_deed.nd rfl rfl rfl rfl (.cons rfl rfl h_NoCalendar (.cons rfl rfl h_NoDate (.cons rfl rfl h_NoDay (.cons rfl rfl h_NoDeed (.cons rfl rfl h_NoName (.cons rfl rfl h_NoNote (.cons rfl rfl h_NoShare (.cons rfl rfl h_NoText (.cons rfl rfl h_NoWheel (.cons rfl rfl h_Taken .nil)))))))))) (by show 10 ≤ 100; decide) (hb := fun W pn xe tk po =>
      (pss_one (ps_if (pt_cmpR op_eq (pv 1) pe_int (nomark _)) (pss_one (ps_set (i := 5) c_l_deed.nd rfl (.inl rfl) (pe_cmKS f_add kb_add_feast hr (by decide) tk (pv 0) (pk_cons (pe_ciK f_Feast kb_Feast_3_when (by decide) hr (by decide) pass0 rfl (pa_cons (pv 2) (pa_cons (pe_ix (ix_tupK (K := K) rfl) (pv 3) pe_int (fun _ _ => rfl)) (pa_cons (pe_ix (ix_tupK (K := K) rfl) (pv 3) pe_int (fun _ _ => rfl)) pa_nil))) (pk_cons (pe_ix (ix_tupK (K := K) rfl) (pv 3) pe_int (fun _ _ => rfl)) pk_nil)) pk_nil)))) (pss_one (ps_if (pt_cmpR op_eq (pv 1) pe_int (nomark _)) (pss_one (ps_set (i := 5) c_l_deed.nd rfl (.inl rfl) (pe_cmKS f_drop kb_drop_name hr (by decide) tk (pv 0) (pk_cons (pv 2) pk_nil)))) (pss_one (ps_set (i := 5) c_l_deed.nd rfl (.inl rfl) (pe_cmDKS f_next_feast kd_next_feast_1_name (by decide) hr (by decide) tk (pv 0) (pa_cons (pe_ix (ix_listK (K := K) rfl) (pv 3) pe_int (fun _ _ => rfl)) pa_nil) (pk_cons (pv 2) pk_nil))))))))))
      (pss_cons (ps_if (pt_cmp (pc_isN (pv 4))) (pss_one (ps_ret (pe_lst (pa_cons pe_str (pa_cons (pv 5) pa_nil))))) pss_nil)
      (pss_cons (ps_set (i := 7) c_l_deed.nd rfl (.inl rfl) (pe_ca f_l_kinds b_l_kinds hr (by decide) pass0 rfl (pa_cons (pv 4) pa_nil)))
      (pss_cons (ps_if (PW.pt (pw_or (pt_cmpR op_ne (pe_bm PySem.F.plainAttrs_list PySem.F.slot_list_count PySem.F.type_list_count (mt_countG eqB_flat (hr.mono (by decide))) (pv 7) (pa_cons pe_bl pa_nil)) pe_int (nomark _)) (pw_or1 (PW.pt (pw_and (pt_val (pe_ix ix_list (pv 7) pe_int (fun _ _ => rfl))) (pw_and1 (pt_not (pt_val (pe_callB (call_isK XC') rfl g_isinstance (by decide +kernel) (pa_cons (pv 4) (pa_cons (pe_bltn (v := .ty "ValueError") rfl g_ValueError (by decide +kernel) rfl) pa_nil))))))))))) (pss_one (ps_ret (pe_lst (pa_cons pe_str (pa_cons pe_non pa_nil))))) pss_nil)
      (pss_cons (ps_if (PW.pt (pw_and (pt_val (pe_ix ix_list (pv 7) pe_int (fun _ _ => rfl))) (pw_and1 (pt_val (pe_callB (call_isK XC) rfl g_isinstance (by decide +kernel) (pa_cons (pv 4) (pa_cons (pe_bltn (v := .ty "KeyError") rfl g_KeyError (by decide +kernel) rfl) pa_nil))))))) (pss_one (ps_ret (pe_lst (pa_cons pe_str (pa_cons (pe_kf XC n_name (pv 4)) pa_nil))))) pss_nil)
      (pss_cons (ps_if (pt_val (pe_ix ix_list (pv 7) pe_int (fun _ _ => rfl))) (pss_one (ps_ret (pe_lst (pa_cons pe_str (pa_cons (pe_kf XC' n_nameT (pv 4)) pa_nil))))) pss_nil)
      (pss_one (ps_ret (pe_lst (pa_cons pe_str (pa_cons pe_non pa_nil))))))))))))), ?_⟩
    rcases q with ⟨rfl, z, rfl, efl, zz, hz, q1, q2⟩ | ⟨rfl, q1, q2⟩ | ⟨rfl, dd, efl, zd, q1, q2⟩
    · refine ⟨_, rfl, rfl, _, rfl, iteT ?_⟩
      refine ⟨_, rfl, b, dx, _, rfl, e1, fb_no _ _ (by decide +kernel) (by decide +kernel), ?_⟩
      refine ⟨_, rfl, _, rfl, fl, _, _, _, rfl, rfl, SqT.of efl, rfl, _, rfl, fl, _, _, _, rfl, rfl, SqT.of efl, rfl, _, rfl, fl, _, _, _, rfl, rfl, SqT.of efl, rfl, rfl, rfl, made_fe fun pf dxf H1 npf s1 epf => ?_⟩
      refine ⟨rfl, b, p, pf, m, y, o, k, fs, z, rfl, hb.same s1, ⟨dxf, epf⟩, zz, hx, hz, fun hn H2 kp hb2 => ?_, fun hq => ?_⟩
      · refine ⟨_, rfl, _, rfl, iteT ⟨_, rfl, ln _, fun r nr => ?_⟩⟩
        have s3 := Same.new (o := .lst [.str "told", .non]) nr
        exact q1 hn pf r _ (fun c o' oc e => s3 _ _ (kp _ _ (oc.of e1 (s1 _ _ e1)) (s1 _ _ e))) (hb2.same s3) upd_same
      · skip
        intro e' H2 ne' s2 he'
        refine ⟨XA', fun a' na' => ?_⟩
        have s3 := Same.new (o := KX a' (.ref CT) (some e')) na'
        have ka := upd_same (H := H2) (a := a') (o := KX a' (.ref CT) (some e'))
        have ke := s3 _ _ he'
        have s13 := s1.trans (s2.trans s3)
        generalize L2.upd H2 a' _ = H3 at *
        refine ⟨_, rfl, _, rfl, iteF ?_⟩
        refine ⟨_, rfl, .inr ⟨a', e', _, rfl, ka, ke, fun ls H4 s4 el => ?_⟩⟩
        refine ⟨_, rfl, .inl ⟨rfl, _, SqL.of el⟩, ls, _, .bl true, fun j => decide (j = 6), rfl, rfl, el, ?_, fun H5 s5 => ?_⟩
        · intro j z hj H5 s5
          match j, hj with
          | 0, hj => cases hj; exact ⟨rfl, rfl, rfl⟩
          | 1, hj => cases hj; exact ⟨rfl, rfl, rfl⟩
          | 2, hj => cases hj; exact ⟨rfl, rfl, rfl⟩
          | 3, hj => cases hj; exact ⟨rfl, rfl, rfl⟩
          | 4, hj => cases hj; exact ⟨rfl, rfl, rfl⟩
          | 5, hj => cases hj; exact ⟨rfl, rfl, rfl⟩
          | 6, hj => cases hj; exact ⟨rfl, rfl, rfl⟩
          | 7, hj => cases hj; exact ⟨rfl, rfl, rfl⟩
          | 8, hj => cases hj; exact ⟨rfl, rfl, rfl⟩
          | 9, hj => cases hj; exact ⟨rfl, rfl, rfl⟩
          | j + 10, hj => simp at hj
        have s45 : Same H4 H5 := s5
        have el5 := s45 _ _ el
        have ka5 := s45 _ _ (s4 _ _ ka)
        have ke5 := s45 _ _ (s4 _ _ ke)
        have s15 := s13.trans (s4.trans s45)
        refine ⟨rfl, _, rfl, ?_⟩
        refine no' rfl ⟨_, rfl, ls, _, _, _, rfl, rfl, SqL.of el5, rfl, _, rfl, yes' rfl ?_⟩
        refine ⟨_, rfl, a', e', _, _, _, _, rfl, ka5, ke5, .ty _, T'.t2, _, rfl, no' rfl ?_⟩
        refine ⟨_, rfl, ls, _, _, _, rfl, rfl, SqL.of el5, rfl, _, rfl, no' rfl ?_⟩
        refine ⟨_, rfl, ls, _, _, _, rfl, rfl, SqL.of el5, rfl, _, rfl, yes' rfl ?_⟩
        refine ⟨_, rfl, a', e', _, _, rfl, ka5, ke5, rfl, ln _, fun r nr => ?_⟩
        exact q2 hq r _ (s15.trans (Same.new nr)) upd_same
    · refine ⟨_, rfl, rfl, _, rfl, iteF ⟨_, rfl, rfl, _, rfl, iteT ?_⟩⟩
      refine ⟨_, rfl, b, dx, _, rfl, e1, fb_no _ _ (by decide +kernel) (by decide +kernel), ?_⟩
      refine ⟨_, rfl, rfl, b, p, x, m, y, o, k, fs, rfl, hb, hx, fun hq H2 kp hb2 => ?_, fun hn => ?_⟩
      · refine ⟨_, rfl, _, rfl, iteT ⟨_, rfl, ln _, fun r nr => ?_⟩⟩
        have s3 := Same.new (o := .lst [.str "told", .non]) nr
        exact q1 hq r _ (fun c o' oc e => s3 _ _ (kp _ _ oc e)) (hb2.same s3) upd_same
      · skip
        intro e' H2 ne' s2 he'
        refine ⟨XA, fun a' na' => ?_⟩
        have s3 := Same.new (o := KX a' (.ref CM) (some e')) na'
        have ka := upd_same (H := H2) (a := a') (o := KX a' (.ref CM) (some e'))
        have ke := s3 _ _ he'
        have s13 := s2.trans s3
        generalize L2.upd H2 a' _ = H3 at *
        refine ⟨_, rfl, _, rfl, iteF ?_⟩
        refine ⟨_, rfl, .inl ⟨a', e', _, rfl, ka, ke, fun ls H4 s4 el => ?_⟩⟩
        refine ⟨_, rfl, .inl ⟨rfl, _, SqL.of el⟩, ls, _, .bl true, fun j => decide (j = 4), rfl, rfl, el, ?_, fun H5 s5 => ?_⟩
        · intro j z hj H5 s5
          match j, hj with
          | 0, hj => cases hj; exact ⟨rfl, rfl, rfl⟩
          | 1, hj => cases hj; exact ⟨rfl, rfl, rfl⟩
          | 2, hj => cases hj; exact ⟨rfl, rfl, rfl⟩
          | 3, hj => cases hj; exact ⟨rfl, rfl, rfl⟩
          | 4, hj => cases hj; exact ⟨rfl, rfl, rfl⟩
          | 5, hj => cases hj; exact ⟨rfl, rfl, rfl⟩
          | 6, hj => cases hj; exact ⟨rfl, rfl, rfl⟩
          | 7, hj => cases hj; exact ⟨rfl, rfl, rfl⟩
          | 8, hj => cases hj; exact ⟨rfl, rfl, rfl⟩
          | 9, hj => cases hj; exact ⟨rfl, rfl, rfl⟩
          | j + 10, hj => simp at hj
        have s45 : Same H4 H5 := s5
        have el5 := s45 _ _ el
        have ka5 := s45 _ _ (s4 _ _ ka)
        have ke5 := s45 _ _ (s4 _ _ ke)
        have s15 := s13.trans (s4.trans s45)
        refine ⟨rfl, _, rfl, ?_⟩
        refine no' rfl ⟨_, rfl, ls, _, _, _, rfl, rfl, SqL.of el5, rfl, _, rfl, no' rfl ?_⟩
        refine ⟨_, rfl, ls, _, _, _, rfl, rfl, SqL.of el5, rfl, _, rfl, yes' rfl ?_⟩
        refine ⟨_, rfl, a', e', _, _, _, _, rfl, ka5, ke5, .ty _, T.t3, _, rfl, yes' rfl ?_⟩
        refine ⟨_, rfl, a', e', _, _, rfl, ka5, ke5, rfl, ln _, fun r nr => ?_⟩
        exact q2 hn r _ (s15.trans (Same.new nr)) upd_same
    · refine ⟨_, rfl, rfl, _, rfl, iteF ⟨_, rfl, rfl, _, rfl, iteF ?_⟩⟩
      refine ⟨_, rfl, b, dx, _, rfl, e1, fb_no _ _ (by decide +kernel) (by decide +kernel), ?_⟩
      refine ⟨_, rfl, fl, _, _, _, rfl, rfl, SqL.of efl, rfl, _, rfl, rfl, rfl, ?_⟩
      refine ⟨b, p, dd, some x, m, y, o, k, fs, rfl, hb, zd, fun s e => by cases e; exact hx, fun hq => ⟨fun e H1 s1 => ?_, fun z zs e t H1 s1 dt => ?_⟩, fun s e hn => ?_⟩
      · refine ⟨_, rfl, _, rfl, iteT ⟨_, rfl, ln _, fun r nr => ?_⟩⟩
        exact q1 (hq x rfl) r _ _ (s1.trans (Same.new nr)) (.inl ⟨e, rfl⟩) upd_same
      · refine ⟨_, rfl, _, rfl, iteT ⟨_, rfl, ln _, fun r nr => ?_⟩⟩
        have s2 := Same.new (o := .lst [.str "told", .ref t]) nr
        exact q1 (hq x rfl) r _ _ (s1.trans s2) (.inr ⟨z, zs, t, e, rfl, dt.same fun t xs e => s2 _ _ e⟩) upd_same
      · cases e
        intro e' H2 ne' s2 he'
        refine ⟨XA, fun a' na' => ?_⟩
        have s3 := Same.new (o := KX a' (.ref CM) (some e')) na'
        have ka := upd_same (H := H2) (a := a') (o := KX a' (.ref CM) (some e'))
        have ke := s3 _ _ he'
        have s13 := s2.trans s3
        generalize L2.upd H2 a' _ = H3 at *
        refine ⟨_, rfl, _, rfl, iteF ?_⟩
        refine ⟨_, rfl, .inl ⟨a', e', _, rfl, ka, ke, fun ls H4 s4 el => ?_⟩⟩
        refine ⟨_, rfl, .inl ⟨rfl, _, SqL.of el⟩, ls, _, .bl true, fun j => decide (j = 4), rfl, rfl, el, ?_, fun H5 s5 => ?_⟩
        · intro j z hj H5 s5
          match j, hj with
          | 0, hj => cases hj; exact ⟨rfl, rfl, rfl⟩
          | 1, hj => cases hj; exact ⟨rfl, rfl, rfl⟩
          | 2, hj => cases hj; exact ⟨rfl, rfl, rfl⟩
          | 3, hj => cases hj; exact ⟨rfl, rfl, rfl⟩
          | 4, hj => cases hj; exact ⟨rfl, rfl, rfl⟩
          | 5, hj => cases hj; exact ⟨rfl, rfl, rfl⟩
          | 6, hj => cases hj; exact ⟨rfl, rfl, rfl⟩
          | 7, hj => cases hj; exact ⟨rfl, rfl, rfl⟩
          | 8, hj => cases hj; exact ⟨rfl, rfl, rfl⟩
          | 9, hj => cases hj; exact ⟨rfl, rfl, rfl⟩
          | j + 10, hj => simp at hj
        have s45 : Same H4 H5 := s5
        have el5 := s45 _ _ el
        have ka5 := s45 _ _ (s4 _ _ ka)
        have ke5 := s45 _ _ (s4 _ _ ke)
        have s15 := s13.trans (s4.trans s45)
        refine ⟨rfl, _, rfl, ?_⟩
        refine no' rfl ⟨_, rfl, ls, _, _, _, rfl, rfl, SqL.of el5, rfl, _, rfl, no' rfl ?_⟩
        refine ⟨_, rfl, ls, _, _, _, rfl, rfl, SqL.of el5, rfl, _, rfl, yes' rfl ?_⟩
        refine ⟨_, rfl, a', e', _, _, _, _, rfl, ka5, ke5, .ty _, T.t3, _, rfl, yes' rfl ?_⟩
        refine ⟨_, rfl, a', e', _, _, rfl, ka5, ke5, rfl, ln _, fun r nr => ?_⟩
        exact q2 hn r _ (s15.trans (Same.new nr)) upd_same
end
/-! ### days of a year, and the feasts in it -/
/-- a feast as the law draws it -/
structure FsG (f : Fst) : Prop where
  n1 : 1 ≤ f.nr
  n2 : f.nr ≤ 12
  d1 : 1 ≤ f.dy
  ok : PyData.strOk f.nm = true
section
variable {m y o k : Rat} {a : Int}
theorem st_mono {m y o : Rat} (f : Fit m y) {i j : Int} (h : i ≤ j) : stF m o i ≤ stF m o j := by
  refine (st_le f.pos).mpr ?_
  rw [ma_st' f.one]
  exact h
theorem fd_st (m y o k : Rat) (a : Int) : fdF m y o k a = stF m o (mwF m y o k (12 * a)) := rfl
theorem fd_lt (f : Fit m y) (a : Int) : fdF m y o k a < fdF m y o k (a + 1) := by
  rw [fd_st, fd_st]
  have h := mw_lt (o := o) (k := k) f (show 12 * a < 12 * (a + 1) by omega)
  have h1 := st_step (o := o) f.one (mwF m y o k (12 * a))
  have h2 := st_mono (o := o) f (show mwF m y o k (12 * a) + 1 ≤ mwF m y o k (12 * (a + 1)) by omega)
  omega
/-- the year of a day -/
theorem yr_of (f : Fit m y) {x : Int} (h1 : fdF m y o k a ≤ x) (h2 : x < fdF m y o k (a + 1)) : dtY m y o k x = a := by
  rw [fd_st] at h1 h2
  have a1 := (st_le f.pos).mp h1
  have a2 : maF m o x < mwF m y o k (12 * (a + 1)) := by
    have : ¬ mwF m y o k (12 * (a + 1)) ≤ maF m o x := fun z => by
      have := (st_le (o := o) f.pos).mpr z
      omega
    omega
  obtain ⟨p, e, h⟩ := year_names (o := o) (k := k) f a
  have hl := h.last
  have he := h.e1
  have hi : (maF m o x - mwF m y o k (12 * a)).toNat < 12 + e := by
    rw [show 12 * (a + 1) = 12 * a + 12 by omega] at a2
    omega
  have nm := h.name hi
  rw [show mwF m y o k (12 * a) + ((maF m o x - mwF m y o k (12 * a)).toNat : Int) = maF m o x by omega] at nm
  unfold nmL at nm
  injection nm with n1 _
  injection n1 with n1
theorem has_mw (f : Fit m y) (j : Int) : hasM m y o k (mwF m y o k j) := by
  have h := mw_in (o := o) (k := k) f j
  unfold hasM
  rw [one_mark f h.1 h.2]
  exact h.2
theorem pm_mw (m y o k : Rat) (a b : Int) : pmF m y o k a b = mwF m y o k (12 * a + b - 1) := rfl
theorem mw_le (f : Fit m y) {i j : Int} (h : i ≤ j) : mwF m y o k i ≤ mwF m y o k j := by
  by_cases e : i = j
  · rw [e]
    exact Int.le_refl _
  · have := mw_lt (o := o) (k := k) f (show i < j by omega)
    omega
theorem pm_odd (f : Fit m y) {b : Int} (hb : b ≤ 12) (h : ¬ hasM m y o k (pmF m y o k a b + 1)) : pmF m y o k a b + 1 < mwF m y o k (12 * a + 12) := by
  rw [pm_mw] at h ⊢
  have h1 := mw_step (o := o) (k := k) f (12 * a + b - 1)
  rw [show 12 * a + b - 1 + 1 = 12 * a + b by omega] at h1
  have h2 := mw_le (o := o) (k := k) f (show 12 * a + b ≤ 12 * a + 12 by omega)
  by_cases e : mwF m y o k (12 * a + b - 1) + 1 = mwF m y o k (12 * a + b)
  · exact absurd (by rw [e]; exact has_mw f _) h
  · omega
theorem fm_in (f : Fit m y) {b : Int} (h1 : 1 ≤ b) (h2 : b ≤ 12) (w : Str) : ∀ i ∈ fmL m y o k a b w, mwF m y o k (12 * a) ≤ i ∧ i < mwF m y o k (12 * a + 12) := by
  have p1 : mwF m y o k (12 * a) ≤ pmF m y o k a b := mw_le f (by omega)
  have p2 : pmF m y o k a b < mwF m y o k (12 * a + 12) := mw_lt f (by omega)
  have p3 := fun h => pm_odd (o := o) (k := k) (a := a) f h2 h
  intro i hi
  unfold fmL at hi
  split at hi
  · split at hi
    · rw [List.mem_singleton.mp hi]
      exact ⟨p1, p2⟩
    · rename_i hn
      rcases List.mem_cons.mp hi with rfl | hi
      · exact ⟨p1, p2⟩
      · rw [List.mem_singleton.mp hi]
        exact ⟨by omega, p3 hn⟩
  · rw [List.mem_singleton.mp hi]
    unfold miyF
    split
    · split
      · exact ⟨p1, p2⟩
      · rename_i hn
        exact ⟨by omega, p3 hn⟩
    · exact ⟨p1, p2⟩
theorem fdd_in (f : Fit m y) {d : Int} (hd : 1 ≤ d) (i : Int) : stF m o i ≤ fdd m o d i ∧ fdd m o d i < stF m o (i + 1) := by
  have h := st_step (o := o) f.one i
  unfold fdd heldF
  split <;> omega
theorem fdL_in (f : Fit m y) {z : Fst} (g : FsG z) : ∀ x ∈ fdL m y o k a z, fdF m y o k a ≤ x ∧ x < fdF m y o k (a + 1) := by
  intro x hx
  obtain ⟨i, hi, rfl⟩ := List.mem_map.mp hx
  obtain ⟨h1, h2⟩ := fm_in f g.n1 g.n2 _ i hi
  obtain ⟨h3, h4⟩ := fdd_in (o := o) f g.d1 i
  have h5 := st_mono (o := o) f h1
  have h6 := st_mono (o := o) f (show i + 1 ≤ mwF m y o k (12 * a + 12) by omega)
  rw [fd_st, fd_st, show 12 * (a + 1) = 12 * a + 12 by omega]
  omega
theorem fdL_rise (f : Fit m y) {z : Fst} (g : FsG z) : (fdL m y o k a z).Pairwise (· < ·) := by
  have h1 := fdd_in (o := o) f g.d1 (pmF m y o k a z.nr)
  have h2 := fdd_in (o := o) f g.d1 (pmF m y o k a z.nr + 1)
  unfold fdL fmL
  split
  · split
    · simp
    · simp only [List.map_cons, List.map_nil, List.pairwise_cons, List.mem_cons, List.not_mem_nil, or_false, forall_eq, false_implies, implies_true, List.Pairwise.nil, and_true]
      omega
  · simp
theorem fdL_ne (m y o k : Rat) (a : Int) (z : Fst) : fdL m y o k a z ≠ [] := by
  unfold fdL fmL
  split
  · split <;> simp
  · simp
end
/-! ### rows, sorted -/
theorem perm_sorted : ∀ {u v : List Int}, u.Perm v → u.Pairwise (· ≤ ·) → v.Pairwise (· ≤ ·) → u = v
  | [], v, h, _, _ => (List.nil_perm.mp h).symm
  | x :: u, [], h, _, _ => by have := h.length_eq; simp at this
  | x :: u, y :: v, h, hu, hv => by
    obtain ⟨u1, u2⟩ := List.pairwise_cons.mp hu
    obtain ⟨v1, v2⟩ := List.pairwise_cons.mp hv
    have e : x = y := by
      have a : y ≤ x := by
        rcases List.mem_cons.mp (h.mem_iff.mp (List.mem_cons_self (a := x) (l := u))) with e | hx
        · omega
        · exact v1 x hx
      have b : x ≤ y := by
        rcases List.mem_cons.mp (h.mem_iff.mpr (List.mem_cons_self (a := y) (l := v))) with e | hx
        · omega
        · exact u1 y hx
      omega
    subst e
    rw [perm_sorted ((List.perm_cons x).mp h) u2 v2]
section
variable {m y o k : Rat} {a : Int} {fs : List Fst}
theorem inY_sorted (m y o k : Rat) (a : Int) (fs : List Fst) : (inY m y o k a fs).Pairwise fun r s => leD r s = true := PySem.W.sort_pairwise leD_total _
theorem inY_mem {r : Int × Str} : r ∈ inY m y o k a fs ↔ r ∈ rawL m y o k a fs := List.mem_mergeSort
theorem raw_mem {r : Int × Str} : r ∈ rawL m y o k a fs ↔ ∃ z ∈ fs, r.1 ∈ fdL m y o k a z ∧ r.2 = z.nm := by
  unfold rawL
  rw [List.mem_flatMap]
  constructor
  · rintro ⟨z, hz, h⟩
    obtain ⟨d, hd, rfl⟩ := List.mem_map.mp h
    exact ⟨z, hz, hd, rfl⟩
  · rintro ⟨z, hz, hd, e⟩
    refine ⟨z, hz, List.mem_map.mpr ⟨r.1, hd, ?_⟩⟩
    rw [← e]
theorem inY_in (f : Fit m y) (g : ∀ z ∈ fs, FsG z) : ∀ r ∈ inY m y o k a fs, fdF m y o k a ≤ r.1 ∧ r.1 < fdF m y o k (a + 1) := fun r hr => by
  obtain ⟨z, hz, hd, _⟩ := raw_mem.mp (inY_mem.mp hr)
  exact fdL_in f (g z hz) _ hd
theorem inY_ok (g : ∀ z ∈ fs, FsG z) : ∀ r ∈ inY m y o k a fs, PyData.strOk r.2 = true := fun r hr => by
  obtain ⟨z, hz, _, e⟩ := raw_mem.mp (inY_mem.mp hr)
  rw [e]
  exact (g z hz).ok
theorem inY_ne (h : fs ≠ []) : inY m y o k a fs ≠ [] := by
  cases fs with
  | nil => exact absurd rfl h
  | cons z fs =>
    intro e
    cases hd : fdL m y o k a z with
    | nil => exact fdL_ne m y o k a z hd
    | cons d ds =>
      have : (d, z.nm) ∈ inY m y o k a (z :: fs) := inY_mem.mpr (raw_mem.mpr ⟨z, List.mem_cons_self, by rw [hd]; exact List.mem_cons_self, rfl⟩)
      rw [e] at this
      cases this
theorem raw_one : ∀ {fs : List Fst} {z : Fst}, z ∈ fs → (fs.map (·.nm)).Nodup → (rawL m y o k a fs).filter (fun r => decide (r.2 = z.nm)) = (fdL m y o k a z).map fun d => (d, z.nm)
  | x :: fs, z, hz, nd => by
    rw [List.map_cons, List.nodup_cons] at nd
    unfold rawL
    rw [List.flatMap_cons, List.filter_append]
    have all : ∀ (w : Fst), w.nm ≠ z.nm → ((fdL m y o k a w).map fun d => (d, w.nm)).filter (fun r => decide (r.2 = z.nm)) = [] := fun w hw => by
      rw [List.filter_eq_nil_iff]
      intro r hr
      obtain ⟨d, _, rfl⟩ := List.mem_map.mp hr
      simp [hw]
    rcases List.mem_cons.mp hz with rfl | hz
    · have e2 : (fs.flatMap fun f => (fdL m y o k a f).map fun d => (d, f.nm)).filter (fun r => decide (r.2 = z.nm)) = [] := by
        rw [List.filter_eq_nil_iff]
        intro r hr
        obtain ⟨w, hw, _, e⟩ := raw_mem.mp hr
        have : w.nm ≠ z.nm := fun e' => nd.1 (List.mem_map.mpr ⟨w, hw, e'⟩)
        simp [e, this]
      rw [e2, List.append_nil]
      rw [List.filter_eq_self]
      intro r hr
      obtain ⟨d, _, rfl⟩ := List.mem_map.mp hr
      simp
    · have hx : x.nm ≠ z.nm := fun e => nd.1 (List.mem_map.mpr ⟨z, hz, e.symm⟩)
      rw [all x hx, List.nil_append]
      exact raw_one hz nd.2
/-- of each name the days that feast_days tells -/
theorem inY_name (f : Fit m y) {z : Fst} (hz : z ∈ fs) (g : FsG z) (nd : (fs.map (·.nm)).Nodup) : ((inY m y o k a fs).filter fun r => decide (r.2 = z.nm)).map (·.1) = fdL m y o k a z := by
  refine perm_sorted ?_ ?_ ((fdL_rise f g).imp fun h => Int.le_of_lt h)
  · have h := (((List.mergeSort_perm (rawL m y o k a fs) leD).filter fun r => decide (r.2 = z.nm)).map (·.1))
    rw [raw_one hz nd, List.map_map] at h
    have e : (fdL m y o k a z).map ((fun r : Int × Str => r.1) ∘ fun d => (d, z.nm)) = fdL m y o k a z := (List.map_congr_left fun _ _ => rfl).trans (List.map_id _)
    rw [e] at h
    exact h
  · refine List.pairwise_map.mpr ?_
    exact ((inY_sorted m y o k a fs).filter _).imp fun h => leD_day h
end
/-- rows up to a day, and those of the day -/
theorem rows_step {L : List (Int × Str)} (h : L.Pairwise fun r s => leD r s = true) (x : Int) : L.filter (fun r => decide (r.1 < x + 1)) = L.filter (fun r => decide (r.1 < x)) ++ L.filter (fun r => decide (r.1 = x)) := by
  induction L with
  | nil => rfl
  | cons r L ih =>
    obtain ⟨h1, h2⟩ := List.pairwise_cons.mp h
    have ih := ih h2
    by_cases c1 : r.1 < x
    · rw [List.filter_cons, if_pos (by simp; omega), List.filter_cons, if_pos (by simp; omega), List.filter_cons, if_neg (by simp; omega), ih, List.cons_append]
    · have e : L.filter (fun r => decide (r.1 < x)) = [] := by
        rw [List.filter_eq_nil_iff]
        intro s hs
        have := leD_day (h1 s hs)
        simp
        omega
      rw [e, List.nil_append] at ih
      by_cases c2 : r.1 = x
      · rw [List.filter_cons, if_pos (by simp; omega), List.filter_cons, if_neg (by simp; omega), e, List.nil_append, List.filter_cons, if_pos (by simp [c2]), ih]
      · rw [List.filter_cons, if_neg (by simp; omega), List.filter_cons, if_neg (by simp; omega), e, List.nil_append, List.filter_cons, if_neg (by simp [c2]), ih]
section
variable {m y o k : Rat} {a : Int} {fs : List Fst}
theorem two_sorted (f : Fit m y) (g : ∀ z ∈ fs, FsG z) (b : Int) : (inY m y o k b fs ++ inY m y o k (b + 1) fs).Pairwise fun r s => leD r s = true := by
  rw [List.pairwise_append]
  refine ⟨inY_sorted _ _ _ _ _ _, inY_sorted _ _ _ _ _ _, fun r hr s hs => leD_of_day ?_⟩
  have h1 := inY_in f g r hr
  have h2 := inY_in f g s hs
  omega
theorem nx_sorted (f : Fit m y) (g : ∀ z ∈ fs, FsG z) {x : Int} {nm : Option Str} {z : Int × Str} {zs : List (Int × Str)} (e : nxL m y o k x nm fs = z :: zs) : PySem.W.minOf z zs = z := by
  have h : (nxL m y o k x nm fs).Pairwise fun r s => leD r s = true := (two_sorted f g _).filter _
  rw [e] at h
  exact minOf_sorted (List.pairwise_cons.mp h).1
/-- the next feast behind a day of the year -/
theorem nx_more (f : Fit m y) (g : ∀ z ∈ fs, FsG z) (hne : fs ≠ []) {d : Int} (h1 : fdF m y o k a ≤ d) (h2 : d < fdF m y o k (a + 1)) : ∃ z zs ys, nxL m y o k (d + 1) none fs = z :: zs ∧ (inY m y o k a fs).filter (fun r => decide (d < r.1)) ++ (inY m y o k (a + 1) fs).take 1 = z :: ys := by
  have hB : ∀ (x : Int), (fun r : Int × Str => decide (x ≤ r.1) && ((none : Option Str).isNone || decide (V.str r.2 = nmV none))) = fun r => decide (x ≤ r.1) := fun x => by
    funext r
    simp
  unfold nxL
  rw [hB, List.filter_append]
  have hlt := fd_lt (o := o) (k := k) f (a + 1)
  by_cases c : d + 1 < fdF m y o k (a + 1)
  · rw [yr_of f (show fdF m y o k a ≤ d + 1 by omega) c]
    have e2 : (inY m y o k (a + 1) fs).filter (fun r => decide (d + 1 ≤ r.1)) = inY m y o k (a + 1) fs := by
      rw [List.filter_eq_self]
      intro r hr
      have := (inY_in f g r hr).1
      simp
      omega
    have e1 : (fun r : Int × Str => decide (d < r.1)) = fun r => decide (d + 1 ≤ r.1) := by
      funext r
      exact decide_eq_decide.mpr ⟨fun h => by omega, fun h => by omega⟩
    rw [e1, e2]
    cases hW : inY m y o k (a + 1) fs with
    | nil => exact absurd hW (inY_ne hne)
    | cons w ws =>
      cases (inY m y o k a fs).filter (fun r => decide (d + 1 ≤ r.1)) with
      | nil => exact ⟨w, ws, [], rfl, rfl⟩
      | cons r rs => exact ⟨r, _, _, rfl, rfl⟩
  · have ed : d + 1 = fdF m y o k (a + 1) := by omega
    rw [yr_of (a := a + 1) f (by omega) (by omega)]
    have e1 : (inY m y o k a fs).filter (fun r => decide (d < r.1)) = [] := by
      rw [List.filter_eq_nil_iff]
      intro r hr
      have := (inY_in f g r hr).2
      simp
      omega
    have e2 : (inY m y o k (a + 1) fs).filter (fun r => decide (d + 1 ≤ r.1)) = inY m y o k (a + 1) fs := by
      rw [List.filter_eq_self]
      intro r hr
      have := (inY_in f g r hr).1
      simp
      omega
    rw [e1, e2, List.nil_append]
    cases hW : inY m y o k (a + 1) fs with
    | nil => exact absurd hW (inY_ne hne)
    | cons w ws => exact ⟨w, _, [], rfl, rfl⟩
/-- of a name, from the year's first day on -/
theorem nx_name (f : Fit m y) (g : ∀ z ∈ fs, FsG z) (nd : (fs.map (·.nm)).Nodup) {q : Fst} (hq : q ∈ fs) : ∃ d ds zs, fdL m y o k a q = d :: ds ∧ nxL m y o k (fdF m y o k a) (some q.nm) fs = (d, q.nm) :: zs := by
  have hB : (fun r : Int × Str => decide (fdF m y o k a ≤ r.1) && ((some q.nm).isNone || decide (V.str r.2 = nmV (some q.nm)))) = fun r => decide (fdF m y o k a ≤ r.1) && decide (r.2 = q.nm) := by
    funext r
    have : decide (V.str r.2 = nmV (some q.nm)) = decide (r.2 = q.nm) := decide_eq_decide.mpr ⟨fun h => V.str.inj h, fun h => by rw [h]; rfl⟩
    rw [this]
    rfl
  have hlt := fd_lt (o := o) (k := k) f a
  have e1 : (inY m y o k a fs).filter (fun r => decide (fdF m y o k a ≤ r.1) && decide (r.2 = q.nm)) = (inY m y o k a fs).filter (fun r => decide (r.2 = q.nm)) := by
    refine List.filter_congr fun r hr => ?_
    rw [decide_eq_true (inY_in f g r hr).1, Bool.true_and]
  have hn := inY_name (o := o) (k := k) (a := a) f hq (g q hq) nd
  unfold nxL
  rw [hB, yr_of f (Int.le_refl _) hlt, List.filter_append, e1]
  cases hF : (inY m y o k a fs).filter (fun r => decide (r.2 = q.nm)) with
  | nil =>
    rw [hF] at hn
    exact absurd hn.symm (fdL_ne m y o k a q)
  | cons r rs =>
    rw [hF, List.map_cons] at hn
    have hm : r ∈ (inY m y o k a fs).filter (fun r => decide (r.2 = q.nm)) := by
      rw [hF]
      exact List.mem_cons_self
    have h2 := of_decide_eq_true (List.mem_filter.mp hm).2
    refine ⟨r.1, rs.map (·.1), rs ++ (inY m y o k (a + 1) fs).filter (fun r => decide (fdF m y o k a ≤ r.1) && decide (r.2 = q.nm)), hn.symm, ?_⟩
    rw [List.cons_append]
    exact congrArg (· :: _) (Prod.ext rfl h2)
end
/-! ### rows and names as plain things; what stays -/
theorem lay_rows : ∀ {xs : List (Int × Str)}, (∀ r ∈ xs, PyData.strOk r.2 = true) → PyData.canLayAll0 (xs.map encD) = true
  | [], _ => rfl
  | r :: xs, h => by
    rw [List.map_cons]
    simp only [PyData.canLayAll0, encD, PyData.canLay0, h r List.mem_cons_self, lay_rows (xs := xs) fun s hs => h s (List.mem_cons_of_mem _ hs), Bool.and_true, Bool.and_self]
theorem dep_rows : ∀ xs : List (Int × Str), PyData.depthAll (xs.map encD) ≤ 1
  | [] => by simp [PyData.depthAll]
  | r :: xs => by
    have := dep_rows xs
    rw [List.map_cons]
    simp only [PyData.depthAll, encD, PyData.depth, Nat.max_def]
    repeat' split
    all_goals omega
theorem sh_rows {xs : List (Int × Str)} (h : ∀ r ∈ xs, PyData.strOk r.2 = true) : SeqAt.shaped (.list (xs.map encD)) = true := by
  show (PyData.canLay0 (.list (xs.map encD)) && decide (PyData.depth (.list (xs.map encD)) ≤ 64)) = true
  have hd := dep_rows xs
  rw [Bool.and_eq_true]
  refine ⟨by simp only [PyData.canLay0]; exact lay_rows h, decide_eq_true ?_⟩
  simp only [PyData.depth]
  omega
theorem eqv_rowsD {xs : List (Int × Str)} (h : ∀ r ∈ xs, PyData.strOk r.2 = true) : PyData.eqv (.list (xs.map encD)) (.list (xs.map encD)) = true := SeqAt.eqv_refl _ (by simp only [PyData.canLay0]; exact lay_rows h)
theorem sh_row {r : Int × Str} (h : PyData.strOk r.2 = true) : SeqAt.shaped (encD r) = true := by
  show (PyData.canLay0 (encD r) && decide (PyData.depth (encD r) ≤ 64)) = true
  have h2 : (encD r).depth = 1 := by
    unfold encD
    simp [PyData.depth, PyData.depthAll]
  rw [h2]
  unfold encD
  simp only [PyData.canLay0, PyData.canLayAll0, h, Bool.and_self, Bool.true_and]
  rfl
theorem eqv_rowD {r : Int × Str} (h : PyData.strOk r.2 = true) : PyData.eqv (encD r) (encD r) = true := SeqAt.eqv_refl _ (by unfold encD; simp only [PyData.canLay0, PyData.canLayAll0, h, Bool.and_self])
theorem Dr.kp {H H1 : Hp} {l : Addr} {n : Nat} (h : Dr H l n) (e : ∀ xs, H l = some (.lst xs) → H1 l = some (.lst xs)) : Dr H1 l n := by
  obtain ⟨d, k, f, e1, h1, h2⟩ := h
  exact ⟨d, k, f, e _ e1, h1, h2⟩
theorem Cl.kp {C Cc p : Addr} {H H1 : Hp} {m y o k : Rat} (h : Cl C Cc H p m y o k) (kpi : ∀ {a c dx : Addr} {fs : List (Str × V)}, H a = some (.ins c dx fs) → H1 a = some (.ins c dx fs)) : Cl C Cc H1 p m y o k := by
  obtain ⟨dx, a, b, c, d, e, ⟨x1, h1⟩, ⟨x2, h2⟩, ⟨x3, h3⟩, ⟨x4, h4⟩⟩ := h
  exact ⟨dx, a, b, c, d, kpi e, ⟨x1, kpi h1⟩, ⟨x2, kpi h2⟩, ⟨x3, kpi h3⟩, ⟨x4, kpi h4⟩⟩
/-- all that is no list stays -/
def NoL (H H1 : Hp) : Prop := ∀ c o, (∀ xs, o ≠ .lst xs) → H c = some o → H1 c = some o
theorem NoL.same {H H1 : Hp} (s : Same H H1) : NoL H H1 := fun c o _ e => s _ _ e
theorem NoL.but {H H1 : Hp} {l : Addr} {n : Nat} (b : But l H H1) (d : Dr H l n) : NoL H H1 := fun c o n e => by
  obtain ⟨_, _, _, el, _⟩ := d
  refine b c o (fun z => ?_) e
  rw [z, el] at e
  exact n _ (Option.some.inj e).symm
theorem NoL.upd {H : Hp} {l : Addr} {xs ys : List V} (e : H l = some (.lst xs)) : NoL H (L2.upd H l (.lst ys)) := fun c o n e' => by
  refine (upd_ne (fun z => ?_)).trans e'
  rw [z, e] at e'
  exact n _ (Option.some.inj e').symm
theorem Bk.noL {C Cc Cb Cf b p : Addr} {H H1 : Hp} {m y o k : Rat} {fs : List (Addr × Fst)} (h : Bk C Cc Cb Cf H b p m y o k fs) (s : NoL H H1) : Bk C Cc Cb Cf H1 b p m y o k fs := by
  have kpi : ∀ {a c dx : Addr} {fs : List (Str × V)}, H a = some (.ins c dx fs) → H1 a = some (.ins c dx fs) := fun e => s _ _ (fun _ z => nomatch z) e
  obtain ⟨dx, d, e1, e2⟩ := h.ob
  exact ⟨⟨dx, d, kpi e1, s _ _ (fun _ z => nomatch z) e2⟩, h.c.kp kpi, h.g, fun q hq => by
    obtain ⟨dxq, e⟩ := h.fe q hq
    exact ⟨dxq, kpi e⟩, h.sz, h.z⟩
theorem made_fb {Cb : Addr} {H : Hp} {R : Addr → Hp → Prop} {E : XK} {p : Addr} (h : ∀ b dx d H', H b = none → Same H H' → H' b = some (.ins Cb dx (fbs p d)) → H' d = some (.dK []) → R b H') :
    ∀ b dx, H b = none → H dx = none → dx ≠ b → spFbI Cb [.ref b, .ref p] (L2.upd (L2.upd H dx (.own b)) b (.ins Cb dx [])) (fun v H2 => v = .non ∧ R b H2) E := by
  intro b dx hb hd ne
  have s0 : Same H (L2.upd (L2.upd H dx (.own b)) b (.ins Cb dx [])) := Same.upd (Same.new hd) (by rw [upd_ne ne.symm]; exact hb)
  refine ⟨b, dx, p, rfl, upd_same, fun d H' b' nd e1 e2 => ⟨rfl, ?_⟩⟩
  exact h b dx d H' hb (fun c o e => b' c o (ne_of_none e hb) (s0 c o e)) e1 e2
theorem rp_all {z : Str} (hz : PyData.strOk z = true) (n : Nat) : PyData.strOk (rpS z n) = true := by
  have hz : z.cps.all (· < 0x110000) = true := hz
  have h : ∀ (n : Nat) (acc : Array Nat), acc.all (· < 0x110000) = true → ((List.replicate n z.cps).foldl (· ++ ·) acc).all (· < 0x110000) = true := by
    intro n
    induction n with
    | zero => exact fun acc h => h
    | succ n ih =>
      intro acc h
      rw [List.replicate_succ, List.foldl_cons]
      refine ih _ ?_
      rw [Array.all_append, h, hz]
      rfl
  exact h n #[] (by simp)
theorem cut1 (us : List V) : cutV us none (some 1) = us.take 1 := by
  unfold cutV
  have e1 : HT.sIx us.length 0 none = 0 := rfl
  have e2 : HT.sIx us.length us.length (some 1) = min 1 us.length := HT.sIx_nat us.length us.length 1
  rw [e1, e2]
  cases us with
  | nil => rfl
  | cons u us => simp
theorem Duos.take {H : Hp} {us : List V} {xs : List (Int × Str)} (h : Duos H us xs) (n : Nat) : Duos H (us.take n) (xs.take n) := ⟨by rw [List.length_take, List.length_take, h.1], fun j v hj => by
  rw [List.getElem?_take] at hj
  rw [List.getElem?_take]
  split at hj
  · rename_i c
    rw [if_pos c]
    exact h.2 j v hj
  · cases hj⟩
/-! ### one sorted list of texts -/
def leS (a b : Str) : Prop := a.cps.toList ≤ b.cps.toList
theorem leS_trans {a b c : Str} (h : leS a b) (k : leS b c) : leS a c := List.le_trans (α := Nat) h k
theorem leS_anti {a b : Str} (h : leS a b) (k : leS b a) : a = b := Str.ext' (Array.toList_inj.mp (List.le_antisymm (α := Nat) h k))
theorem leS_of {a b : Str} (h : ltCps b.cps.toList a.cps.toList = false) : leS a b := by
  rw [PyProof.Rows.ltCps_eq] at h
  exact List.not_lt.mp (of_decide_eq_false h)
theorem rising_pw : ∀ {l : List Str} {p : Str}, risingS p l = true → (p :: l).Pairwise leS
  | [], _, _ => by simp
  | x :: r, p, h => by
    unfold risingS at h
    rw [Bool.and_eq_true, Bool.not_eq_true'] at h
    have hp := leS_of h.1
    have ih := rising_pw h.2
    rw [List.pairwise_cons]
    refine ⟨fun z hz => ?_, ih⟩
    rcases List.mem_cons.mp hz with rfl | hz
    · exact hp
    · exact leS_trans hp ((List.pairwise_cons.mp ih).1 z hz)
theorem sorted_pw {l : List Str} (h : sortedS l = true) : l.Pairwise leS := by
  cases l with
  | nil => simp
  | cons x r => exact rising_pw h
theorem sorted_one {xs ys zs : List Str} (h : xs.Perm zs) (k : ys.Perm zs) (hx : xs.Pairwise leS) (hy : ys.Pairwise leS) : xs = ys :=
  List.Perm.eq_of_pairwise (fun _ _ _ _ h1 h2 => leS_anti h1 h2) hx hy (h.trans k.symm)
/-- texts as plain things -/
theorem lay_strs : ∀ {xs : List Str}, (∀ s ∈ xs, PyData.strOk s = true) → PyData.canLayAll0 (xs.map PyData.str) = true
  | [], _ => rfl
  | r :: xs, h => by
    rw [List.map_cons]
    simp only [PyData.canLayAll0, PyData.canLay0, h r List.mem_cons_self, lay_strs (xs := xs) fun s hs => h s (List.mem_cons_of_mem _ hs), Bool.and_self]
theorem dep_strs : ∀ xs : List Str, PyData.depthAll (xs.map PyData.str) = 0
  | [] => by simp [PyData.depthAll]
  | r :: xs => by
    have := dep_strs xs
    rw [List.map_cons]
    simp only [PyData.depthAll, PyData.depth, this, Nat.max_self]
theorem sh_strs {xs : List Str} (h : ∀ s ∈ xs, PyData.strOk s = true) : SeqAt.shaped (.list (xs.map PyData.str)) = true := by
  show (PyData.canLay0 (.list (xs.map PyData.str)) && decide (PyData.depth (.list (xs.map PyData.str)) ≤ 64)) = true
  have hd := dep_strs xs
  rw [Bool.and_eq_true]
  refine ⟨by simp only [PyData.canLay0]; exact lay_strs h, decide_eq_true ?_⟩
  simp only [PyData.depth]
  omega
theorem eqv_strs {xs : List Str} (h : ∀ s ∈ xs, PyData.strOk s = true) : PyData.eqv (.list (xs.map PyData.str)) (.list (xs.map PyData.str)) = true := SeqAt.eqv_refl _ (by simp only [PyData.canLay0]; exact lay_strs h)
/-- names beside rows -/
def nrD (xs : List Str) (rs : List (Int × Str)) : PyData := .list [.list (xs.map PyData.str), .list (rs.map encD)]
theorem lay_nr {xs : List Str} {rs : List (Int × Str)} (h : ∀ s ∈ xs, PyData.strOk s = true) (k : ∀ r ∈ rs, PyData.strOk r.2 = true) : PyData.canLay0 (nrD xs rs) = true := by
  unfold nrD
  simp only [PyData.canLay0, PyData.canLayAll0, lay_strs h, lay_rows k, Bool.and_self]
theorem sh_nr {xs : List Str} {rs : List (Int × Str)} (h : ∀ s ∈ xs, PyData.strOk s = true) (k : ∀ r ∈ rs, PyData.strOk r.2 = true) : SeqAt.shaped (nrD xs rs) = true := by
  show (PyData.canLay0 (nrD xs rs) && decide (PyData.depth (nrD xs rs) ≤ 64)) = true
  rw [lay_nr h k, Bool.true_and]
  have h1 := dep_strs xs
  have h2 := dep_rows rs
  refine decide_eq_true ?_
  unfold nrD
  simp only [PyData.depth, PyData.depthAll, Nat.max_def]
  repeat' split
  all_goals omega
theorem eqv_nr {xs : List Str} {rs : List (Int × Str)} (h : ∀ s ∈ xs, PyData.strOk s = true) (k : ∀ r ∈ rs, PyData.strOk r.2 = true) : PyData.eqv (nrD xs rs) (nrD xs rs) = true := SeqAt.eqv_refl _ (lay_nr h k)
theorem strs_dps {K : PySem.W.Frag} {H : Hp} : ∀ xs : List Str, DpAll K H (xs.map V.str) (xs.map PyData.str)
  | [] => .nil
  | x :: xs => .cons (.str x) (strs_dps xs)
/-- the names of a day stand in order -/
theorem leD_nm {x y : Int × Str} (h : leD x y = true) (e : x.1 = y.1) : leS x.2 y.2 := by
  rw [leD_lt, Bool.not_eq_true'] at h
  have h : (if y.1 = x.1 then PySem.W.DatumOrd.lt y.2 x.2 else decide (y.1 < x.1)) = false := h
  rw [if_pos e.symm] at h
  exact List.not_lt.mp (of_decide_eq_false h)
theorem onD_sorted (m y o k : Rat) (x : Int) (fs : List Fst) : (onD m y o k x fs).Pairwise leS := by
  unfold onD
  refine List.pairwise_map.mpr ?_
  refine List.Pairwise.imp_of_mem (fun {r s} hr hs h => leD_nm h ?_) ((PySem.W.sort_pairwise leD_total (rawL m y o k (dtY m y o k x) fs)).filter _)
  rw [of_decide_eq_true (List.mem_filter.mp hr).2, of_decide_eq_true (List.mem_filter.mp hs).2]
/-! ### what the law puts into a book and takes out -/
theorem abt_at (i : Int) : ∃ c : Nat, atI (("abcdefghijklmnopqrst" : Str).cps.toList) (i % 20) = some c ∧ c < 128 := by
  have h0 := Int.emod_nonneg i (show (20 : Int) ≠ 0 by decide)
  have h1 := Int.emod_lt_of_pos i (show (0 : Int) < 20 by decide)
  obtain ⟨n, hn⟩ : ∃ n : Nat, i % 20 = (n : Int) := ⟨(i % 20).toNat, by omega⟩
  have h2 : n < 20 := by omega
  rw [hn]
  have key : ∀ n : Nat, n < 20 → (atI (("abcdefghijklmnopqrst" : Str).cps.toList) (n : Int)).any (· < 128) = true := by decide +kernel
  have := key n h2
  cases hc : atI (("abcdefghijklmnopqrst" : Str).cps.toList) (n : Int) with
  | none => rw [hc] at this; cases this
  | some c => rw [hc] at this; exact ⟨c, rfl, by simpa using this⟩
theorem sh_ss {s t : Str} (h : PyData.strOk s = true) (k : PyData.strOk t = true) : SeqAt.shaped (.list [.str s, .str t]) = true := by
  show (PyData.canLay0 (.list [.str s, .str t]) && decide (PyData.depth (.list [.str s, .str t]) ≤ 64)) = true
  simp [PyData.canLay0, PyData.canLayAll0, PyData.depth, PyData.depthAll, h, k]
theorem sh_sn {s : Str} (h : PyData.strOk s = true) : SeqAt.shaped (.list [.str s, .none]) = true := by
  show (PyData.canLay0 (.list [.str s, .none]) && decide (PyData.depth (.list [.str s, .none]) ≤ 64)) = true
  simp [PyData.canLay0, PyData.canLayAll0, PyData.depth, PyData.depthAll, h]
theorem eqv_ss {s t : Str} (h : PyData.strOk s = true) (k : PyData.strOk t = true) : PyData.eqv (.list [.str s, .str t]) (.list [.str s, .str t]) = true := SeqAt.eqv_refl _ (by simp [PyData.canLay0, PyData.canLayAll0, h, k])
theorem eqv_sn {s : Str} (h : PyData.strOk s = true) : PyData.eqv (.list [.str s, .none]) (.list [.str s, .none]) = true := SeqAt.eqv_refl _ (by simp [PyData.canLay0, PyData.canLayAll0, h])
theorem okTold : PyData.strOk "told" = true := by decide +kernel
theorem okName : PyData.strOk "name" = true := by decide +kernel
theorem okTaken : PyData.strOk "taken" = true := by decide +kernel
/-- a feast as the law puts it in -/
structure FsO (z : Fst) : Prop where
  g : FsG z
  l : z.nm.length ≤ 2
  d2 : z.dy ≤ 1000000
theorem LK.noL {H H1 : Hp} {dk : Addr} {gs : List (Addr × Fst)} (h : LK H dk gs) (s : NoL H H1) : LK H1 dk gs :=
  ⟨s _ _ (fun _ z => nomatch z) h.ed, fun q hq => s _ _ (fun _ z => nomatch z) (h.tp q hq), h.nd, h.sz, h.z⟩
/-- a book, and the law's list of what stands in it -/
structure Two (C Cc Cb Cf : Addr) (H : Hp) (b p dk : Addr) (m y o k : Rat) (fs gs : List (Addr × Fst)) : Prop where
  bk : Bk C Cc Cb Cf H b p m y o k fs
  lk : LK H dk gs
  e : fs.map (·.2) = gs.map (·.2)
  o : ∀ q ∈ gs, FsO q.2
  of : Off Cb H b p dk
section
variable {C Cc Cb Cf b p dk : Addr} {H H1 : Hp} {m y o k : Rat} {fs gs : List (Addr × Fst)}
theorem Two.noL (h : Two C Cc Cb Cf H b p dk m y o k fs gs) (s : NoL H H1) : Two C Cc Cb Cf H1 b p dk m y o k fs gs := by
  obtain ⟨dx, d, e1, e2⟩ := h.bk.ob
  exact ⟨h.bk.noL s, h.lk.noL s, h.e, h.o, h.of.of e1 (s _ _ (fun _ z => nomatch z) e1)⟩
theorem Two.same (h : Two C Cc Cb Cf H b p dk m y o k fs gs) (s : Same H H1) : Two C Cc Cb Cf H1 b p dk m y o k fs gs := h.noL (.same s)
theorem Two.nms (h : Two C Cc Cb Cf H b p dk m y o k fs gs) : fs.map (fun q => q.2.nm) = gs.map (fun q => q.2.nm) := by
  have := congrArg (List.map fun z : Fst => z.nm) h.e
  rw [List.map_map, List.map_map] at this
  exact this
theorem Two.has (h : Two C Cc Cb Cf H b p dk m y o k fs gs) {x : Str} : (∃ q ∈ fs, q.2.nm = x) ↔ ∃ q ∈ gs, q.2.nm = x := by
  have e := h.nms
  constructor
  · rintro ⟨q, hq, hx⟩
    have : x ∈ fs.map (fun q => q.2.nm) := List.mem_map.mpr ⟨q, hq, hx⟩
    rw [e] at this
    exact List.mem_map.mp this
  · rintro ⟨q, hq, hx⟩
    have : x ∈ gs.map (fun q => q.2.nm) := List.mem_map.mpr ⟨q, hq, hx⟩
    rw [← e] at this
    exact List.mem_map.mp this
theorem Two.len (h : Two C Cc Cb Cf H b p dk m y o k fs gs) : fs.length = gs.length := by
  have := congrArg List.length h.e
  rw [List.length_map, List.length_map] at this
  exact this
theorem Bk.updO (h : Bk C Cc Cb Cf H b p m y o k fs) (of : Off Cb H b p dk) {kv : List (L2.Key × V)} (e : H dk = some (.dK kv)) (u : HO) : Bk C Cc Cb Cf (L2.upd H dk u) b p m y o k fs := by
  have kpi : ∀ {a c dx : Addr} {fs : List (Str × V)}, H a = some (.ins c dx fs) → (L2.upd H dk u) a = some (.ins c dx fs) := fun e' => (upd_ne (ne_of e' e (by intro zz; cases zz))).trans e'
  obtain ⟨dx, d, e1, e2⟩ := h.ob
  exact ⟨⟨dx, d, kpi e1, (upd_ne (of dx d e1).symm).trans e2⟩, h.c.kp kpi, h.g, fun q hq => by
    obtain ⟨dxq, e⟩ := h.fe q hq
    exact ⟨dxq, kpi e⟩, h.sz, h.z⟩
end
/-- a book and a list that may speak of something else -/
structure Tri (C Cc Cb Cf : Addr) (H : Hp) (b p dk : Addr) (m y o k : Rat) (fs gs : List (Addr × Fst)) : Prop where
  bk : Bk C Cc Cb Cf H b p m y o k fs
  lk : LK H dk gs
  of : Off Cb H b p dk
section
variable {C Cc Cb Cf b p dk : Addr} {H H1 : Hp} {m y o k : Rat} {fs gs : List (Addr × Fst)}
theorem Tri.noL (h : Tri C Cc Cb Cf H b p dk m y o k fs gs) (s : NoL H H1) : Tri C Cc Cb Cf H1 b p dk m y o k fs gs := by
  obtain ⟨dx, d, e1, e2⟩ := h.bk.ob
  exact ⟨h.bk.noL s, h.lk.noL s, h.of.of e1 (s _ _ (fun _ z => nomatch z) e1)⟩
theorem Two.tri (h : Two C Cc Cb Cf H b p dk m y o k fs gs) : Tri C Cc Cb Cf H b p dk m y o k fs gs := ⟨h.bk, h.lk, h.of⟩
/-- a deed done -/
theorem Tri.deed {H' : Hp} {fs' : List (Addr × Fst)} (h : Tri C Cc Cb Cf H1 b p dk m y o k fs gs) (kp : ∀ c o, Off Cb H1 b p c → H1 c = some o → H' c = some o) (bk' : Bk C Cc Cb Cf H' b p m y o k fs') (e : fs'.map (·.2) = gs.map (·.2)) (oo : ∀ q ∈ gs, FsO q.2) : Two C Cc Cb Cf H' b p dk m y o k fs' gs := by
  obtain ⟨dx, d, e1, e2⟩ := h.bk.ob
  exact ⟨bk', ⟨kp _ _ h.of h.lk.ed, fun q hq => kp _ _ (h.bk.off (h.lk.tp q hq) (fun _ z => nomatch z)) (h.lk.tp q hq), h.lk.nd, h.lk.sz, h.lk.z⟩, e, oo, h.of.of e1 (kp _ _ (h.bk.off e1 (fun _ z => nomatch z)) e1)⟩
theorem Dr.off {l : Addr} {n : Nat} {H' : Hp} (d : Dr H1 l n) (bk : Bk C Cc Cb Cf H1 b p m y o k fs) (kp : ∀ c o, Off Cb H1 b p c → H1 c = some o → H' c = some o) : Dr H' l n := d.kp fun xs e => kp _ _ (bk.off e (fun _ z => nomatch z)) e
theorem Two.put (h : Two C Cc Cb Cf H b p dk m y o k fs gs) {gs' : List (Addr × Fst)} (tp : ∀ q ∈ gs', H q.1 = some (.tup [.int q.2.nr, .int q.2.dy, .str q.2.wh])) (nd : (gs'.map fun q => q.2.nm).Nodup) (sz : ∀ q ∈ gs', Sz 900 q.2.nr) (z : gs'.length ≤ 50) :
    Tri C Cc Cb Cf (L2.upd H dk (.dK (fkv gs'))) b p dk m y o k fs gs' := by
  obtain ⟨dx, d, e1, e2⟩ := h.bk.ob
  exact ⟨h.bk.updO h.of h.lk.ed _, ⟨upd_same, fun q hq => (upd_ne (ne_of (tp q hq) h.lk.ed (by intro zz; cases zz))).trans (tp q hq), nd, sz, z⟩, h.of.of e1 ((upd_ne (ne_of e1 h.lk.ed (by intro zz; cases zz))).trans e1)⟩
theorem has_no {x : Str} {fs : List (Addr × Fst)} : (¬ ∃ q ∈ fs, q.2.nm = x) ↔ ∀ q ∈ fs, q.2.nm ≠ x := ⟨fun h q hq e => h ⟨q, hq, e⟩, fun h ⟨q, hq, e⟩ => h q hq e⟩
theorem dropF_map {x : Str} : ∀ {fs : List (Addr × Fst)}, (dropF x fs).map (·.2) = (fs.map (·.2)).filter fun z => !decide (z.nm = x)
  | [] => rfl
  | q :: fs => by
    have ih := dropF_map (x := x) (fs := fs)
    unfold dropF at *
    rw [List.map_cons, List.filter_cons, List.filter_cons]
    split
    · rw [List.map_cons, ih]
    · exact ih
theorem dropF_no {x : Str} {fs : List (Addr × Fst)} (h : ∀ q ∈ fs, q.2.nm ≠ x) : dropF x fs = fs := List.filter_eq_self.mpr fun q hq => by simp [h q hq]
end
/-- all stays but the law's draws, its list and the book's -/
def StB (Cb b p dk lw : Addr) (H H' : Hp) : Prop := ∀ c o, c ≠ lw → c ≠ dk → Off Cb H b p c → H c = some o → H' c = some o
theorem StB.mk' {Cb b p dk lw dx d : Addr} {H H4 H' : Hp} (e1 : H b = some (.ins Cb dx (fbs p d))) (nl : b ≠ lw) (nd : b ≠ dk) (st : ∀ c o, c ≠ lw → c ≠ dk → H c = some o → H4 c = some o) (kp : ∀ c o, Off Cb H4 b p c → H4 c = some o → H' c = some o) : StB Cb b p dk lw H H' :=
  fun c o n n' ho e => kp c o (ho.of e1 (st _ _ nl nd e1)) (st c o n n' e)
def spDone (C Cc Cb Cf : Addr) : Sp := fun vs H Q _ => ∃ (b p dk lw : Addr) (m y o k : Rat) (fs gs : List (Addr × Fst)) (c : Nat), vs = [.ref b, .ref dk, .ref lw] ∧ Two C Cc Cb Cf H b p dk m y o k fs gs ∧ gs.length < 45 ∧ Dr H lw c ∧ c ≤ 900000 ∧
  ∀ fs' gs' c' H', StB Cb b p dk lw H H' → Two C Cc Cb Cf H' b p dk m y o k fs' gs' → gs'.length ≤ gs.length + 1 → Dr H' lw c' → c' ≤ c + 2 → Q (.bl true) H'
section
variable {P : Program} {w : World} {K : PySem.W.Frag} {mg : Str → Option Value} {base : Heap} {C Cc Cb Cf : Addr}
theorem ok_ldone (D : Df K mg "_law_done" s_l_done []) (f_l_next : Ca P w K mg base CX0 1 "_law_next" s_l_next [] ["_law_draws_here"] spNext) (f_l_deed : Ca P w K mg base CX0 16 "_law_deed" s_l_deed [] ["_law_book", "_law_way", "_law_a_name", "_law_fields"] (spDeed C Cc Cb Cf)) : Ca P w K mg base CX0 17 "_law_done" s_l_done [] ["_law_book", "_law_kept", "_law_draws_here"] (spDone C Cc Cb Cf) := by
  refine ca0 (k := 16) D c_l_done (fun vs H Q E h => ?_) fun f cdv A outer s H vs Q E hr h => ?_
  · obtain ⟨b, p, dk, lw, m, y, o, k, fs, gs, c, rfl, _⟩ := h
    rfl
  · obtain ⟨b, p, dk, lw, m, y, o, k, fs, gs, c, rfl, ht, hl, hd, hc, q⟩ := h
    obtain ⟨dx, d, e1, e2⟩ := ht.bk.ob
    have nbl : b ≠ lw := fun w => by
      obtain ⟨_, _, _, e, _⟩ := hd
      rw [w, e] at e1
      cases e1
    have nbd : b ≠ dk := fun w => by
      rw [w, ht.lk.ed] at e1
      cases e1
    refine ⟨_, (pss_cons (ps_set (i := 3) c_l_done.nd rfl (.inl rfl) (pe_ca f_l_next b_l_next hr (by decide) pass0 rfl (pa_cons (pv 2) pa_nil)))
      (pss_cons (ps_set (i := 4) c_l_done.nd rfl (.inl rfl) (pe_op op_mulR (pe_ix ix_str pe_str (pe_op op_mod (pe_op op_fdiv (pv 3) pe_int) pe_int) (fun _ _ => rfl)) (pe_op op_add pe_int (pe_op op_mod (pe_op op_fdiv (pv 3) pe_int) pe_int))))
      (pss_cons (ps_if (pt_cmpR op_gt (pe_op op_mod (pv 3) pe_int) pe_int (nomark _)) (pss_cons (ps_set (i := 5) c_l_done.nd rfl (.inl rfl) (pe_lst (pa_cons pe_str (pa_cons pe_non pa_nil))))
      (pss_cons (ps_if (pt_cmp (pc_dnotin (hu1 hr) (pv 4) (pv 1))) (pss_one (ps_set (i := 5) c_l_done.nd rfl (.inl rfl) (pe_lst (pa_cons pe_str (pa_cons (pv 4) pa_nil))))) pss_nil)
      (pss_cons (ps_expr (pe_dpop2 (pv 1) (pv 4) pe_non ⟨rfl, rfl, rfl, rfl⟩))
      (pss_one (ps_ret (pe_cmpR (op_eqD hr.units) (pe_ca f_l_deed b_l_deed hr (by decide) pass0 rfl (pa_cons (pv 0) (pa_cons pe_int (pa_cons (pv 4) (pa_cons (pe_lst pa_nil) pa_nil))))) (pv 5) (nomark _))))))) pss_nil)
      (pss_cons (ps_set (i := 3) c_l_done.nd rfl (.inl rfl) (pe_ca f_l_next b_l_next hr (by decide) pass0 rfl (pa_cons (pv 2) pa_nil)))
      (pss_cons (ps_set (i := 6) c_l_done.nd rfl (.inl rfl) (pe_ix ix_list (pe_lst (pa_cons pe_str (pa_cons pe_str (pa_cons pe_str pa_nil)))) (pe_op op_mod (pe_op op_fdiv (pv 3) pe_int) pe_int) (fun _ _ => rfl)))
      (pss_cons (ps_set (i := 7) c_l_done.nd rfl (.inl rfl) (pe_tup (pa_cons (pe_op op_add pe_int (pe_op op_mod (pv 3) pe_int)) (pa_cons (pe_ix ix_list (pe_lst (pa_cons (pe_op op_add pe_int (pe_op op_mod (pe_op op_fdiv (pv 3) pe_int) pe_int)) (pa_cons pe_int (pa_cons (pe_op op_pow pe_int pe_int) pa_nil)))) (pe_op op_mod (pe_op op_fdiv (pv 3) pe_int) pe_int) (fun _ _ => rfl)) (pa_cons (pv 6) pa_nil)))))
      (pss_cons (ps_if (pt_cmp (pc_din (hu1 hr) (pv 4) (pv 1))) (pss_one (ps_ret (pe_cmpR (op_eqD hr.units) (pe_ca f_l_deed b_l_deed hr (by decide) pass0 rfl (pa_cons (pv 0) (pa_cons pe_int (pa_cons (pv 4) (pa_cons (pv 7) pa_nil))))) (pe_lst (pa_cons pe_str (pa_cons (pv 4) pa_nil))) (nomark _)))) pss_nil)
      (pss_cons (ps_dput (hu1 hr) (pv 1) (pv 4) (pv 7) rfl)
      (pss_one (ps_ret (pe_cmpR (op_eqD hr.units) (pe_ca f_l_deed b_l_deed hr (by decide) pass0 rfl (pa_cons (pv 0) (pa_cons pe_int (pa_cons (pv 4) (pa_cons (pv 7) pa_nil))))) (pe_lst (pa_cons pe_str (pa_cons pe_non pa_nil))) (nomark _)))))))))))), ?_⟩
    refine ⟨_, rfl, lw, _, rfl, hd, by omega, fun v H1 v0 v1 b1 d1 => ?_⟩
    have t1 := ht.noL (NoL.but b1 hd)
    obtain ⟨ch, hch, hc128⟩ := abt_at (v / 8)
    have m0 := Int.emod_nonneg (v / 160) (show (2 : Int) ≠ 0 by decide)
    have m1 := Int.emod_lt_of_pos (v / 160) (show (0 : Int) < 2 by decide)
    refine ⟨_, rfl, _, _, rfl, rfl, ⟨by decide, by decide⟩, _, _, rfl, rfl, md, _, _, ch, rfl, rfl, ?_, hch, ?_⟩
    · exact Nat.le_of_ble_eq_true (by decide +kernel)
    refine ⟨_, rfl, _, _, rfl, rfl, ⟨by decide, by decide⟩, _, _, rfl, rfl, md, _, _, rfl, rfl, ⟨#[ch]⟩, (1 + v / 160 % 2).toNat, rfl, (by show V.int _ = V.int _; congr 1; omega), by omega, (by show 1 ≤ 1000; decide), ?_⟩
    have hnm : (rpS ⟨#[ch]⟩ (1 + v / 160 % 2).toNat).length ≤ 2 := by
      rw [rp_len]
      show _ * 1 ≤ 2
      omega
    have hok : PyData.strOk (rpS ⟨#[ch]⟩ (1 + v / 160 % 2).toNat) = true := rp_all (by show (#[ch] : Array Nat).all (· < 0x110000) = true; simp; omega) _
    generalize rpS ⟨#[ch]⟩ (1 + v / 160 % 2).toNat = nm at *
    refine ⟨_, rfl, _, _, rfl, rfl, md, _, _, rfl, rfl, _, rfl, ?_⟩
    by_cases hw : v % 8 > 4
    · rw [decide_eq_true hw]
      refine iteT ?_
      refine ⟨ln _, fun l1 nl1 => ?_⟩
      have s2 := Same.new (o := .lst [.str "told", .non]) nl1
      have t2 := t1.same s2
      have d2 := d1.same s2 (Nat.le_refl _)
      have el1 := upd_same (H := H1) (a := l1) (o := .lst [.str "told", .non])
      change (fun HC : Hp => _) (L2.upd H1 l1 (.lst [.str "told", .non]))
      generalize L2.upd H1 l1 (.lst [.str "told", .non]) = H2 at *
      have st2 : ∀ c o, c ≠ lw → H c = some o → H2 c = some o := fun c o n e => s2 _ _ (b1 _ _ n e)
      refine ⟨_, rfl, _, rfl, dk, _, rfl, DGet.k (k := .inr nm) t2.lk.ed, ?_⟩
      by_cases hin : ∃ q ∈ gs, q.2.nm = nm
      · obtain ⟨vv, hvv⟩ := Option.isSome_iff_exists.mp (has_fkv hin)
        rw [hvv]
        refine ⟨_, rfl, iteF ?_⟩
        refine ⟨_, rfl, dk, rfl, .inl ⟨_, .inl t2.lk.ed⟩, _, rfl, fkv gs, .inr nm, t2.lk.ed, rfl, fun v' _ => ?_, fun hno => by rw [hvv] at hno; cases hno⟩
        rw [dropK_fkv]
        have t3 := t2.put (gs' := dropF nm gs) (fun q' hq => t2.lk.tp q' (dropF_mem hq)) (t2.lk.nd.sublist (List.Sublist.map _ List.filter_sublist)) (fun q' hq => t2.lk.sz q' (dropF_mem hq)) (Nat.le_trans (List.length_filter_le _ _) t2.lk.z)
        have ne3 : ∀ {c : Addr} {xs : List V}, H2 c = some (.lst xs) → c ≠ dk := fun e w => by rw [w, t2.lk.ed] at e; cases e
        have el3 := (upd_ne (o := .dK (fkv (dropF nm gs))) (ne3 el1)).trans el1
        have d3 := d2.kp (H1 := L2.upd H2 dk (.dK (fkv (dropF nm gs)))) fun xs e => (upd_ne (ne3 e)).trans e
        have st3 : ∀ c o, c ≠ lw → c ≠ dk → H c = some o → (L2.upd H2 dk (.dK (fkv (dropF nm gs)))) c = some o := fun c o n n' e => (upd_ne n').trans (st2 c o n e)
        generalize L2.upd H2 dk (.dK (fkv (dropF nm gs))) = H3 at *
        refine ⟨_, rfl, _, rfl, (by show 0 ≤ sizeLine; decide), fun pe npe => ?_⟩
        have s4 := Same.new (o := .lst []) npe
        have t4 := t3.noL (.same s4)
        have el4 := s4 _ _ el3
        have d4 := d3.same s4 (Nat.le_refl _)
        have st4 : ∀ c o, c ≠ lw → c ≠ dk → H c = some o → (L2.upd H3 pe (.lst [])) c = some o := fun c o n n' e => s4 _ _ (st3 c o n n' e)
        generalize L2.upd H3 pe (.lst []) = H4 at *
        refine ⟨b, p, pe, 1, nm, m, y, o, k, fs, rfl, t4.bk, by omega, .inr (.inl ⟨rfl, fun hq r H' kp hb er => ?_, fun hn => absurd (t2.has.mpr hin) (has_no.mpr hn)⟩)⟩
        have t5 := t4.deed kp hb (by rw [dropF_map, dropF_map, t2.e]) (fun q' hq => t2.o q' (dropF_mem hq))
        have el5 := kp _ _ (t4.bk.off el4 (fun _ z => nomatch z)) el4
        refine ⟨_, rfl, .list [.str "told", .none], .list [.str "told", .none], .lst (SqL.of er) (.cons (.str _) (.cons .non .nil)), .lst (SqL.of el5) (.cons (.str _) (.cons .non .nil)), sh_sn okTold, sh_sn okTold, ?_⟩
        rw [eqv_sn okTold]
        exact q _ _ _ _ (.mk' e1 nbl nbd st4 kp) t5 (Nat.le_trans (List.length_filter_le _ _) (by omega)) (d4.off t4.bk kp) (by omega)
      · have hno := has_no.mp hin
        rw [valV_fkv hno]
        refine ⟨_, rfl, iteT ?_⟩
        refine ⟨_, rfl, ln _, fun l2 nl2 => ?_⟩
        have s3 := Same.new (o := .lst [.str "name", .str nm]) nl2
        have t3 := t2.same s3
        have d3 := d2.same s3 (Nat.le_refl _)
        have el2 := upd_same (H := H2) (a := l2) (o := .lst [.str "name", .str nm])
        have st3 : ∀ c o, c ≠ lw → c ≠ dk → H c = some o → (L2.upd H2 l2 (.lst [.str "name", .str nm])) c = some o := fun c o n _ e => s3 _ _ (st2 c o n e)
        change (fun HC : Hp => _) (L2.upd H2 l2 (.lst [.str "name", .str nm]))
        generalize L2.upd H2 l2 (.lst [.str "name", .str nm]) = H3 at *
        refine ⟨_, rfl, dk, rfl, .inl ⟨_, .inl t3.lk.ed⟩, _, rfl, fkv gs, .inr nm, t3.lk.ed, rfl, fun v' hv => (by rw [valV_fkv hno] at hv; cases hv), fun _ => ?_⟩
        refine ⟨_, rfl, _, rfl, (by show 0 ≤ sizeLine; decide), fun pe npe => ?_⟩
        have s4 := Same.new (o := .lst []) npe
        have t4 := t3.same s4
        have el4 := s4 _ _ el2
        have d4 := d3.same s4 (Nat.le_refl _)
        have st4 : ∀ c o, c ≠ lw → c ≠ dk → H c = some o → (L2.upd H3 pe (.lst [])) c = some o := fun c o n n' e => s4 _ _ (st3 c o n n' e)
        generalize L2.upd H3 pe (.lst []) = H4 at *
        refine ⟨b, p, pe, 1, nm, m, y, o, k, fs, rfl, t4.bk, by omega, .inr (.inl ⟨rfl, fun hq => absurd (ht.has.mp hq) hin, fun hn r H' s5 er => ?_⟩)⟩
        have el5 := s5 _ _ el4
        refine ⟨_, rfl, .list [.str "name", .str nm], .list [.str "name", .str nm], .lst (SqL.of er) (.cons (.str _) (.cons (.str _) .nil)), .lst (SqL.of el5) (.cons (.str _) (.cons (.str _) .nil)), sh_ss okName hok, sh_ss okName hok, ?_⟩
        rw [eqv_ss okName hok]
        exact q _ _ _ _ (.mk' e1 nbl nbd st4 fun c o _ e => s5 _ _ e) (t4.same s5) (by omega) (d4.same s5 (Nat.le_refl _)) (by omega)
    · rw [decide_eq_false hw]
      refine iteF ?_
      refine ⟨_, rfl, lw, _, rfl, d1, by omega, fun u H2 u0 u1 b2 d2 => ?_⟩
      have t2 := t1.noL (NoL.but b2 d1)
      have st2 : ∀ c o, c ≠ lw → c ≠ dk → H c = some o → H2 c = some o := fun c o n _ e => b2 _ _ n (b1 _ _ n e)
      refine ⟨(by show 3 ≤ sizeLine; decide), fun pw npw => ?_⟩
      obtain ⟨w', hw'⟩ : ∃ w' : Str, atI [V.str "plain", V.str "odd", V.str "both"] (u / 1200 % 3) = some (.str w') := by
        have h0 := Int.emod_nonneg (u / 1200) (show (3 : Int) ≠ 0 by decide)
        have h1 := Int.emod_lt_of_pos (u / 1200) (show (0 : Int) < 3 by decide)
        have h : u / 1200 % 3 = 0 ∨ u / 1200 % 3 = 1 ∨ u / 1200 % 3 = 2 := by omega
        rcases h with e | e | e <;> rw [e] <;> exact ⟨_, rfl⟩
      have s3 := Same.new (o := .lst [V.str "plain", V.str "odd", V.str "both"]) npw
      have ew := upd_same (H := H2) (a := pw) (o := .lst [V.str "plain", V.str "odd", V.str "both"])
      have t3 := t2.same s3
      have d3 := d2.same s3 (Nat.le_refl _)
      have st3 : ∀ c o, c ≠ lw → c ≠ dk → H c = some o → (L2.upd H2 pw (.lst [V.str "plain", V.str "odd", V.str "both"])) c = some o := fun c o n n' e => s3 _ _ (st2 c o n n' e)
      change (fun HC : Hp => _) (L2.upd H2 pw (.lst [V.str "plain", V.str "odd", V.str "both"]))
      generalize L2.upd H2 pw (.lst [V.str "plain", V.str "odd", V.str "both"]) = H3 at *
      refine ⟨_, rfl, _, _, rfl, rfl, ⟨by decide, by decide⟩, _, _, rfl, rfl, md, pw, _, _, .str w', rfl, rfl, SqL.of ew, hw', ?_⟩
      refine ⟨_, rfl, _, _, rfl, rfl, md, _, _, rfl, rfl, _, rfl, _, _, rfl, rfl, ⟨by decide, by decide⟩, _, _, rfl, rfl, md, _, _, rfl, rfl, _, _, rfl, rfl, ⟨by decide, by decide, by decide⟩, (by show 3 ≤ sizeLine; decide), fun pd npd => ?_⟩
      obtain ⟨dy, hdy, dy1, dy2⟩ : ∃ dy : Int, atI [V.int (1 + u / 12 % 31), V.int 30, V.int ((10 : Int) ^ (6 : Int).toNat)] (u / 400 % 3) = some (.int dy) ∧ 1 ≤ dy ∧ dy ≤ 1000000 := by
        have h0 := Int.emod_nonneg (u / 400) (show (3 : Int) ≠ 0 by decide)
        have h1 := Int.emod_lt_of_pos (u / 400) (show (0 : Int) < 3 by decide)
        have k0 := Int.emod_nonneg (u / 12) (show (31 : Int) ≠ 0 by decide)
        have k1 := Int.emod_lt_of_pos (u / 12) (show (0 : Int) < 31 by decide)
        have h : u / 400 % 3 = 0 ∨ u / 400 % 3 = 1 ∨ u / 400 % 3 = 2 := by omega
        rcases h with e | e | e <;> rw [e]
        · exact ⟨_, rfl, by omega, by omega⟩
        · exact ⟨_, rfl, by decide, by decide⟩
        · exact ⟨_, rfl, by decide, by decide⟩
      refine ⟨_, rfl, _, _, rfl, rfl, ⟨by decide, by decide⟩, _, _, rfl, rfl, md, pd, _, _, .int dy, rfl, rfl, SqL.of upd_same, hdy, ?_⟩
      have s4 := Same.new (o := .lst [V.int (1 + u / 12 % 31), V.int 30, V.int ((10 : Int) ^ (6 : Int).toNat)]) npd
      have t4 := t3.same s4
      have d4 := d3.same s4 (Nat.le_refl _)
      have st4 : ∀ c o, c ≠ lw → c ≠ dk → H c = some o → (L2.upd H3 pd (.lst [V.int (1 + u / 12 % 31), V.int 30, V.int ((10 : Int) ^ (6 : Int).toNat)])) c = some o := fun c o n n' e => s4 _ _ (st3 c o n n' e)
      clear hdy
      change (fun HC : Hp => _) (L2.upd H3 pd (.lst [V.int (1 + u / 12 % 31), V.int 30, V.int ((10 : Int) ^ (6 : Int).toNat)]))
      generalize L2.upd H3 pd (.lst [V.int (1 + u / 12 % 31), V.int 30, V.int ((10 : Int) ^ (6 : Int).toNat)]) = H4 at *
      refine ⟨_, rfl, (by show 3 ≤ sizeLine; decide), fun tf ntf => ?_⟩
      have n0 := Int.emod_nonneg u (show (12 : Int) ≠ 0 by decide)
      have n1 := Int.emod_lt_of_pos u (show (0 : Int) < 12 by decide)
      have s5 := Same.new (o := .tup [V.int (1 + u % 12), V.int dy, V.str w']) ntf
      have etf := upd_same (H := H4) (a := tf) (o := .tup [V.int (1 + u % 12), V.int dy, V.str w'])
      have t5 := t4.same s5
      have d5 := d4.same s5 (Nat.le_refl _)
      have st5 : ∀ c o, c ≠ lw → c ≠ dk → H c = some o → (L2.upd H4 tf (.tup [V.int (1 + u % 12), V.int dy, V.str w'])) c = some o := fun c o n n' e => s5 _ _ (st4 c o n n' e)
      change (fun HC : Hp => _) (L2.upd H4 tf (.tup [V.int (1 + u % 12), V.int dy, V.str w']))
      generalize L2.upd H4 tf (.tup [V.int (1 + u % 12), V.int dy, V.str w']) = H5 at *
      have znr : Sz 900 (1 + u % 12) := (Sz.of (n := 5) (by omega) (by omega)).mono (by decide)
      refine ⟨_, rfl, _, rfl, dk, _, rfl, DGet.k (k := .inr nm) t5.lk.ed, ?_⟩
      by_cases hin : ∃ q ∈ gs, q.2.nm = nm
      · obtain ⟨vv, hvv⟩ := Option.isSome_iff_exists.mp (has_fkv hin)
        rw [hvv]
        refine ⟨_, rfl, iteT ?_⟩
        refine ⟨_, rfl, _, rfl, _, rfl, b, p, tf, 0, nm, m, y, o, k, fs, rfl, t5.bk, by omega, .inl ⟨rfl, ⟨nm, 1 + u % 12, dy, w'⟩, rfl, etf, znr, by have := t5.len; omega, fun hn => absurd (ht.has.mpr hin) (has_no.mpr hn), fun _ r H' s6 er => ?_⟩⟩
        refine ⟨_, rfl, ln _, fun l6 nl6 => ?_⟩
        have s7 := Same.new (o := .lst [.str "taken", .str nm]) nl6
        refine ⟨.list [.str "taken", .str nm], .list [.str "taken", .str nm], .lst (SqL.of (s7 _ _ er)) (.cons (.str _) (.cons (.str _) .nil)), .lst (SqL.of upd_same) (.cons (.str _) (.cons (.str _) .nil)), sh_ss okTaken hok, sh_ss okTaken hok, ?_⟩
        rw [eqv_ss okTaken hok]
        exact q _ _ _ _ (.mk' e1 nbl nbd st5 fun c o _ e => s7 _ _ (s6 _ _ e)) ((t5.same s6).same s7) (by omega) ((d5.same s6 (Nat.le_refl _)).same s7 (Nat.le_refl _)) (by omega)
      · have hno := has_no.mp hin
        have hno' := has_no.mp (fun h => hin (ht.has.mp h))
        rw [valV_fkv hno]
        refine ⟨_, rfl, iteF ?_⟩
        refine ⟨_, rfl, _, rfl, _, rfl, dk, _, rfl, DPut.k (k := .inr nm) t5.lk.ed ?_, ?_⟩
        · unfold fkv
          rw [List.length_map]
          exact Nat.lt_of_lt_of_le hl (by decide)
        rw [putK_fkv (z := ⟨nm, 1 + u % 12, dy, w'⟩) hno]
        have mem : ∀ {q' : Addr × Fst}, q' ∈ gs ++ [(tf, (⟨nm, 1 + u % 12, dy, w'⟩ : Fst))] → q' ∈ gs ∨ q' = (tf, ⟨nm, 1 + u % 12, dy, w'⟩) := fun h => by
          rcases List.mem_append.mp h with h | h
          · exact .inl h
          · exact .inr (List.mem_singleton.mp h)
        have t6 := t5.put (gs' := gs ++ [(tf, ⟨nm, 1 + u % 12, dy, w'⟩)]) (fun q' hq => by
          rcases mem hq with hq | rfl
          · exact t5.lk.tp q' hq
          · exact etf) (by
          rw [List.map_append, List.nodup_append]
          refine ⟨t5.lk.nd, by simp, fun a ha b hb e => ?_⟩
          obtain ⟨q', hq, rfl⟩ := List.mem_map.mp ha
          rw [List.map_cons, List.map_nil, List.mem_singleton] at hb
          exact hno q' hq (e.trans hb)) (fun q' hq => by
          rcases mem hq with hq | rfl
          · exact t5.lk.sz q' hq
          · exact znr) (by rw [List.length_append]; show _ + 1 ≤ 50; omega)
        have ne6 : ∀ {c : Addr} {xs : List V}, H5 c = some (.lst xs) → c ≠ dk := fun e w => by rw [w, t5.lk.ed] at e; cases e
        have d6 := d5.kp (H1 := L2.upd H5 dk (.dK (fkv (gs ++ [(tf, ⟨nm, 1 + u % 12, dy, w'⟩)])))) fun xs e => (upd_ne (ne6 e)).trans e
        have etf6 := (upd_ne (o := .dK (fkv (gs ++ [(tf, ⟨nm, 1 + u % 12, dy, w'⟩)]))) (ne_of etf t5.lk.ed (by intro zz; cases zz))).trans etf
        have st6 : ∀ c o, c ≠ lw → c ≠ dk → H c = some o → (L2.upd H5 dk (.dK (fkv (gs ++ [(tf, ⟨nm, 1 + u % 12, dy, w'⟩)])))) c = some o := fun c o n n' e => (upd_ne n').trans (st5 c o n n' e)
        generalize L2.upd H5 dk (.dK (fkv (gs ++ [(tf, ⟨nm, 1 + u % 12, dy, w'⟩)]))) = H6 at *
        refine ⟨_, rfl, _, rfl, _, rfl, b, p, tf, 0, nm, m, y, o, k, fs, rfl, t6.bk, by omega, .inl ⟨rfl, ⟨nm, 1 + u % 12, dy, w'⟩, rfl, etf6, znr, by have := t5.len; omega, fun _ pf r H' kp hb er => ?_, fun hq => absurd hq (has_no.mpr hno')⟩⟩
        refine ⟨ln _, fun l7 nl7 => ?_⟩
        have s7 := Same.new (o := .lst [.str "told", .non]) nl7
        have t7 := t6.deed kp hb (by rw [List.map_append, List.map_append, t5.e]; rfl) (fun q' hq => by
          rcases mem hq with hq | rfl
          · exact t5.o q' hq
          · exact ⟨⟨by show 1 ≤ 1 + u % 12; omega, by show 1 + u % 12 ≤ 12; omega, dy1, hok⟩, hnm, dy2⟩)
        refine ⟨.list [.str "told", .none], .list [.str "told", .none], .lst (SqL.of (s7 _ _ er)) (.cons (.str _) (.cons .non .nil)), .lst (SqL.of upd_same) (.cons (.str _) (.cons .non .nil)), sh_sn okTold, sh_sn okTold, ?_⟩
        rw [eqv_sn okTold]
        exact q _ _ _ _ (.mk' e1 nbl nbd st6 fun c o n e => s7 _ _ (kp _ _ n e)) (t7.same s7) (by rw [List.length_append]; exact Nat.le_refl _) ((d6.off t6.bk kp).same s7 (Nat.le_refl _)) (by omega)
end
/-! ### what is asked of a book: maths -/
theorem cut_mem {xs : List V} {lo hi : Option Int} {v : V} (h : v ∈ cutV xs lo hi) : v ∈ xs := List.mem_of_mem_drop (List.mem_of_mem_take h)
theorem one_same {x : Int} : ∀ {l : List Int}, l.Pairwise (· < ·) → (l.filter fun d => decide (d = x)).length ≤ 1
  | [], _ => by simp
  | d :: l, h => by
    obtain ⟨h1, h2⟩ := List.pairwise_cons.mp h
    rw [List.filter_cons]
    split
    · rename_i e
      have e := of_decide_eq_true e
      have : (l.filter fun d => decide (d = x)) = [] := by
        rw [List.filter_eq_nil_iff]
        intro z hz
        have := h1 z hz
        simp
        omega
      rw [this]
      exact Nat.le_refl _
    · exact one_same h2
theorem raw_day {m y o k : Rat} {a x : Int} (f : Fit m y) : ∀ {fs : List Fst}, (∀ z ∈ fs, FsG z) → ((rawL m y o k a fs).filter fun r => decide (r.1 = x)).length ≤ fs.length
  | [], _ => by simp [rawL]
  | z :: fs, g => by
    have ih := raw_day (o := o) (k := k) (a := a) (x := x) f (fs := fs) fun w hw => g w (List.mem_cons_of_mem _ hw)
    unfold rawL at ih ⊢
    rw [List.flatMap_cons, List.filter_append, List.length_append, List.filter_map, List.length_map, List.length_cons]
    have h1 := one_same (x := x) (fdL_rise (m := m) (y := y) (o := o) (k := k) (a := a) f (g z List.mem_cons_self))
    have e : ((fun r : Int × Str => decide (r.1 = x)) ∘ fun d => (d, z.nm)) = fun d => decide (d = x) := rfl
    rw [e]
    omega
theorem onD_len {m y o k : Rat} {x : Int} {fs : List Fst} (f : Fit m y) (g : ∀ z ∈ fs, FsG z) : (onD m y o k x fs).length ≤ fs.length := by
  unfold onD
  rw [List.length_map]
  have h := ((List.mergeSort_perm (rawL m y o k (dtY m y o k x) fs) leD).filter fun r => decide (r.1 = x)).length_eq
  unfold inY
  rw [h]
  exact raw_day f g
theorem onD_ok {m y o k : Rat} {x : Int} {fs : List Fst} (g : ∀ z ∈ fs, FsG z) : ∀ s ∈ onD m y o k x fs, PyData.strOk s = true := fun s hs => by
  obtain ⟨r, hr, rfl⟩ := List.mem_map.mp hs
  exact inY_ok g r (List.mem_filter.mp hr).1
/-- the first of the rows as a plain thing -/
def minD : List (Int × Str) → PyData
  | [] => .none
  | z :: _ => encD z
theorem MinV.same {H H1 : Hp} {v : V} {xs : List (Int × Str)} (h : MinV H v xs) (s : Same H H1) : MinV H1 v xs := by
  rcases h with ⟨h1, h2⟩ | ⟨z, zs, t, h1, h2, d⟩
  · exact .inl ⟨h1, h2⟩
  · exact .inr ⟨z, zs, t, h1, h2, d.same fun t xs e => s _ _ e⟩
theorem MinV.dp {K : PySem.W.Frag} {H : Hp} {v : V} {m y o k : Rat} {x : Int} {nm : Option Str} {fs : List Fst} (f : Fit m y) (g : ∀ z ∈ fs, FsG z) (h : MinV H v (nxL m y o k x nm fs)) : Dp K H v (minD (nxL m y o k x nm fs)) := by
  rcases h with ⟨h1, rfl⟩ | ⟨z, zs, t, h1, rfl, d⟩
  · rw [h1]
    exact .non
  · rw [nx_sorted f g h1] at d
    obtain ⟨t', e, ht⟩ := d
    cases e
    rw [h1]
    exact .tup (SqT.of ht) (.cons (.int _) (.cons (.str _) .nil))
theorem nx_ok {m y o k : Rat} {x : Int} {nm : Option Str} {fs : List Fst} (g : ∀ z ∈ fs, FsG z) : ∀ r ∈ nxL m y o k x nm fs, PyData.strOk r.2 = true := fun r hr => by
  have h := (List.mem_filter.mp hr).1
  rcases List.mem_append.mp h with h | h
  · exact inY_ok g r h
  · exact inY_ok g r h
theorem sh_min {xs : List (Int × Str)} (h : ∀ r ∈ xs, PyData.strOk r.2 = true) : SeqAt.shaped (minD xs) = true := by
  cases xs with
  | nil => rfl
  | cons z zs => exact sh_row (h z List.mem_cons_self)
theorem lay_min {xs : List (Int × Str)} (h : ∀ r ∈ xs, PyData.strOk r.2 = true) : PyData.canLay0 (minD xs) = true := by
  cases xs with
  | nil => rfl
  | cons z zs =>
    show PyData.canLay0 (encD z) = true
    unfold encD
    simp only [PyData.canLay0, PyData.canLayAll0, h z List.mem_cons_self, Bool.and_self]
theorem dep_min (xs : List (Int × Str)) : (minD xs).depth ≤ 1 := by
  cases xs with
  | nil => simp [minD, PyData.depth]
  | cons z zs => simp [minD, encD, PyData.depth, PyData.depthAll]
theorem eqv_min {xs : List (Int × Str)} (h : ∀ r ∈ xs, PyData.strOk r.2 = true) : PyData.eqv (minD xs) (minD xs) = true := SeqAt.eqv_refl _ (lay_min h)
def tmD (xs : List (Int × Str)) : PyData := .list [.str "told", minD xs]
theorem lay_tm {xs : List (Int × Str)} (h : ∀ r ∈ xs, PyData.strOk r.2 = true) : PyData.canLay0 (tmD xs) = true := by
  unfold tmD
  simp only [PyData.canLay0, PyData.canLayAll0, okTold, lay_min h, Bool.and_self]
theorem sh_tm {xs : List (Int × Str)} (h : ∀ r ∈ xs, PyData.strOk r.2 = true) : SeqAt.shaped (tmD xs) = true := by
  show (PyData.canLay0 (tmD xs) && decide (PyData.depth (tmD xs) ≤ 64)) = true
  rw [lay_tm h, Bool.true_and]
  have h1 := dep_min xs
  refine decide_eq_true ?_
  unfold tmD
  simp only [PyData.depth, PyData.depthAll, Nat.max_def]
  repeat' split
  all_goals omega
theorem eqv_tm {xs : List (Int × Str)} (h : ∀ r ∈ xs, PyData.strOk r.2 = true) : PyData.eqv (tmD xs) (tmD xs) = true := SeqAt.eqv_refl _ (lay_tm h)
theorem pass0X {P : Program} {w : World} {X : Cx} : Passes (L2.CX P w) X E0 := fun _ _ _ _ _ _ _ ⟨_, _, _, _, _, _, _, _, _, _, _, _, h⟩ => h.elim
/-- both ways of an answer as one -/
theorem sp_nxf {C Cc Cb Cf CM b p : Addr} {m y o k : Rat} {fs : List (Addr × Fst)} {x : Int} {nm : Option Str} {vs : List V} {H : Hp} {Q : VK} {E : XK} (hv : vs = [.ref b, .int x, nmV nm]) (hb : Bk C Cc Cb Cf H b p m y o k fs) (zx : Sz 600 x) (hl : ∀ s, nm = some s → s.length ≤ 1000) (hn : ∀ s, nm = some s → ∃ q ∈ fs, q.2.nm = s)
    (h : ∀ v H', Same H H' → MinV H' v (nxL m y o k x nm (fs.map (·.2))) → Q v H') : spNxfX C Cc Cb Cf CM vs H Q E :=
  ⟨b, p, x, nm, m, y, o, k, fs, hv, hb, zx, hl, fun _ => ⟨fun e H' s => h _ _ s (.inl ⟨e, rfl⟩), fun z zs e t H' s d => h _ _ s (.inr ⟨z, zs, t, e, rfl, d⟩)⟩, fun s e hno => by
    obtain ⟨q, hq, he⟩ := hn s e
    exact absurd he (hno q hq)⟩
theorem sp_lnx {r dk : Addr} {m y o k : Rat} {gs : List (Addr × Fst)} {x : Int} {nm : Option Str} {vs : List V} {H : Hp} {Q : VK} {E : XK} (hv : vs = [.ref r, .ref dk, .int x, nmV nm]) (fo : Fo H r m y o k) (g : Good m y o k) (zx : Sz 600 x) (lk : LK H dk gs) (on : ∀ s, nm = some s → PyData.strOk s = true) (og : ∀ q ∈ gs, PyData.strOk q.2.nm = true)
    (h : ∀ v H', Same H H' → MinV H' v (nxL m y o k x nm (gs.map (·.2))) → Q v H') : spLnx vs H Q E :=
  ⟨r, dk, x, nm, m, y, o, k, gs, hv, fo, g, zx, lk, on, og, fun e H' s => h _ _ s (.inl ⟨e, rfl⟩), fun z zs e t H' s d => h _ _ s (.inr ⟨z, zs, t, e, rfl, d⟩)⟩
def gOdm {α : Type} : List α → List α → List α → List α := fun us _ ws => us ++ ws ++ []
theorem kb_in_year_year : Kbm "in_year" "Feasts.in_year" s_Feasts_in_year 1 ["year"] ["self", "year"] g1 := ⟨fun _ _ _ _ _ _ us ws hu hw => match us, hu, ws, hw with | [_], _, [_], _ => rfl, g1_rel⟩
theorem kb_on_day_day : Kbm "on_day" "Feasts.on_day" s_Feasts_on_day 1 ["day"] ["self", "day"] g1 := ⟨fun _ _ _ _ _ _ us ws hu hw => match us, hu, ws, hw with | [_], _, [_], _ => rfl, g1_rel⟩
def gDy {α : Type} : List α → List α → List α → List α := fun us ds ws => us ++ ws ++ ds
theorem gDy_rel {vs ds zs : List V} {us its ws : List Value} (h : Vals vs us) (d : Vals ds its) (k : Vals zs ws) : Vals (gDy vs ds zs) (gDy us its ws) := (h.append k).append d
theorem kd_next_feast_0_day : Kdm "next_feast" "Feasts.next_feast" s_Feasts_next_feast 1 1 ["day"] ["self", "day", "name"] gDy :=
  ⟨fun _ _ _ _ _ _ _ us its ws hu hi hw => match us, hu, its, hi, ws, hw with | [_], _, [_], _, [_], _ => ⟨_, rfl, rfl⟩, gDy_rel⟩
/-! ### what is asked of a book -/
/-- the book, the law's list, its fractions and draws -/
structure As (C Cc Cb Cf : Addr) (H : Hp) (b p dk r lw : Addr) (m y o k : Rat) (fs gs : List (Addr × Fst)) (c : Nat) : Prop where
  t : Two C Cc Cb Cf H b p dk m y o k fs gs
  fo : Fo H r m y o k
  dr : Dr H lw c
section
variable {C Cc Cb Cf b p dk r lw : Addr} {H H1 : Hp} {m y o k : Rat} {fs gs : List (Addr × Fst)} {c : Nat}
theorem Fo.noL (fo : Fo H r m y o k) (s : NoL H H1) : Fo H1 r m y o k := by
  obtain ⟨a', b', c', d', e0, h1, h2, h3, h4⟩ := fo
  have up : ∀ {c : Addr} {xs : List V}, H c = some (.tup xs) → H1 c = some (.tup xs) := fun e => s _ _ (fun _ z => nomatch z) e
  exact ⟨a', b', c', d', up e0, up h1, up h2, up h3, up h4⟩
theorem As.same (h : As C Cc Cb Cf H b p dk r lw m y o k fs gs c) (s : Same H H1) : As C Cc Cb Cf H1 b p dk r lw m y o k fs gs c := ⟨h.t.same s, h.fo.same s, h.dr.same s (Nat.le_refl _)⟩
theorem As.but {c1 : Nat} (h : As C Cc Cb Cf H b p dk r lw m y o k fs gs c) (s : But lw H H1) (d : Dr H1 lw c1) : As C Cc Cb Cf H1 b p dk r lw m y o k fs gs c1 := ⟨h.t.noL (NoL.but s h.dr), h.fo.noL (NoL.but s h.dr), d⟩
theorem As.g (h : As C Cc Cb Cf H b p dk r lw m y o k fs gs c) : Good m y o k := h.t.bk.g
theorem As.gg (h : As C Cc Cb Cf H b p dk r lw m y o k fs gs c) : ∀ z ∈ gs.map (·.2), FsG z := fun z hz => by
  obtain ⟨q', hq', rfl⟩ := List.mem_map.mp hz
  exact (h.t.o q' hq').g
theorem As.ok (h : As C Cc Cb Cf H b p dk r lw m y o k fs gs c) : ∀ q ∈ gs, PyData.strOk q.2.nm = true := fun q hq => (h.t.o q hq).g.ok
end
theorem okZ : PyData.strOk "zzz" = true := by decide +kernel
def nmsF (gs : List (Addr × Fst)) : List Str := gs.map fun q => q.2.nm
theorem fkv_keys (gs : List (Addr × Fst)) : (fkv gs).map (·.1) = (nmsF gs).map Sum.inr := by
  unfold fkv nmsF
  rw [List.map_map, List.map_map]
  rfl
def spAsked67 (C Cc Cb Cf : Addr) : Sp := fun vs H Q _ => ∃ (b p dk r lw : Addr) (m y o k : Rat) (fs gs : List (Addr × Fst)) (c : Nat), vs = [.ref b, .ref dk, .ref r, .ref lw] ∧ As C Cc Cb Cf H b p dk r lw m y o k fs gs c ∧ gs.length ≤ 45 ∧ c ≤ 900000 ∧
  ∀ c' H', But lw H H' → Dr H' lw c' → c' ≤ c + 200 → Q (.bl true) H'
section
variable {P : Program} {w : World} {K : PySem.W.Frag} {mg : Str → Option Value} {base : Heap} {C Cc Cb Cf CM : Addr}
abbrev TE_l_asked1 (K : PySem.W.Frag) : TE := tOp (rIxT K) (tVar 14) (tC (.int 0))
abbrev TE_l_asked2 (_K : PySem.W.Frag) : TE := tVar 13
abbrev TT_l_asked2 (_K : PySem.W.Frag) : TT := tTest (tOp rEq (tVar 15) (tVar 11))
theorem ok_lask67 (D : Df K mg "_law_asked" s_l_asked []) (f_l_next : Ca P w K mg base CX0 1 "_law_next" s_l_next [] ["_law_draws_here"] spNext) (f_l_start : Ca P w K mg base CX0 3 "_law_start" s_l_start [] ["_law_four_here", "_law_k"] (spF1 3000 fun m _ o _ i => .int (stF m o i))) (f_l_month_with : Ca P w K mg base CX0 5 "_law_month_with" s_l_month_with [] ["_law_four_here", "_law_j"] (spF1 1200 fun m y o k i => .int (maF m o (mdF y k i)))) (g_sorted : mg "sorted" = none) (g_len : mg "len" = none) (g_max : mg "max" = none) (f_l_year_of : Ca P w K mg base CX0 6 "_law_year_of" s_l_year_of [] ["_law_four_here", "_law_a_day"] spYof) (f_l_in_year : Ca P w K mg base CX0 7 "_law_in_year" s_l_in_year [] ["_law_four_here", "_law_kept", "_law_a_year"] spLiy) (f_l_next_feast : Ca P w K mg base CX0 8 "_law_next_feast" s_l_next_feast [] ["_law_four_here", "_law_kept", "_law_a_day", "_law_a_name"] spLnx)
    (f_called : Cm P w K mg base CX0 1 Cb "called" "Feasts.called" s_Feasts_called ["self"] (spCald C Cc Cb Cf)) (f_in_year : Cm P w K mg base CX0 14 Cb "in_year" "Feasts.in_year" s_Feasts_in_year ["self", "year"] (spInY C Cc Cb Cf)) (f_on_day : Cm P w K mg base CX0 15 Cb "on_day" "Feasts.on_day" s_Feasts_on_day ["self", "day"] (spOnD C Cc Cb Cf))
    (f_next_feast : CmD P w K mg base (L2.CX P w) 15 Cb "next_feast" "Feasts.next_feast" s_Feasts_next_feast [.non] ["self", "day", "name"] (spNxfX C Cc Cb Cf CM)) (f_l_deed : Ca P w K mg base CX0 16 "_law_deed" s_l_deed [] ["_law_book", "_law_way", "_law_a_name", "_law_fields"] (spDeed C Cc Cb Cf)) :
    Ca P w K mg base CX0 18 "_law_asked" s_l_asked [] ["_law_book", "_law_kept", "_law_four_here", "_law_draws_here"] (spAsked67 C Cc Cb Cf) := by
  refine ca0 (k := 17) D c_l_asked (fun vs H Q E h => ?_) fun f cdv A outer s H vs Q E hr h => ?_
  · obtain ⟨b, p, dk, r, lw, m, y, o, k, fs, gs, c, rfl, _⟩ := h
    rfl
  · obtain ⟨b, p, dk, r, lw, m, y, o, k, fs, gs, c, rfl, ha, hl, hc, q⟩ := h
    have g := ha.g
    have F := g.fit
    have hgg := ha.gg
    have hgo := ha.ok
    have hnL : (nmsF gs).length = gs.length := by unfold nmsF; rw [List.length_map]
    have hnO : ∀ s ∈ nmsF gs, PyData.strOk s = true := fun s hs => by
      obtain ⟨q', hq', rfl⟩ := List.mem_map.mp hs
      exact hgo q' hq'
    have heq : fs.map (·.2) = gs.map (·.2) := ha.t.e
    have hnm : fs.map (fun q => q.2.nm) = nmsF gs := ha.t.nms
    refine ⟨_, (pss_cons (ps_set (i := 4) c_l_asked.nd rfl (.inl rfl) (pe_ca f_l_next b_l_next hr (by decide) pass0 rfl (pa_cons (pv 3) pa_nil)))
      (pss_cons (ps_set (i := 5) c_l_asked.nd rfl (.inl rfl) (pe_ix ix_list (pe_lst (pa_cons (pe_op op_sub (pe_op op_mod (pe_op op_fdiv (pv 4) pe_int) pe_int) pe_int) (pa_cons (pe_op op_mod (pe_op op_fdiv (pv 4) pe_int) pe_int) (pa_cons (pe_op op_sub pe_int (pe_op op_mod (pe_op op_fdiv (pv 4) pe_int) pe_int)) (pa_cons (pe_op op_add (pe_op op_pow pe_int pe_int) (pv 4)) pa_nil))))) (pe_op op_mod (pv 4) pe_int) (fun _ _ => rfl)))
      (pss_cons (ps_set (i := 6) c_l_asked.nd rfl (.inl rfl) (pe_ca f_l_in_year b_l_in_year hr (by decide) pass0 rfl (pa_cons (pv 2) (pa_cons (pv 1) (pa_cons (pv 5) pa_nil)))))
      (pss_cons (ps_set (i := 7) c_l_asked.nd rfl (.inl rfl) (pe_lst (pa_cons (pe_cm0 f_called b_Feasts_called hr (by decide) pass0 (pv 0)) (pa_cons (pe_cm f_in_year b_Feasts_in_year hr (by decide) pass0 (pv 0) (pa_cons (pv 5) pa_nil)) pa_nil))))
      (pss_cons (ps_if (pt_cmpR (op_neD hr.units) (pv 7) (pe_lst (pa_cons (pe_callB (call_sortedD rfl) rfl g_sorted (by decide +kernel) (pa_cons (pv 1) pa_nil)) (pa_cons (pv 6) pa_nil))) (nomark _)) (pss_one (ps_ret pe_bl)) pss_nil)
      (pss_cons (ps_for PassesOwn.never rfl (pi_list (pv 7)) (pg_name (i := 8) c_l_asked.nd rfl (.inl rfl)) (pss_one (ps_expr (pe_bm PySem.F.plainAttrs_list PySem.F.slot_list_append PySem.F.type_list_append mt_append (pv 8) (pa_cons pe_non pa_nil)))))
      (pss_cons (ps_if (pt_cmpR (op_neD hr.units) (pe_lst (pa_cons (pe_cm0 f_called b_Feasts_called hr (by decide) pass0 (pv 0)) (pa_cons (pe_cmK f_in_year kb_in_year_year hr (by decide) pass0 (pv 0) (pk_cons (pv 5) pk_nil)) pa_nil))) (pe_lst (pa_cons (pe_callB (call_sortedD rfl) rfl g_sorted (by decide +kernel) (pa_cons (pv 1) pa_nil)) (pa_cons (pv 6) pa_nil))) (nomark _)) (pss_one (ps_ret pe_bl)) pss_nil)
      (pss_cons (ps_set (i := 9) c_l_asked.nd rfl (.inl rfl) (pe_ca f_l_start b_l_start hr (by decide) pass0 rfl (pa_cons (pv 2) (pa_cons (pe_ca f_l_month_with b_l_month_with hr (by decide) pass0 rfl (pa_cons (pv 2) (pa_cons (pe_op op_mul pe_int (pv 5)) pa_nil))) pa_nil))))
      (pss_cons (ps_set (i := 10) c_l_asked.nd rfl (.inl rfl) (pe_op op_cat (pe_lst (pa_cons (pe_op op_sub (pv 9) pe_int) (pa_cons (pe_op op_add (pv 9) (pe_op op_mod (pe_ca f_l_next b_l_next hr (by decide) pass0 rfl (pa_cons (pv 3) pa_nil)) pe_int)) pa_nil))) (pe_lc (own := [("_law_row", 14)]) (g := gName 14) (tt := tYes) (te := TE_l_asked1 K) rfl c_l_asked.nd (pi_list (pe_slice sl_list (pv 6) (po_some (pe_un un_neg pe_int)) po_none)) (blkOk_by (N := ["_law_book", "_law_kept", "_law_four_here", "_law_draws_here", "_law_pick", "_law_a_year", "_law_rows", "_law_told", "_law_some", "_law_first", "_law_days", "_law_a_day", "_law_due", "_law_a_name", "_law_row", "_law_one"]) (sc := defScope s_l_asked) (by decide +kernel)) (fun _ _ _ _ _ => (pg_name (i := 14) c_l_asked.nd rfl (.inl rfl))) (fun _ _ _ _ _ => by exact pts_nil) (fun _ _ _ _ _ => by exact (pe_ix ix_tup (pv 14) pe_int (fun _ _ => rfl))))))
      (pss_cons (ps_for PassesOwn.never rfl (pi_list (pv 10)) (pg_name (i := 11) c_l_asked.nd rfl (.inr rfl)) (pss_cons (ps_set (i := 12) c_l_asked.nd rfl (.inl rfl) (pe_callB cr_sortedS rfl g_sorted (by decide +kernel) (pa_cons (pe_lc (own := [("_law_one", 15), ("_law_a_name", 13)]) (g := gTup K 2 (gCons (gName 15) (gCons (gName 13) gNil))) (tt := TT_l_asked2 K) (te := TE_l_asked2 K) rfl c_l_asked.nd (pi_list (pe_ca f_l_in_year b_l_in_year hr (by decide) pass0 rfl (pa_cons (pv 2) (pa_cons (pv 1) (pa_cons (pe_ca f_l_year_of b_l_year_of hr (by decide) pass0 rfl (pa_cons (pv 2) (pa_cons (pv 11) pa_nil))) pa_nil))))) (blkOk_by (N := ["_law_book", "_law_kept", "_law_four_here", "_law_draws_here", "_law_pick", "_law_a_year", "_law_rows", "_law_told", "_law_some", "_law_first", "_law_days", "_law_a_day", "_law_due", "_law_a_name", "_law_row", "_law_one"]) (sc := defScope s_l_asked) (by decide +kernel)) (fun _ _ _ _ _ => (pg_tup rfl (pgs_cons (pg_name (i := 15) c_l_asked.nd rfl (.inl rfl)) (pgs_cons (pg_name (i := 13) c_l_asked.nd rfl (.inl rfl)) pgs_nil)))) (fun _ _ _ _ _ => by exact pts_one (pt_cmpR op_eq (pv 15) (pv 11) (nomark _))) (fun _ _ _ _ _ => by exact (pv 13))) pa_nil)))
      (pss_cons (ps_set (i := 7) c_l_asked.nd rfl (.inl rfl) (pe_cmK f_on_day kb_on_day_day hr (by decide) pass0 (pv 0) (pk_cons (pv 11) pk_nil)))
      (pss_cons (ps_if (pt_cmpR (op_neD hr.units) (pv 7) (pv 12) (nomark _)) (pss_one (ps_ret pe_bl)) pss_nil)
      (pss_cons (ps_expr (pe_bm PySem.F.plainAttrs_list PySem.F.slot_list_append PySem.F.type_list_append mt_append (pv 7) (pa_cons pe_str pa_nil)))
      (pss_cons (ps_if (pt_cmpR (op_neD hr.units) (pe_cm f_on_day b_Feasts_on_day hr (by decide) pass0 (pv 0) (pa_cons (pv 11) pa_nil)) (pv 12) (nomark _)) (pss_one (ps_ret pe_bl)) pss_nil)
      (pss_cons (ps_if (pt_cmpR (op_neD hr.units) (pe_cmDK0 f_next_feast kd_next_feast_0_day (by decide) hr (by decide) pass0X (pv 0) (pk_cons (pv 11) pk_nil)) (pe_ca f_l_next_feast b_l_next_feast hr (by decide) pass0 rfl (pa_cons (pv 2) (pa_cons (pv 1) (pa_cons (pv 11) (pa_cons pe_non pa_nil))))) (nomark _)) (pss_one (ps_ret pe_bl)) pss_nil)
      (pss_cons (ps_for PassesOwn.never rfl (pi_list (pe_slice sl_list (pe_slice sl_list (pe_callB (call_sortedD rfl) rfl g_sorted (by decide +kernel) (pa_cons (pv 1) pa_nil)) (po_some (pe_op op_mod (pe_ca f_l_next b_l_next hr (by decide) pass0 rfl (pa_cons (pv 3) pa_nil)) (pe_callB (call_max2 rfl) rfl g_max (by decide +kernel) (pa_cons pe_int (pa_cons (pe_callB call_lenD rfl g_len (by decide +kernel) (pa_cons (pv 1) pa_nil)) pa_nil))))) po_none) po_none (po_some pe_int))) (pg_name (i := 13) c_l_asked.nd rfl (.inl rfl)) (pss_one (ps_if (pt_cmpR (op_neD hr.units) (pe_ca f_l_deed b_l_deed hr (by decide) pass0 rfl (pa_cons (pv 0) (pa_cons pe_int (pa_cons (pv 13) (pa_cons (pe_lst (pa_cons (pv 11) pa_nil)) pa_nil))))) (pe_lst (pa_cons pe_str (pa_cons (pe_ca f_l_next_feast b_l_next_feast hr (by decide) pass0 rfl (pa_cons (pv 2) (pa_cons (pv 1) (pa_cons (pv 11) (pa_cons (pv 13) pa_nil))))) pa_nil))) (nomark _)) (pss_one (ps_ret pe_bl)) pss_nil)))
      (pss_one (ps_if (pt_cmpR (op_neD hr.units) (pe_ca f_l_deed b_l_deed hr (by decide) pass0 rfl (pa_cons (pv 0) (pa_cons pe_int (pa_cons pe_str (pa_cons (pe_lst (pa_cons (pv 11) pa_nil)) pa_nil))))) (pe_lst (pa_cons pe_str (pa_cons pe_str pa_nil))) (nomark _)) (pss_one (ps_ret pe_bl)) pss_nil))))))))))
      (pss_one (ps_ret pe_bl)))))))))))), ?_⟩
    refine ⟨_, rfl, lw, _, rfl, ha.dr, by omega, fun u H1 u0 u1 b1 d1 => ?_⟩
    have a1 := ha.but b1 d1
    obtain ⟨yr, hyr, zyr⟩ : ∃ yr : Int, atI [V.int (u / 4 % 9 - 4), V.int (u / 4 % 3000), V.int (0 - u / 4 % 3000), V.int ((10 : Int) ^ (15 : Int).toNat + u)] (u % 4) = some (.int yr) ∧ Sz 70 yr := by
      have h0 := Int.emod_nonneg u (show (4 : Int) ≠ 0 by decide)
      have h1 := Int.emod_lt_of_pos u (show (0 : Int) < 4 by decide)
      have m1 := Int.emod_nonneg (u / 4) (show (9 : Int) ≠ 0 by decide)
      have m2 := Int.emod_lt_of_pos (u / 4) (show (0 : Int) < 9 by decide)
      have m3 := Int.emod_nonneg (u / 4) (show (3000 : Int) ≠ 0 by decide)
      have m4 := Int.emod_lt_of_pos (u / 4) (show (0 : Int) < 3000 by decide)
      have e15 : (10 : Int) ^ (15 : Int).toNat = 1000000000000000 := by decide
      have h : u % 4 = 0 ∨ u % 4 = 1 ∨ u % 4 = 2 ∨ u % 4 = 3 := by omega
      rw [e15]
      rcases h with e | e | e | e <;> rw [e]
      · exact ⟨_, rfl, (Sz.of (n := 60) (by omega) (by omega)).mono (by decide)⟩
      · exact ⟨_, rfl, (Sz.of (n := 60) (by omega) (by omega)).mono (by decide)⟩
      · exact ⟨_, rfl, (Sz.of (n := 60) (by omega) (by omega)).mono (by decide)⟩
      · exact ⟨_, rfl, (Sz.of (n := 60) (by omega) (by omega)).mono (by decide)⟩
    refine ⟨_, rfl, _, _, rfl, rfl, ⟨by decide, by decide⟩, _, _, rfl, rfl, md, _, _, rfl, rfl, _, rfl, _, _, rfl, rfl, ⟨by decide, by decide⟩, _, _, rfl, rfl, md, _, rfl, _, _, rfl, rfl, ⟨by decide, by decide⟩, _, _, rfl, rfl, md, _, _, rfl, rfl, _, _, rfl, rfl, ⟨by decide, by decide, by decide⟩, _, rfl, _, _, rfl, rfl, (by show 4 ≤ sizeLine; decide), fun pn npn => ?_⟩
    refine ⟨_, rfl, _, _, rfl, rfl, md, pn, _, _, .int yr, rfl, rfl, SqL.of upd_same, hyr, ?_⟩
    have s2 := Same.new (o := .lst [V.int (u / 4 % 9 - 4), V.int (u / 4 % 3000), V.int (0 - u / 4 % 3000), V.int ((10 : Int) ^ (15 : Int).toNat + u)]) npn
    have a2 := a1.same s2
    have b2 := b1.trans (But.same s2)
    clear hyr
    change (fun HC : Hp => _) (L2.upd H1 pn (.lst [V.int (u / 4 % 9 - 4), V.int (u / 4 % 3000), V.int (0 - u / 4 % 3000), V.int ((10 : Int) ^ (15 : Int).toNat + u)]))
    generalize L2.upd H1 pn (.lst [V.int (u / 4 % 9 - 4), V.int (u / 4 % 3000), V.int (0 - u / 4 % 3000), V.int ((10 : Int) ^ (15 : Int).toNat + u)]) = H2 at *
    refine ⟨_, rfl, _, rfl, _, rfl, r, dk, yr, m, y, o, k, gs, rfl, a2.fo, g, zyr.mono (by decide), a2.t.lk, fun L us H3 nL s3 eL du => ?_⟩
    have nLl : L ≠ lw := ne_of_none' a2.dr nL
    have a3 := a2.same s3
    have b3 := b2.trans (But.same s3)
    obtain ⟨dx, d, e1, e2⟩ := a3.t.bk.ob
    have no1 : ∀ {x : Str}, ¬ (x = ("feasts" : Str)) → ¬ (x = ("calendar" : Str)) → (fbs p d).lookup x = none := fb_no p d
    refine ⟨_, rfl, b, dx, _, rfl, e1, no1 (by decide +kernel) (by decide +kernel), b, p, m, y, o, k, fs, rfl, a3.t.bk, fun ys r1 H4 hp1 hs1 n1 s4 er1 => ?_⟩
    have a4 := a3.same s4
    have b4 := b3.trans (But.same s4)
    refine ⟨_, rfl, b, dx, _, rfl, s4 _ _ e1, no1 (by decide +kernel) (by decide +kernel), _, rfl, b, p, yr, m, y, o, k, fs, rfl, a4.t.bk, zyr.mono (by decide), fun r2 us2 H5 n2 s5 er2 du2 => ?_⟩
    have n12 : r1 ≠ r2 := ne_of_none er1 n2
    have er1' := s5 _ _ er1
    have er25 := er2
    have a5 := a4.same s5
    have s35 := s4.trans s5
    refine ⟨(by show 2 ≤ sizeLine; decide), fun tl ntl => ?_⟩
    have n1l : r1 ≠ tl := ne_of_none er1' ntl
    have n2l : r2 ≠ tl := ne_of_none er25 ntl
    have s6 := Same.new (o := .lst [.ref r1, .ref r2]) ntl
    have etl := upd_same (H := H5) (a := tl) (o := .lst [.ref r1, .ref r2])
    have a6 := a5.same s6
    have s36 := s35.trans s6
    have er1 := s6 _ _ er1'
    have er2 := s6 _ _ er2
    have du2 := du2.same fun t xs e => s6 _ _ e
    change (fun HC : Hp => _) (L2.upd H5 tl (.lst [.ref r1, .ref r2]))
    generalize L2.upd H5 tl (.lst [.ref r1, .ref r2]) = H6 at *
    refine ⟨_, rfl, _, rfl, dk, fkv gs, nmsF gs, rfl, .inl a6.t.lk.ed, fkv_keys gs, by omega, fun ys' p7 hp7 hs7 n7 => ?_⟩
    rw [hnm] at hp1
    obtain rfl : ys' = ys := sorted_one hp7 hp1 (sorted_pw hs7) (sorted_pw hs1)
    have s7 := Same.new (o := .lst (ys'.map V.str)) n7
    have e7 := upd_same (H := H6) (a := p7) (o := .lst (ys'.map V.str))
    generalize L2.upd H6 p7 (.lst (ys'.map V.str)) = H7 at *
    refine ⟨_, rfl, (by show 2 ≤ sizeLine; decide), fun l8 n8 => ?_⟩
    have s8 := Same.new (o := .lst [.ref p7, .ref L]) n8
    have e8 := upd_same (H := H7) (a := l8) (o := .lst [.ref p7, .ref L])
    generalize L2.upd H7 l8 (.lst [.ref p7, .ref L]) = H8 at *
    have hyO : ∀ s ∈ ys', PyData.strOk s = true := fun s hs => hnO s (hp7.mem_iff.mp hs)
    rw [heq] at du2
    have hrO := inY_ok (m := m) (y := y) (o := o) (k := k) (a := yr) hgg
    have s68 := s7.trans s8
    have s38 := s36.trans s68
    refine ⟨nrD ys' (inY m y o k yr (gs.map (·.2))), nrD ys' (inY m y o k yr (gs.map (·.2))), .lst (SqL.of (s68 _ _ etl)) (.cons (.lst (SqL.of (s68 _ _ er1)) (strs_dps _)) (.cons (.lst (SqL.of (s68 _ _ er2)) (duos_dps (du2.same fun t xs e => s68 _ _ e))) .nil)), .lst (SqL.of e8) (.cons (.lst (SqL.of (s8 _ _ e7)) (strs_dps _)) (.cons (.lst (SqL.of (s38 _ _ eL)) (duos_dps (du.same fun t xs e => s38 _ _ e))) .nil)), sh_nr hyO hrO, sh_nr hyO hrO, _, rfl, no' (by rw [eqv_nr hyO hrO]; rfl) ?_⟩
    have etl := s68 _ _ etl
    have er1 := s68 _ _ er1
    have er2 := s68 _ _ er2
    have ly : ys'.length ≤ 45 := by rw [hp7.length_eq, hnL]; exact hl
    have lu2 : us2.length ≤ 100 := by
      rw [← du2.1]
      have h1 := inY_len m y o k yr (gs.map (·.2))
      rw [List.length_map] at h1
      omega
    have n2' : H3 r2 = none := s4.free n2
    have ntl' : H3 tl = none := s35.free ntl
    refine ⟨_, rfl, tl, rfl, ⟨_, SqL.of etl⟩, for_list (K := K) (a := tl) (xs := [.ref r1, .ref r2]) (fun i σ Hx => ∃ (v8 : Option V) (xs1 xs2 : List V), σ = [some (.ref b), some (.ref dk), some (.ref r), some (.ref lw), some (.int u), some (.int yr), some (.ref L), some (.ref tl), v8, none, none, none, none, none, none, none] ∧ Same H3 Hx ∧ Hx tl = some (.lst [.ref r1, .ref r2]) ∧ Hx r1 = some (.lst xs1) ∧ xs1.length ≤ 200 + i ∧ Hx r2 = some (.lst xs2) ∧ xs2.length ≤ 200 + i) ⟨_, _, _, rfl, s38, etl, er1, by rw [List.length_map]; omega, er2, by omega⟩ (fun i σ Hx _ ⟨_, _, _, _, _, e, _⟩ => SqL.of e) ?_ ?_⟩
    · rintro i v σ Hx hi ⟨v8, xs1, xs2, rfl, sx, exl, ex1, l1, ex2, l2⟩
      match i, hi with
      | 0, hi =>
        cases hi
        refine ⟨_, rfl, .inl ⟨rfl, _, SqL.of ex1⟩, r1, _, _, rfl, rfl, ex1, Nat.lt_of_le_of_lt l1 (by decide), ?_⟩
        exact ⟨_, xs1 ++ [.non], xs2, rfl, upd_keep n1 sx, (upd_ne n1l.symm).trans exl, upd_same, by rw [List.length_append]; show _ + 1 ≤ _; omega, (upd_ne n12.symm).trans ex2, by omega⟩
      | 1, hi =>
        cases hi
        refine ⟨_, rfl, .inl ⟨rfl, _, SqL.of ex2⟩, r2, _, _, rfl, rfl, ex2, Nat.lt_of_le_of_lt l2 (by decide), ?_⟩
        exact ⟨_, xs1, xs2 ++ [.non], rfl, upd_keep n2' sx, (upd_ne n2l.symm).trans exl, (upd_ne n12).trans ex1, by omega, upd_same, by rw [List.length_append]; show _ + 1 ≤ _; omega⟩
      | i + 2, hi => simp at hi
    rintro σ H9 ⟨v8, xs1, xs2, rfl, s39, -, -, -, -, -⟩
    clear s35 s36 s38 s68 s4 s5 s6 s7 s8 etl er1 er2 er1' er25 du2 e7 e8 a4 a5 a6 b4 n1 n2 n2' ntl n7 n8 ntl' n12 n1l n2l lu2 hp1 hs1
    have a9 := a3.same s39
    have b9 := b3.trans (But.same s39)
    have eL9 := s39 _ _ eL
    have du9 := du.same fun t xs e => s39 _ _ e
    have e19 := s39 _ _ e1
    clear a3 b3 eL du e1 e2 a1 a2 b1 b2 s2 s3 s39
    refine ⟨_, rfl, b, dx, _, rfl, e19, no1 (by decide +kernel) (by decide +kernel), b, p, m, y, o, k, fs, rfl, a9.t.bk, fun yt q1 H10 hp1 hs1 n1 s10 er1 => ?_⟩
    refine ⟨_, rfl, b, dx, _, rfl, s10 _ _ e19, no1 (by decide +kernel) (by decide +kernel), _, rfl, rfl, b, p, yr, m, y, o, k, fs, rfl, a9.t.bk.same s10, zyr.mono (by decide), fun q2 us2 H11 n2 s11 er2 du2 => ?_⟩
    refine ⟨(by show 2 ≤ sizeLine; decide), fun tl' ntl => ?_⟩
    have s12 := Same.new (o := .lst [.ref q1, .ref q2]) ntl
    have etl := upd_same (H := H11) (a := tl') (o := .lst [.ref q1, .ref q2])
    have s912 := s10.trans (s11.trans s12)
    have er1 := s12 _ _ (s11 _ _ er1)
    have er2 := s12 _ _ er2
    have du2 := du2.same fun t xs e => s12 _ _ e
    change (fun HC : Hp => _) (L2.upd H11 tl' (.lst [.ref q1, .ref q2]))
    generalize L2.upd H11 tl' (.lst [.ref q1, .ref q2]) = H12 at *
    refine ⟨_, rfl, dk, fkv gs, nmsF gs, rfl, .inl (s912 _ _ a9.t.lk.ed), fkv_keys gs, by omega, fun ys2 p7 hp7b hs7b n7 => ?_⟩
    rw [hnm] at hp1
    obtain rfl : ys' = ys2 := sorted_one hp7 hp7b (sorted_pw hs7) (sorted_pw hs7b)
    obtain rfl : ys' = yt := sorted_one hp7 hp1 (sorted_pw hs7) (sorted_pw hs1)
    have s13 := Same.new (o := .lst (ys'.map V.str)) n7
    have e7 := upd_same (H := H12) (a := p7) (o := .lst (ys'.map V.str))
    generalize L2.upd H12 p7 (.lst (ys'.map V.str)) = H13 at *
    refine ⟨_, rfl, (by show 2 ≤ sizeLine; decide), fun l8 n8 => ?_⟩
    have s14 := Same.new (o := .lst [.ref p7, .ref L]) n8
    have e8 := upd_same (H := H13) (a := l8) (o := .lst [.ref p7, .ref L])
    generalize L2.upd H13 l8 (.lst [.ref p7, .ref L]) = H14 at *
    rw [heq] at du2
    have s1214 := s13.trans s14
    have s914 := s912.trans s1214
    refine ⟨nrD ys' (inY m y o k yr (gs.map (·.2))), nrD ys' (inY m y o k yr (gs.map (·.2))), .lst (SqL.of (s1214 _ _ etl)) (.cons (.lst (SqL.of (s1214 _ _ er1)) (strs_dps _)) (.cons (.lst (SqL.of (s1214 _ _ er2)) (duos_dps (du2.same fun t xs e => s1214 _ _ e))) .nil)), .lst (SqL.of e8) (.cons (.lst (SqL.of (s14 _ _ e7)) (strs_dps _)) (.cons (.lst (SqL.of (s914 _ _ eL9)) (duos_dps (du9.same fun t xs e => s914 _ _ e))) .nil)), sh_nr hyO hrO, sh_nr hyO hrO, _, rfl, no' (by rw [eqv_nr hyO hrO]; rfl) ?_⟩
    have aa := a9.same s914
    have bb := b9.trans (But.same s914)
    have eLa := s914 _ _ eL9
    have dua := du9.same fun t xs e => s914 _ _ e
    have ea := s914 _ _ e19
    clear s912 s914 s1214 s10 s11 s12 s13 s14 etl er1 er2 du2 e7 e8 a9 b9 n1 n2 ntl n7 n8 eL9 du9 e19 hp1 hs1 hp7b hs7b
    -- the first day and the days
    have zf1 : Sz 590 (fdF m y o k yr) := g.zfd (n := 78) (zyr.mono (by decide)) (by decide) (by decide)
    have zf2 : Sz 590 (fdF m y o k (yr + 1)) := g.zfd (n := 78) (zadd zyr 1 (l := 78)) (by decide) (by decide)
    refine ⟨_, rfl, _, rfl, _, rfl, _, _, rfl, rfl, .inl ⟨by decide, by decide⟩, r, _, m, y, o, k, rfl, aa.fo, g, (((szi (n := 10) 12).mul zyr).mono (by decide) : Sz 1200 (12 * yr)), fun H15 s15 => ?_⟩
    have z12 : Sz 200 (12 * yr) := ((szi (n := 10) 12).mul zyr).mono (by decide)
    have zmd : Sz 1000 (mdF y k (12 * yr)) := g.zmd z12 (by decide) (by decide)
    have zma : Sz 2000 (maF m o (mdF y k (12 * yr))) := g.zma zmd (by decide) (by decide)
    have a15 := aa.same s15
    have b15 := bb.trans (But.same s15)
    refine ⟨r, _, m, y, o, k, rfl, a15.fo, g, zma.mono (by decide), fun H16 s16 => ?_⟩
    have a16 := a15.same s16
    have b16 := b15.trans (But.same s16)
    have s1416 := s15.trans s16
    have eLc := s1416 _ _ eLa
    have duc := dua.same fun t xs e => s1416 _ _ e
    have ec := s1416 _ _ ea
    have hlt := fd_lt (o := o) (k := k) F yr
    have hin := inY_in (o := o) (k := k) (a := yr) F hgg
    show gName 9 (V.int (fdF m y o k yr)) _ _ _
    generalize fdF m y o k yr = f1 at *
    generalize fdF m y o k (yr + 1) = f2 at *
    clear s15 s16 s1416 aa bb eLa dua ea a15 b15 z12 zmd zma
    refine ⟨_, rfl, _, _, rfl, rfl, _, rfl, _, rfl, lw, _, rfl, a16.dr, by omega, fun v H17 v0 v1 b17 d17 => ?_⟩
    have a17 := a16.but b17 d17
    have b0 := b16.trans b17
    have nLw : ∀ {c : Addr} {us : List V}, H16 c = some (.tup us) → H17 c = some (.tup us) := fun e => b17 _ _ (fun w => by
      obtain ⟨_, _, _, ew, _⟩ := a16.dr
      rw [w, ew] at e
      cases e) e
    have eLd := b17 _ _ nLl eLc
    have dud := duc.same fun t xs e => nLw e
    have ed : H17 b = some (.ins Cb dx (fbs p d)) := b17 _ _ (fun w => by
      obtain ⟨_, _, _, ew, _⟩ := a16.dr
      rw [w, ew] at ec
      cases ec) ec
    refine ⟨_, _, rfl, rfl, md, _, _, rfl, rfl, (by show 2 ≤ sizeLine; decide), fun l1 nl1 => ?_⟩
    have s18 := Same.new (o := .lst [V.int (f1 - 1), V.int (f1 + v % 400)]) nl1
    have el1 := upd_same (H := H17) (a := l1) (o := .lst [V.int (f1 - 1), V.int (f1 + v % 400)])
    change (fun HC : Hp => _) (L2.upd H17 l1 (.lst [V.int (f1 - 1), V.int (f1 + v % 400)]))
    generalize L2.upd H17 l1 (.lst [V.int (f1 - 1), V.int (f1 + v % 400)]) = H18 at *
    refine ⟨_, rfl, ?_⟩
    dsimp only [tPart, tNoPart]
    refine ⟨_, rfl, _, rfl, L, us, rfl, SqL.of (s18 _ _ eLd), fun pc npc => ?_⟩
    have s19 := Same.new (o := .lst (cutV us (some (-1)) none)) npc
    have ecp := upd_same (H := H18) (a := pc) (o := .lst (cutV us (some (-1)) none))
    have hcs : ∀ v ∈ cutV us (some (-1)) none, v ∈ us := fun v hv => cut_mem hv
    have lcs : (cutV us (some (-1)) none).length ≤ 100 := by
      have h0 := cutV_length us (some (-1)) none
      rw [← dud.1] at h0
      have h1 := inY_len m y o k yr (gs.map (·.2))
      rw [List.length_map] at h1
      omega
    change (fun HC : Hp => _) (L2.upd H18 pc (.lst (cutV us (some (-1)) none)))
    generalize L2.upd H18 pc (.lst (cutV us (some (-1)) none)) = H19 at *
    generalize cutV us (some (-1)) none = cs at *
    have s1719 := s18.trans s19
    have hrow : ∀ i : Nat, ∃ dd : Int, i < cs.length → ∃ (t : Addr) (s : Str), cs[i]? = some (.ref t) ∧ H17 t = some (.tup [.int dd, .str s]) ∧ f1 ≤ dd ∧ dd < f2 := fun i => by
      by_cases hi : i < cs.length
      · have h1 := List.getElem?_eq_getElem hi
        have h2 := hcs _ (List.mem_of_getElem? h1)
        obtain ⟨j, hj⟩ := List.getElem?_of_mem h2
        obtain ⟨z, ez, t, et, ht⟩ := dud.2 j _ hj
        have h3 := hin z (List.mem_of_getElem? ez)
        exact ⟨z.1, fun _ => ⟨t, z.2, by rw [h1, et], ht, h3.1, h3.2⟩⟩
      · exact ⟨0, fun h => absurd h hi⟩
    obtain ⟨fd, hfd⟩ := Classical.skolem.mp hrow
    refine ⟨pc, rfl, ⟨_, SqL.of ecp⟩, fun D nD => ?_⟩
    refine lc_ints (walk_list (K := K) (a := pc) (xs := cs)) yAt_same nD (Nat.lt_of_le_of_lt lcs (by decide)) fd (fun H' s' => SqL.of (s' _ _ ecp)) ?_ ?_
    · rintro i x Ha Hb R hi sa ⟨rfl, hv⟩ k1
      obtain ⟨t, s, et, ht, _⟩ := hfd i hi
      rw [hv] at et
      obtain rfl := Option.some.inj et
      refine ⟨rfl, ?_⟩
      exact ⟨_, rfl, t, _, _, _, rfl, rfl, SqT.of (sa _ _ (s1719 _ _ ht)), rfl, k1 _ (Same.refl _)⟩
    intro H20 eD s20
    have s1720 := s1719.trans s20
    refine ⟨l1, D, _, _, rfl, rfl, s20 _ _ (s19 _ _ el1), eD, by rw [List.length_map, List.length_map, List.length_range]; exact Nat.le_trans (Nat.add_le_add_left lcs _) (by show 2 + 100 ≤ sizeLine; decide), fun ld nld => ?_⟩
    have hxs : ([V.int (f1 - 1), V.int (f1 + v % 400)] ++ ((List.range cs.length).map fd).map V.int) = ((f1 - 1) :: (f1 + v % 400) :: (List.range cs.length).map fd).map V.int := rfl
    rw [hxs]
    have v4 := Int.emod_nonneg v (show (400 : Int) ≠ 0 by decide)
    have v5 := Int.emod_lt_of_pos v (show (0 : Int) < 400 by decide)
    have hsz : ∀ x ∈ ((f1 - 1) :: (f1 + v % 400) :: (List.range cs.length).map fd), Sz 600 x := by
      have p1 : (2 : Nat) ^ 590 + 1000 < 2 ^ 600 := by decide
      intro x hx
      unfold Sz at *
      rcases List.mem_cons.mp hx with rfl | hx
      · omega
      rcases List.mem_cons.mp hx with rfl | hx
      · omega
      obtain ⟨i, hi, rfl⟩ := List.mem_map.mp hx
      obtain ⟨t, s, _, _, h1, h2⟩ := hfd i (List.mem_range.mp hi)
      omega
    have lxs : ((f1 - 1) :: (f1 + v % 400) :: (List.range cs.length).map fd).length ≤ 102 := by
      rw [List.length_cons, List.length_cons, List.length_map, List.length_range]
      omega
    have s21 := Same.new (o := .lst (((f1 - 1) :: (f1 + v % 400) :: (List.range cs.length).map fd).map V.int)) nld
    have eld := upd_same (H := H20) (a := ld) (o := .lst (((f1 - 1) :: (f1 + v % 400) :: (List.range cs.length).map fd).map V.int))
    generalize ((f1 - 1) :: (f1 + v % 400) :: (List.range cs.length).map fd) = xs at *
    change (fun HC : Hp => _) (L2.upd H20 ld (.lst (xs.map V.int)))
    generalize L2.upd H20 ld (.lst (xs.map V.int)) = H21 at *
    have s1721 := s1720.trans s21
    have az := a17.same s1721
    have bz := b0.trans (But.same s1721)
    have ez := s1721 _ _ ed
    have nldw : ld ≠ lw := ne_of_none' (a17.same s1720).dr nld
    clear s1721 s1720 s1719 s18 s19 s20 s21 a17 b0 b16 b17 ed ecp eLd dud eLc duc ec eD el1 hrow hfd hcs lcs hxs nLw hin hlt zf1 zf2 d17 d1 a16 npc nl1 nD nld nL hs7
    refine ⟨_, rfl, ld, rfl, ⟨_, SqL.of eld⟩, for_list (K := K) (a := ld) (xs := xs.map V.int) (fun i σ Hx => ∃ (v7 v11 v12 v13 : Option V) (ci : Nat), σ = [some (.ref b), some (.ref dk), some (.ref r), some (.ref lw), some (.int u), some (.int yr), some (.ref L), v7, v8, some (.int f1), some (.ref ld), v11, v12, v13, none, none] ∧ As C Cc Cb Cf Hx b p dk r lw m y o k fs gs ci ∧ ci ≤ c + 2 + i ∧ But lw H Hx ∧ Hx ld = some (.lst (xs.map V.int)) ∧ Hx b = some (.ins Cb dx (fbs p d))) ⟨_, _, _, _, _, rfl, az, by omega, bz, eld, ez⟩ (fun i σ Hx _ ⟨_, _, _, _, _, _, _, _, _, e, _⟩ => SqL.of e) ?_ ?_⟩
    · rintro i xv σ Hx hi ⟨v7, v11, v12, v13, ci, rfl, ax, hci, bx, ex, eb⟩
      clear az bz eld ez
      obtain ⟨x, hxm, rfl⟩ : ∃ x, x ∈ xs ∧ xv = V.int x := by
        rw [List.getElem?_map] at hi
        cases h : xs[i]? with
        | none => rw [h] at hi; cases hi
        | some x => rw [h] at hi; cases hi; exact ⟨x, List.mem_of_getElem? h, rfl⟩
      have hil : i < 102 := by
        have := (List.getElem?_eq_some_iff.mp hi).1
        rw [List.length_map] at this
        omega
      have zx := hsz x hxm
      have zy : Sz 800 (dtY m y o k x) := (g.zdY (n := 600) zx (by decide)).mono (by decide)
      refine ⟨_, rfl, _, rfl, _, rfl, _, rfl, r, x, m, y, o, k, rfl, ax.fo, g, zx.mono (by decide), fun H1 s1 => ?_⟩
      refine ⟨r, dk, _, m, y, o, k, gs, rfl, (ax.same s1).fo, g, zy, (ax.same s1).t.lk, fun L2a us2 H2 nL2 s2 eL2 du2 => ?_⟩
      refine ⟨L2a, rfl, ⟨_, SqL.of eL2⟩, fun D nD => ?_⟩
      have lu2 : us2.length ≤ 100 := by
        rw [← du2.1]
        have h1 := inY_len m y o k (dtY m y o k x) (gs.map (·.2))
        rw [List.length_map] at h1
        omega
      refine lc_fltV (walk_list (K := K) (a := L2a) (xs := us2)) yAt_same nD (Nat.lt_of_le_of_lt lu2 (by decide)) (fun i => .str (((inY m y o k (dtY m y o k x) (gs.map (·.2))).getD i d0).2)) (fun i => decide (((inY m y o k (dtY m y o k x) (gs.map (·.2))).getD i d0).1 = x)) (fun H' s' => SqL.of (s' _ _ eL2)) ?_ ?_
      · rintro j vv Ha Hb R N hj sa ⟨rfl, hv⟩ kT kF
        obtain ⟨z, ez, t, rfl, et⟩ := du2.2 j vv hv
        rw [getD_at ez] at kT kF
        refine ⟨t, _, rfl, SqT.of (sa _ _ et), rfl, _, _, rfl, _, _, rfl, rfl, ?_⟩
        refine ⟨rfl, ?_⟩
        refine ⟨_, rfl, _, rfl, rfl, _, rfl, ?_⟩
        by_cases hB : z.1 = x
        · rw [decide_eq_true (congrArg V.int hB)]
          exact iteT ⟨_, rfl, kT (decide_eq_true hB) _ (Same.refl _)⟩
        · rw [decide_eq_false (fun e => hB (V.int.inj e))]
          exact iteF (kF (decide_eq_false hB) _ (Same.refl _))
      intro H3 e3 s3
      rw [← du2.1, flt_range d0 (fun z => decide (z.1 = x)) (fun z => V.str z.2)] at e3
      have e3 : H3 D = some (.lst ((onD m y o k x (gs.map (·.2))).map V.str)) := by
        rw [e3]
        unfold onD
        rw [List.map_map]
        rfl
      have hon : (onD m y o k x (gs.map (·.2))).length < 64 := by
        have := onD_len (x := x) (o := o) (k := k) F hgg
        rw [List.length_map] at this
        omega
      have hoO := onD_ok (m := m) (y := y) (o := o) (k := k) (x := x) hgg
      refine ⟨D, _, rfl, SqL.of e3, hon, fun yo pd hpo hso npd => ?_⟩
      obtain rfl : yo = onD m y o k x (gs.map (·.2)) := sorted_one hpo (List.Perm.refl _) (sorted_pw hso) (onD_sorted _ _ _ _ _ _)
      have s4 := Same.new (o := .lst ((onD m y o k x (gs.map (·.2))).map V.str)) npd
      have ep4 := upd_same (H := H3) (a := pd) (o := .lst ((onD m y o k x (gs.map (·.2))).map V.str))
      have sx4 := s1.trans (s2.trans (s3.trans s4))
      have hon' : onD m y o k x (fs.map (·.2)) = onD m y o k x (gs.map (·.2)) := by rw [heq]
      generalize onD m y o k x (gs.map (·.2)) = od at *
      change (fun HC : Hp => _) (L2.upd H3 pd (.lst (od.map V.str)))
      generalize L2.upd H3 pd (.lst (od.map V.str)) = H4 at *
      have a4 := ax.same sx4
      have b4 := bx.trans (But.same sx4)
      have ex4 := sx4 _ _ ex
      have eb4 := sx4 _ _ eb
      clear sx4 s1 s2 s3 s4 ax bx ex eb e3 nD npd hpo hso eL2 nL2 du2 lu2
      refine ⟨_, rfl, b, dx, _, rfl, eb4, no1 (by decide +kernel) (by decide +kernel), _, rfl, rfl, b, p, x, m, y, o, k, fs, rfl, a4.t.bk, zx.mono (by decide), fun rt H5 nrt s5 ert => ?_⟩
      rw [hon'] at ert
      refine ⟨_, rfl, _, rfl, .list (od.map .str), .list (od.map .str), .lst (SqL.of ert) (strs_dps _), .lst (SqL.of (s5 _ _ ep4)) (strs_dps _), sh_strs hoO, sh_strs hoO, _, rfl, no' (by rw [eqv_strs hoO]; rfl) ?_⟩
      refine ⟨_, rfl, .inl ⟨rfl, _, SqL.of ert⟩, rt, _, _, rfl, rfl, ert, (by rw [List.length_map]; exact Nat.lt_of_lt_of_le hon (by decide)), ?_⟩
      have s46 := upd_keep (o := .lst (od.map V.str ++ [V.str "zzz"])) nrt s5
      change (fun HC : Hp => _) (L2.upd H5 rt (.lst (od.map V.str ++ [V.str "zzz"])))
      generalize L2.upd H5 rt (.lst (od.map V.str ++ [V.str "zzz"])) = H6 at *
      refine ⟨_, rfl, b, dx, _, rfl, s46 _ _ eb4, no1 (by decide +kernel) (by decide +kernel), _, rfl, b, p, x, m, y, o, k, fs, rfl, a4.t.bk.same s46, zx.mono (by decide), fun rt2 H7 nrt2 s7 ert2 => ?_⟩
      rw [hon'] at ert2
      have s47 := s46.trans s7
      refine ⟨_, rfl, .list (od.map .str), .list (od.map .str), .lst (SqL.of ert2) (strs_dps _), .lst (SqL.of (s47 _ _ ep4)) (strs_dps _), sh_strs hoO, sh_strs hoO, _, rfl, no' (by rw [eqv_strs hoO]; rfl) ?_⟩
      have hNx : nxL m y o k x none (fs.map (·.2)) = nxL m y o k x none (gs.map (·.2)) := by rw [heq]
      have hnO := nx_ok (m := m) (y := y) (o := o) (k := k) (x := x) (nm := none) hgg
      refine ⟨_, rfl, b, dx, _, rfl, s47 _ _ eb4, no1 (by decide +kernel) (by decide +kernel), _, rfl, rfl, sp_nxf (nm := none) rfl (a4.t.bk.same s47) zx (fun s e => by cases e) (fun s e => by cases e) fun w1 H8 s8 mv1 => ?_⟩
      rw [hNx] at mv1
      have s48 := s47.trans s8
      refine ⟨_, rfl, _, rfl, _, rfl, ?_⟩
      dsimp only [tCons, tC, tNil]
      refine sp_lnx (nm := none) rfl (a4.same s48).fo g zx (a4.same s48).t.lk (fun s e => by cases e) hgo fun w2 H9 s9 mv2 => ?_
      refine ⟨_, _, (mv1.same s9).dp F hgg, mv2.dp F hgg, sh_min hnO, sh_min hnO, _, rfl, no' (by rw [eqv_min hnO]; rfl) ?_⟩
      have s49 := s48.trans s9
      have a9 := a4.same s49
      have b9 := b4.trans (But.same s49)
      have ex9 := s49 _ _ ex4
      have eb9 := s49 _ _ eb4
      clear s49 s48 s47 s46 s5 s7 s8 s9 mv1 mv2 ert ert2 nrt nrt2 a4 b4 ex4 eb4 ep4 hNx hnO
      refine ⟨_, rfl, dk, fkv gs, nmsF gs, rfl, .inl a9.t.lk.ed, fkv_keys gs, by omega, fun yk pk hpk hsk npk => ?_⟩
      dsimp only [tPart, tNoPart]
      have s10 := Same.new (o := .lst (yk.map V.str)) npk
      have e10 := upd_same (H := H9) (a := pk) (o := .lst (yk.map V.str))
      change (fun HC : Hp => _) (L2.upd H9 pk (.lst (yk.map V.str)))
      generalize L2.upd H9 pk (.lst (yk.map V.str)) = H10 at *
      have a10 := a9.same s10
      refine ⟨_, rfl, lw, _, rfl, a10.dr, by omega, fun v2 H11 w0 w1 b11 d11 => ?_⟩
      have a11 := a10.but b11 d11
      have b0 := (b9.trans (But.same s10)).trans b11
      have e11 := b11 _ _ (ne_of_none' a9.dr npk) e10
      have ex11 := b11 _ _ nldw (s10 _ _ ex9)
      have eb10 := s10 _ _ eb9
      have eb11 : H11 b = some (.ins Cb dx (fbs p d)) := b11 _ _ (fun w => by
        obtain ⟨_, _, _, ew, _⟩ := a10.dr
        rw [w, ew] at eb10
        cases eb10) eb10
      obtain ⟨i1, hi1⟩ : ∃ i1 : Int, V.int (v2 % (if ((fkv gs).length : Int) > 1 then ((fkv gs).length : Int) else 1)) = V.int i1 := ⟨_, rfl⟩
      refine ⟨_, rfl, dk, _, rfl, a11.t.lk.ed, _, _, rfl, _, _, rfl, rfl, (by split <;> omega), i1, hi1, pk, _, rfl, SqL.of e11, fun p1 np1 => ?_⟩
      have hc1 : ∀ z ∈ cutV (yk.map V.str) (some i1) none, ∃ s ∈ yk, z = V.str s := fun z hz => by
        obtain ⟨s, hs, e⟩ := List.mem_map.mp (cut_mem hz)
        exact ⟨s, hs, e.symm⟩
      clear hi1
      generalize cutV (yk.map V.str) (some i1) none = c1 at *
      have s12 := Same.new (o := .lst c1) np1
      have e12 := upd_same (H := H11) (a := p1) (o := .lst c1)
      change (fun HC : Hp => _) (L2.upd H11 p1 (.lst c1))
      generalize L2.upd H11 p1 (.lst c1) = H12 at *
      refine ⟨_, rfl, p1, _, rfl, SqL.of e12, fun p2 np2 => ?_⟩
      have hc2 : ∀ z ∈ cutV c1 none (some 1), ∃ s ∈ yk, z = V.str s := fun z hz => hc1 z (cut_mem hz)
      generalize cutV c1 none (some 1) = c2 at *
      have s13 := Same.new (o := .lst c2) np2
      have e13 := upd_same (H := H12) (a := p2) (o := .lst c2)
      change (fun HC : Hp => _) (L2.upd H12 p2 (.lst c2))
      generalize L2.upd H12 p2 (.lst c2) = H13 at *
      have s1113 := s12.trans s13
      have az := a11.same s1113
      have bz := b0.trans (But.same s1113)
      have exz := s1113 _ _ ex11
      have ebz := s1113 _ _ eb11
      clear s1113 s12 s13 a11 b0 e11 ex11 eb11 a10 b11 d11 s10 e10 a9 b9 ex9 eb9 eb10 npk np1 np2 e12 hc1 hsk
      refine ⟨p2, rfl, ⟨_, SqL.of e13⟩, for_list (K := K) (a := p2) (xs := c2) (g := gName 13) (D := { nx := _, rt := _, bk := fun _ _ => True, ct := fun _ _ => True }) (fun j σ Hy => ∃ (v13 : Option V), σ = [some (.ref b), some (.ref dk), some (.ref r), some (.ref lw), some (.int u), some (.int yr), some (.ref L), some (.ref rt), v8, some (.int f1), some (.ref ld), some (.int x), some (.ref pd), v13, none, none] ∧ Same H13 Hy) ⟨_, rfl, Same.refl _⟩ (fun j σ Hy _ ⟨_, _, s⟩ => SqL.of (s _ _ e13)) ?_ ?_⟩
      · rintro j zv σ Hy hj ⟨v13', rfl, sy⟩
        obtain ⟨nm, hnm2, rfl⟩ := hc2 zv (List.mem_of_getElem? hj)
        have hmg : nm ∈ nmsF gs := hpk.mem_iff.mp hnm2
        obtain ⟨qg, hqg, hqn⟩ := List.mem_map.mp hmg
        have hhas : ∃ q ∈ fs, q.2.nm = nm := az.t.has.mpr ⟨qg, hqg, hqn⟩
        have hlen : nm.length ≤ 2 := by rw [← hqn]; exact (az.t.o qg hqg).l
        have hok : PyData.strOk nm = true := by rw [← hqn]; exact hgo qg hqg
        have ay := az.same sy
        refine ⟨_, rfl, _, rfl, _, rfl, (by show 1 ≤ sizeLine; decide), fun p3 np3 => ?_⟩
        have s3 := Same.new (o := .lst [V.int x]) np3
        have e3 := upd_same (H := Hy) (a := p3) (o := .lst [V.int x])
        generalize L2.upd Hy p3 (.lst [V.int x]) = H3 at *
        have hNx : nxL m y o k x (some nm) (fs.map (·.2)) = nxL m y o k x (some nm) (gs.map (·.2)) := by rw [heq]
        have hnO := nx_ok (m := m) (y := y) (o := o) (k := k) (x := x) (nm := some nm) hgg
        refine ⟨b, p, p3, 2, nm, m, y, o, k, fs, rfl, (ay.same s3).t.bk, by omega, .inr (.inr ⟨rfl, x, e3, zx, fun _ rr vv H4 s4 mv er => ?_, fun hn => absurd hhas (has_no.mpr hn)⟩)⟩
        rw [hNx] at mv
        have a4 := (ay.same s3).same s4
        refine ⟨_, rfl, _, rfl, _, rfl, _, rfl, ?_⟩
        dsimp only [tCons, tC, tNil]
        refine sp_lnx (nm := some nm) rfl a4.fo g zx a4.t.lk (fun s e => by cases e; exact hok) hgo fun w2 H5 s5 mv2 => ?_
        refine ⟨(by show 2 ≤ sizeLine; decide), fun p6 np6 => ?_⟩
        have s6 := Same.new (o := .lst [V.str "told", w2]) np6
        have e6 := upd_same (H := H5) (a := p6) (o := .lst [V.str "told", w2])
        generalize L2.upd H5 p6 (.lst [V.str "told", w2]) = H6 at *
        refine ⟨tmD _, tmD _, .lst (SqL.of (s6 _ _ (s5 _ _ er))) (.cons (.str _) (.cons ((mv.same (s5.trans s6)).dp F hgg) .nil)), .lst (SqL.of e6) (.cons (.str _) (.cons ((mv2.same s6).dp F hgg) .nil)), sh_tm hnO, sh_tm hnO, _, rfl, no' (by rw [eqv_tm hnO]; rfl) ?_⟩
        exact ⟨_, rfl, sy.trans (s3.trans (s4.trans (s5.trans s6)))⟩
      · rintro σ H14 ⟨v13', rfl, s14⟩
        have a14 := az.same s14
        refine ⟨_, rfl, _, rfl, (by show 1 ≤ sizeLine; decide), fun p3 np3 => ?_⟩
        have s3 := Same.new (o := .lst [V.int x]) np3
        have e3 := upd_same (H := H14) (a := p3) (o := .lst [V.int x])
        generalize L2.upd H14 p3 (.lst [V.int x]) = H3 at *
        refine ⟨b, p, p3, 2, ("zzz" : Str), m, y, o, k, fs, rfl, (a14.same s3).t.bk, (by decide +kernel), .inr (.inr ⟨rfl, x, e3, zx, fun hq => ?_, fun _ rr H4 s4 er => ?_⟩)⟩
        · obtain ⟨qg, hqg, hqn⟩ := a14.t.has.mp hq
          have h2 := (az.t.o qg hqg).l
          rw [hqn] at h2
          exact absurd h2 (by decide +kernel)
        refine ⟨ln _, fun p5 np5 => ?_⟩
        have s5 := Same.new (o := .lst [V.str "name", V.str "zzz"]) np5
        have s145 := s14.trans (s3.trans (s4.trans s5))
        refine ⟨.list [.str "name", .str "zzz"], .list [.str "name", .str "zzz"], .lst (SqL.of (s5 _ _ er)) (.cons (.str _) (.cons (.str _) .nil)), .lst (SqL.of upd_same) (.cons (.str _) (.cons (.str _) .nil)), sh_ss okName okZ, sh_ss okName okZ, _, rfl, no' (by rw [eqv_ss okName okZ]; rfl) ?_⟩
        exact ⟨_, _, _, _, _, rfl, az.same s145, by omega, bz.trans (But.same s145), s145 _ _ exz, s145 _ _ ebz⟩
    · rintro σ Hx ⟨v7, v11, v12, v13, ci, rfl, ax, hci, bx, ex, eb⟩
      rw [List.length_map] at hci
      exact q _ _ bx ax.dr (by omega)
end
/-! ### a book filled at once -/
def nmK (j : Nat) : Str := rpS ⟨#[97 + 7 * j % 20]⟩ (1 + j / 20)
theorem nmK_inj : ∀ i : Nat, i < 40 → ∀ j : Nat, j < 40 → nmK i = nmK j → i = j := by decide +kernel
theorem nmK_at : ∀ j : Nat, j < 40 → atI (("abcdefghijklmnopqrst" : Str).cps.toList) (7 * (0 + (j : Int)) % 20) = some (97 + 7 * j % 20) := by decide +kernel
theorem nmK_ok {j : Nat} : PyData.strOk (nmK j) = true := rp_all (by show (#[97 + 7 * j % 20] : Array Nat).all (· < 0x110000) = true; simp; omega) _
theorem nmK_len {j : Nat} (h : j < 40) : (nmK j).length ≤ 2 := by
  unfold nmK
  rw [rp_len]
  show _ * 1 ≤ 2
  omega
section
variable {C Cc Cb Cf b p dk r lw : Addr} {H H1 H2 : Hp} {m y o k : Rat} {fs gs : List (Addr × Fst)} {c : Nat}
theorem Off.mk {dx d : Addr} (e : H b = some (.ins Cb dx (fbs p d))) (n : c ≠ d) : Off Cb H b p c := fun dx' d' e' => by
  rw [e] at e'
  have e3 := HO.ins.inj (Option.some.inj e')
  rw [← fbs_inj e3.2.2]
  exact n
theorem StB.trans (hb : Bk C Cc Cb Cf H b p m y o k fs) (nl : b ≠ lw) (nd : b ≠ dk) (s1 : StB Cb b p dk lw H H1) (s2 : StB Cb b p dk lw H1 H2) : StB Cb b p dk lw H H2 := fun c o' n n' ho e => by
  obtain ⟨dx, d, e1, e2⟩ := hb.ob
  exact s2 c o' n n' (ho.of e1 (s1 _ _ nl nd (hb.off e1 (fun _ z => nomatch z)) e1)) (s1 c o' n n' ho e)
theorem StB.fo (hb : Bk C Cc Cb Cf H b p m y o k fs) (dr : Dr H lw c) {kv : List (L2.Key × V)} (ek : H dk = some (.dK kv)) (s : StB Cb b p dk lw H H1) (fo : Fo H r m y o k) : Fo H1 r m y o k := by
  obtain ⟨a', b', c', d', e0, h1, h2, h3, h4⟩ := fo
  have up : ∀ {c : Addr} {xs : List V}, H c = some (.tup xs) → H1 c = some (.tup xs) := fun e => s _ _ (fun w => by
    obtain ⟨_, _, _, ew, _⟩ := dr
    rw [w, ew] at e
    cases e) (fun w => by
    rw [w, ek] at e
    cases e) (hb.off e (fun _ z => nomatch z)) e
  exact ⟨a', b', c', d', up e0, up h1, up h2, up h3, up h4⟩
theorem StB.but (s : But lw H H1) : StB Cb b p dk lw H H1 := fun c o n _ _ e => s c o n e
end
def spFilled (C Cc Cb Cf : Addr) : Sp := fun vs H Q _ => ∃ (b p dk r lw : Addr) (m y o k : Rat) (c : Nat), vs = [.ref b, .ref dk, .ref r, .ref lw] ∧ As C Cc Cb Cf H b p dk r lw m y o k [] [] c ∧ c ≤ 800000 ∧
  ∀ c' H', StB Cb b p dk lw H H' → Dr H' lw c' → c' ≤ c + 300 → Q (.bl true) H'
section
variable {P : Program} {w : World} {K : PySem.W.Frag} {mg : Str → Option Value} {base : Heap} {C Cc Cb Cf : Addr}
theorem ok_lfilled (D : Df K mg "_law_filled" s_l_filled []) (f_l_next : Ca P w K mg base CX0 1 "_law_next" s_l_next [] ["_law_draws_here"] spNext) (g_range : mg "range" = none) (f_l_deed : Ca P w K mg base CX0 16 "_law_deed" s_l_deed [] ["_law_book", "_law_way", "_law_a_name", "_law_fields"] (spDeed C Cc Cb Cf)) (f_l_asked : Ca P w K mg base CX0 18 "_law_asked" s_l_asked [] ["_law_book", "_law_kept", "_law_four_here", "_law_draws_here"] (spAsked67 C Cc Cb Cf)) :
    Ca P w K mg base CX0 19 "_law_filled" s_l_filled [] ["_law_book", "_law_kept", "_law_four_here", "_law_draws_here"] (spFilled C Cc Cb Cf) := by
  refine ca0 (k := 18) D c_l_filled (fun vs H Q E h => ?_) fun f cdv A outer s H vs Q E hr h => ?_
  · obtain ⟨b, p, dk, r, lw, m, y, o, k, c, rfl, _⟩ := h
    rfl
  · obtain ⟨b, p, dk, r, lw, m, y, o, k, c, rfl, ha, hc, q⟩ := h
    obtain ⟨dx, d, e1, e2⟩ := ha.t.bk.ob
    have nbl : b ≠ lw := fun w => by
      obtain ⟨_, _, _, e, _⟩ := ha.dr
      rw [w, e] at e1
      cases e1
    have nbd : b ≠ dk := fun w => by
      rw [w, ha.t.lk.ed] at e1
      cases e1
    refine ⟨_, (pss_cons (ps_for PassesOwn.never rfl (pi_range1 rfl g_range (pa_cons pe_int pa_nil)) (pg_name (i := 4) c_l_filled.nd rfl (.inl rfl)) (pss_cons (ps_set (i := 5) c_l_filled.nd rfl (.inl rfl) (pe_ca f_l_next b_l_next hr (by decide) pass0 rfl (pa_cons (pv 3) pa_nil)))
      (pss_cons (ps_set (i := 6) c_l_filled.nd rfl (.inl rfl) (pe_tup (pa_cons (pe_op op_add pe_int (pe_op op_mod (pv 5) pe_int)) (pa_cons (pe_op op_add pe_int (pe_op op_mod (pe_op op_fdiv (pv 5) pe_int) pe_int)) (pa_cons (pe_ix ix_list (pe_lst (pa_cons pe_str (pa_cons pe_str (pa_cons pe_str pa_nil)))) (pe_op op_mod (pe_op op_fdiv (pv 5) pe_int) pe_int) (fun _ _ => rfl)) pa_nil)))))
      (pss_cons (ps_set (i := 7) c_l_filled.nd rfl (.inl rfl) (pe_op op_mulR (pe_ix ix_str pe_str (pe_op op_mod (pe_op op_mul pe_int (pv 4)) pe_int) (fun _ _ => rfl)) (pe_op op_add pe_int (pe_op op_fdiv (pv 4) pe_int))))
      (pss_cons (ps_dput (hu1 hr) (pv 1) (pv 7) (pv 6) rfl)
      (pss_one (ps_if (pt_cmpR (op_neD hr.units) (pe_ca f_l_deed b_l_deed hr (by decide) pass0 rfl (pa_cons (pv 0) (pa_cons pe_int (pa_cons (pv 7) (pa_cons (pv 6) pa_nil))))) (pe_lst (pa_cons pe_str (pa_cons pe_non pa_nil))) (nomark _)) (pss_one (ps_ret pe_bl)) pss_nil)))))))
      (pss_one (ps_ret (pe_ca f_l_asked b_l_asked hr (by decide) pass0 rfl (pa_cons (pv 0) (pa_cons (pv 1) (pa_cons (pv 2) (pa_cons (pv 3) pa_nil)))))))), ?_⟩
    refine ⟨_, rfl, by decide, by decide, ?_⟩
    refine for_range (n := 40) (fun j σ Hx => ∃ (v4 v5 v6 v7 : Option V) (fs gs : List (Addr × Fst)) (cj : Nat), σ = [some (.ref b), some (.ref dk), some (.ref r), some (.ref lw), v4, v5, v6, v7] ∧ As C Cc Cb Cf Hx b p dk r lw m y o k fs gs cj ∧ gs.map (fun q => q.2.nm) = (List.range j).map nmK ∧ cj ≤ c + j ∧ StB Cb b p dk lw H Hx) ⟨_, _, _, _, [], [], c, rfl, ha, rfl, by omega, StB.but But.refl⟩ ?_ ?_
    · rintro j σ H0 hj ⟨v4, v5, v6, v7, fs, gs, cj, rfl, a0, hns, hcj, st0⟩
      have hlj : gs.length = j := by
        have := congrArg List.length hns
        rw [List.length_map, List.length_map, List.length_range] at this
        exact this
      refine ⟨_, rfl, lw, _, rfl, a0.dr, by omega, fun u H2 u0 u1 b2 d2 => ?_⟩
      have a2 := a0.but b2 d2
      have n0 := Int.emod_nonneg u (show (12 : Int) ≠ 0 by decide)
      have n1 := Int.emod_lt_of_pos u (show (0 : Int) < 12 by decide)
      have k0 := Int.emod_nonneg (u / 12) (show (31 : Int) ≠ 0 by decide)
      have k1 := Int.emod_lt_of_pos (u / 12) (show (0 : Int) < 31 by decide)
      refine ⟨_, rfl, _, _, rfl, rfl, md, _, _, rfl, rfl, _, rfl, _, _, rfl, rfl, ⟨by decide, by decide⟩, _, _, rfl, rfl, md, _, _, rfl, rfl, (by show 3 ≤ sizeLine; decide), fun pw npw => ?_⟩
      obtain ⟨w', hw'⟩ : ∃ w' : Str, atI [V.str "plain", V.str "odd", V.str "both"] (u / 1200 % 3) = some (.str w') := by
        have h0 := Int.emod_nonneg (u / 1200) (show (3 : Int) ≠ 0 by decide)
        have h1 := Int.emod_lt_of_pos (u / 1200) (show (0 : Int) < 3 by decide)
        have h : u / 1200 % 3 = 0 ∨ u / 1200 % 3 = 1 ∨ u / 1200 % 3 = 2 := by omega
        rcases h with e | e | e <;> rw [e] <;> exact ⟨_, rfl⟩
      have s3 := Same.new (o := .lst [V.str "plain", V.str "odd", V.str "both"]) npw
      have ew := upd_same (H := H2) (a := pw) (o := .lst [V.str "plain", V.str "odd", V.str "both"])
      have a3 := a2.same s3
      have st3 : ∀ c o, c ≠ lw → c ≠ dk → H0 c = some o → (L2.upd H2 pw (.lst [V.str "plain", V.str "odd", V.str "both"])) c = some o := fun c o n n' e => s3 _ _ (b2 _ _ n e)
      change (fun HC : Hp => _) (L2.upd H2 pw (.lst [V.str "plain", V.str "odd", V.str "both"]))
      generalize L2.upd H2 pw (.lst [V.str "plain", V.str "odd", V.str "both"]) = H3 at *
      refine ⟨_, rfl, _, _, rfl, rfl, ⟨by decide, by decide⟩, _, _, rfl, rfl, md, pw, _, _, .str w', rfl, rfl, SqL.of ew, hw', ?_⟩
      refine ⟨(by show 3 ≤ sizeLine; decide), fun tf ntf => ?_⟩
      have s5 := Same.new (o := .tup [V.int (1 + u % 12), V.int (1 + u / 12 % 31), V.str w']) ntf
      have etf := upd_same (H := H3) (a := tf) (o := .tup [V.int (1 + u % 12), V.int (1 + u / 12 % 31), V.str w'])
      have a5 := a3.same s5
      have st5 : ∀ c o, c ≠ lw → c ≠ dk → H0 c = some o → (L2.upd H3 tf (.tup [V.int (1 + u % 12), V.int (1 + u / 12 % 31), V.str w'])) c = some o := fun c o n n' e => s5 _ _ (st3 c o n n' e)
      change (fun HC : Hp => _) (L2.upd H3 tf (.tup [V.int (1 + u % 12), V.int (1 + u / 12 % 31), V.str w']))
      generalize L2.upd H3 tf (.tup [V.int (1 + u % 12), V.int (1 + u / 12 % 31), V.str w']) = H5 at *
      refine ⟨_, rfl, _, _, rfl, rfl, .inl ⟨by decide, by decide⟩, _, _, rfl, rfl, md, _, _, 97 + 7 * j % 20, rfl, rfl, ?_, nmK_at j hj, ?_⟩
      · exact Nat.le_of_ble_eq_true (by decide +kernel)
      refine ⟨_, rfl, _, _, rfl, rfl, ⟨by decide, by decide⟩, _, _, rfl, rfl, ⟨#[97 + 7 * j % 20]⟩, 1 + j / 20, rfl, (by show V.int _ = V.int _; congr 1; omega), by omega, (by show 1 ≤ 1000; decide), ?_⟩
      have znr : Sz 900 (1 + u % 12) := (Sz.of (n := 5) (by omega) (by omega)).mono (by decide)
      have hno : ∀ q ∈ gs, q.2.nm ≠ nmK j := fun q' hq e => by
        have hm : q'.2.nm ∈ gs.map (fun q => q.2.nm) := List.mem_map.mpr ⟨q', hq, rfl⟩
        rw [hns] at hm
        obtain ⟨i, hi, he⟩ := List.mem_map.mp hm
        have hi := List.mem_range.mp hi
        have := nmK_inj i (by omega) j hj (he.trans e)
        omega
      have hno' : ∀ q ∈ fs, q.2.nm ≠ nmK j := has_no.mp fun h => has_no.mpr hno (a5.t.has.mp h)
      have hok := nmK_ok (j := j)
      have hnm := nmK_len hj
      have hns' : (List.range (j + 1)).map nmK = gs.map (fun q => q.2.nm) ++ [nmK j] := by rw [List.range_succ, List.map_append, hns]; rfl
      rw [show rpS ⟨#[97 + 7 * j % 20]⟩ (1 + j / 20) = nmK j from rfl]
      generalize nmK j = nm at *
      refine ⟨_, rfl, _, rfl, _, rfl, dk, _, rfl, DPut.k (k := .inr nm) a5.t.lk.ed ?_, ?_⟩
      · unfold fkv
        rw [List.length_map]
        exact Nat.lt_of_lt_of_le (show gs.length < 40 by omega) (by decide)
      rw [putK_fkv (z := ⟨nm, 1 + u % 12, 1 + u / 12 % 31, w'⟩) hno]
      have mem : ∀ {q' : Addr × Fst}, q' ∈ gs ++ [(tf, (⟨nm, 1 + u % 12, 1 + u / 12 % 31, w'⟩ : Fst))] → q' ∈ gs ∨ q' = (tf, ⟨nm, 1 + u % 12, 1 + u / 12 % 31, w'⟩) := fun h => by
        rcases List.mem_append.mp h with h | h
        · exact .inl h
        · exact .inr (List.mem_singleton.mp h)
      have t6 := a5.t.put (gs' := gs ++ [(tf, ⟨nm, 1 + u % 12, 1 + u / 12 % 31, w'⟩)]) (fun q' hq => by
        rcases mem hq with hq | rfl
        · exact a5.t.lk.tp q' hq
        · exact etf) (by
        rw [List.map_append, List.nodup_append]
        refine ⟨a5.t.lk.nd, by simp, fun a ha b hb e => ?_⟩
        obtain ⟨q', hq, rfl⟩ := List.mem_map.mp ha
        rw [List.map_cons, List.map_nil, List.mem_singleton] at hb
        exact hno q' hq (e.trans hb)) (fun q' hq => by
        rcases mem hq with hq | rfl
        · exact a5.t.lk.sz q' hq
        · exact znr) (by rw [List.length_append]; show _ + 1 ≤ 50; omega)
      have ne6 : ∀ {c : Addr} {xs : List V}, H5 c = some (.lst xs) → c ≠ dk := fun e w => by rw [w, a5.t.lk.ed] at e; cases e
      have d6 := a5.dr.kp (H1 := L2.upd H5 dk (.dK (fkv (gs ++ [(tf, ⟨nm, 1 + u % 12, 1 + u / 12 % 31, w'⟩)])))) fun xs e => (upd_ne (ne6 e)).trans e
      have etf6 := (upd_ne (o := .dK (fkv (gs ++ [(tf, ⟨nm, 1 + u % 12, 1 + u / 12 % 31, w'⟩)]))) (ne_of etf a5.t.lk.ed (by intro zz; cases zz))).trans etf
      have st6 : ∀ c o, c ≠ lw → c ≠ dk → H0 c = some o → (L2.upd H5 dk (.dK (fkv (gs ++ [(tf, ⟨nm, 1 + u % 12, 1 + u / 12 % 31, w'⟩)])))) c = some o := fun c o n n' e => (upd_ne n').trans (st5 c o n n' e)
      generalize L2.upd H5 dk (.dK (fkv (gs ++ [(tf, ⟨nm, 1 + u % 12, 1 + u / 12 % 31, w'⟩)]))) = H6 at *
      refine ⟨_, rfl, _, rfl, _, rfl, b, p, tf, 0, nm, m, y, o, k, fs, rfl, t6.bk, by omega, .inl ⟨rfl, ⟨nm, 1 + u % 12, 1 + u / 12 % 31, w'⟩, rfl, etf6, znr, by have := a5.t.len; omega, fun _ pf r' H' kp hb er => ?_, fun hq => absurd hq (has_no.mpr hno')⟩⟩
      refine ⟨ln _, fun l7 nl7 => ?_⟩
      have s7 := Same.new (o := .lst [.str "told", .non]) nl7
      have t7 := t6.deed kp hb (by rw [List.map_append, List.map_append, a5.t.e]; rfl) (fun q' hq => by
        rcases mem hq with hq | rfl
        · exact a5.t.o q' hq
        · exact ⟨⟨by show 1 ≤ 1 + u % 12; omega, by show 1 + u % 12 ≤ 12; omega, by show 1 ≤ 1 + u / 12 % 31; omega, hok⟩, hnm, by show 1 + u / 12 % 31 ≤ 1000000; omega⟩)
      refine ⟨.list [.str "told", .none], .list [.str "told", .none], .lst (SqL.of (s7 _ _ er)) (.cons (.str _) (.cons .non .nil)), .lst (SqL.of upd_same) (.cons (.str _) (.cons .non .nil)), sh_sn okTold, sh_sn okTold, _, rfl, no' (by rw [eqv_sn okTold]; rfl) ?_⟩
      have eb0 := st0 _ _ nbl nbd (ha.t.bk.off e1 (fun _ z => nomatch z)) e1
      have st7 : StB Cb b p dk lw H0 (L2.upd H' l7 (.lst [.str "told", .non])) := .mk' eb0 nbl nbd st6 fun c o n e => s7 _ _ (kp _ _ n e)
      exact ⟨_, _, _, _, _, _, _, rfl, ⟨t7.same s7, StB.fo a0.t.bk a0.dr a0.t.lk.ed st7 a0.fo, (d6.off t6.bk kp).same s7 (Nat.le_refl _)⟩, by rw [List.map_append, hns']; rfl, by omega, StB.trans ha.t.bk nbl nbd st0 st7⟩
    · rintro σ H0 ⟨v4, v5, v6, v7, fs, gs, cj, rfl, a0, hns, hcj, st0⟩
      have hlj : gs.length = 40 := by
        have := congrArg List.length hns
        rw [List.length_map, List.length_map, List.length_range] at this
        exact this
      refine ⟨_, rfl, _, rfl, _, rfl, _, rfl, b, p, dk, r, lw, m, y, o, k, fs, gs, cj, rfl, a0, by omega, by omega, fun c' H' bt dt hc' => ?_⟩
      exact q _ _ (StB.trans ha.t.bk nbl nbd st0 (StB.but bt)) dt (by omega)
end
/-! ### the law's right -/
def BtL (l : Addr) (H H1 : Hp) : Prop := ∀ c xs, c ≠ l → H c = some (.lst xs) → H1 c = some (.lst xs)
theorem BtL.trans {l : Addr} {H H1 H2 : Hp} (a : BtL l H H1) (b : BtL l H1 H2) : BtL l H H2 := fun c xs n e => b c xs n (a c xs n e)
theorem BtL.but {l : Addr} {H H1 : Hp} (a : But l H H1) : BtL l H H1 := fun c xs n e => a c _ n e
theorem BtL.same {l : Addr} {H H1 : Hp} (a : Same H H1) : BtL l H H1 := fun c xs _ e => a c _ e
def spR69 : Sp := fun vs H Q _ => ∃ (l : Addr), vs = [.ref l] ∧ Dr H l 0 ∧ ∀ H', BtL l H H' → Q (.bl true) H'
theorem kb_Feasts_calendar : Kbm "__init__" "Feasts.__init__" s_Feasts_init 1 ["calendar"] ["self", "calendar"] g1 := ⟨fun _ _ _ _ _ _ us ws hu hw => match us, hu, ws, hw with | [_], _, [_], _ => rfl, g1_rel⟩
theorem kb_Feasts_rel {vs : List V} {us : List Value} {zs : List V} {ws : List Value} (h : Vals vs us) (k : Vals zs ws) : Vals (g1 vs zs) (g1 us ws) := h.append k
theorem bd_next_feast2 : Bd1 "next_feast" "Feasts.next_feast" s_Feasts_next_feast ["self", "day", "name"] 2 0 1 := fun _ _ _ _ _ _ _ us its hu hi => match us, hu, its, hi with | [_, _], _, [_], _ => ⟨_, rfl, rfl⟩
theorem made_fb7 {Cb : Addr} {H : Hp} {R : Addr → Hp → Prop} {E : XK} {p : Addr} (h : ∀ b dx d H', H b = none → H d = none → Same H H' → H' b = some (.ins Cb dx (fbs p d)) → H' d = some (.dK []) → R b H') :
    ∀ b dx, H b = none → H dx = none → dx ≠ b → spFbI Cb [.ref b, .ref p] (L2.upd (L2.upd H dx (.own b)) b (.ins Cb dx [])) (fun v H2 => v = .non ∧ R b H2) E := by
  intro b dx hb hd ne
  have s0 : Same H (L2.upd (L2.upd H dx (.own b)) b (.ins Cb dx [])) := Same.upd (Same.new hd) (by rw [upd_ne ne.symm]; exact hb)
  refine ⟨b, dx, p, rfl, upd_same, fun d H' b' nd e1 e2 => ⟨rfl, ?_⟩⟩
  exact h b dx d H' hb (s0.free nd) (fun c o e => b' c o (ne_of_none e hb) (s0 c o e)) e1 e2
section
variable {C Cc Cb Cf b o' p dk dk2 r lw : Addr} {H H' : Hp} {m y o k : Rat} {fs gs fs2 : List (Addr × Fst)} {c c' : Nat}
/-- what another book does leaves a book as it is -/
theorem As.else (ha : As C Cc Cb Cf H b p dk r lw m y o k fs gs c) (ho : Bk C Cc Cb Cf H o' p m y o k fs2) (s : StB Cb o' p dk2 lw H H') (d' : Dr H' lw c') {kv2 : List (L2.Key × V)} (e2 : H dk2 = some (.dK kv2))
    (hdb : ∀ dx d, H b = some (.ins Cb dx (fbs p d)) → d ≠ dk2 ∧ Off Cb H o' p d) (nk : dk ≠ dk2) (ok : Off Cb H o' p dk) : As C Cc Cb Cf H' b p dk r lw m y o k fs gs c' := by
  obtain ⟨_, _, _, ew, _⟩ := ha.dr
  have kp : ∀ {a : Addr} {u : HO}, (∀ xs, u ≠ .lst xs) → (∀ kv, u ≠ .dK kv) → H a = some u → H' a = some u := fun n1 n2 e => s _ _ (fun w => by
    rw [w, ew] at e
    exact n1 _ (Option.some.inj e).symm) (fun w => by
    rw [w, e2] at e
    exact n2 _ (Option.some.inj e).symm) (ho.off e n2) e
  have kpi : ∀ {a c dx : Addr} {fs : List (Str × V)}, H a = some (.ins c dx fs) → H' a = some (.ins c dx fs) := fun e => kp (fun _ z => nomatch z) (fun _ z => nomatch z) e
  have kpt : ∀ {a : Addr} {xs : List V}, H a = some (.tup xs) → H' a = some (.tup xs) := fun e => kp (fun _ z => nomatch z) (fun _ z => nomatch z) e
  obtain ⟨dx, d, e1, ed⟩ := ha.t.bk.ob
  obtain ⟨h1, h2⟩ := hdb dx d e1
  have ed' : H' d = some (.dK (fkv fs)) := s _ _ (fun w => by rw [w, ew] at ed; cases ed) h1 h2 ed
  have ek' : H' dk = some (.dK (fkv gs)) := s _ _ (fun w => by have := ha.t.lk.ed; rw [w, ew] at this; cases this) nk ok ha.t.lk.ed
  obtain ⟨a', b', c', d', e0, t1, t2, t3, t4⟩ := ha.fo
  exact ⟨⟨⟨⟨dx, d, kpi e1, ed'⟩, ha.t.bk.c.kp kpi, ha.t.bk.g, fun q hq => by
    obtain ⟨dxq, e⟩ := ha.t.bk.fe q hq
    exact ⟨dxq, kpi e⟩, ha.t.bk.sz, ha.t.bk.z⟩, ⟨ek', fun q hq => kpt (ha.t.lk.tp q hq), ha.t.lk.nd, ha.t.lk.sz, ha.t.lk.z⟩, ha.t.e, ha.t.o, ha.t.of.of e1 (kpi e1)⟩, ⟨a', b', c', d', kpt e0, kpt t1, kpt t2, kpt t3, kpt t4⟩, by assumption⟩
theorem StB.btl (hb : Bk C Cc Cb Cf H b p m y o k fs) {kv : List (L2.Key × V)} (ek : H dk = some (.dK kv)) (s : StB Cb b p dk lw H H') : BtL lw H H' := fun a xs n e => s _ _ n (fun w => by
  rw [w, ek] at e
  cases e) (hb.off e (fun _ z => nomatch z)) e
end
section
variable {P : Program} {w : World} {K : PySem.W.Frag} {mg : Str → Option Value} {base : Heap} {C Cc Cb Cf CM : Addr}
theorem ok_lr67 (D : Df K mg "_law_right" s_l_right []) (f_l_next : Ca P w K mg base CX0 1 "_law_next" s_l_next [] ["_law_draws_here"] spNext) (f_l_four : Ca P w K mg base CX0 4 "_law_four" s_l_four [] ["_law_draws_here"] spFour) (g_range : mg "range" = none) (f_l_cal : Ca P w K mg base CX0 10 "_law_cal" s_l_cal [] ["_law_draws_here", "_law_four_here"] (spCal C Cc)) (f_Feasts : Ci P w K mg base CX0 1 "Feasts" Cb "Feasts.__init__" s_Feasts_init [] ["self", "calendar"] (spFbI Cb))
    (f_called : Cm P w K mg base CX0 1 Cb "called" "Feasts.called" s_Feasts_called ["self"] (spCald C Cc Cb Cf)) (f_next_feast : CmD P w K mg base (L2.CX P w) 15 Cb "next_feast" "Feasts.next_feast" s_Feasts_next_feast [.non] ["self", "day", "name"] (spNxfX C Cc Cb Cf CM))
    (f_l_done : Ca P w K mg base CX0 17 "_law_done" s_l_done [] ["_law_book", "_law_kept", "_law_draws_here"] (spDone C Cc Cb Cf)) (f_l_asked : Ca P w K mg base CX0 18 "_law_asked" s_l_asked [] ["_law_book", "_law_kept", "_law_four_here", "_law_draws_here"] (spAsked67 C Cc Cb Cf)) (f_l_filled : Ca P w K mg base CX0 19 "_law_filled" s_l_filled [] ["_law_book", "_law_kept", "_law_four_here", "_law_draws_here"] (spFilled C Cc Cb Cf)) :
    Ca P w K mg base CX0 20 "_law_right" s_l_right [] ["_law_draws_here"] spR69 := by
  refine ca0 (k := 19) D c_l_right (fun vs H Q E h => ?_) fun f cdv A outer s H vs Q E hr h => ?_
  · obtain ⟨l, rfl, _⟩ := h
    rfl
  · obtain ⟨l, rfl, d0, q⟩ := h
    refine ⟨_, (pss_cons (ps_set (i := 1) c_l_right.nd rfl (.inl rfl) (pe_ca f_l_four b_l_four hr (by decide) pass0 rfl (pa_cons (pv 0) pa_nil)))
      (pss_cons (ps_set (i := 2) c_l_right.nd rfl (.inl rfl) (pe_ca f_l_cal b_l_cal hr (by decide) pass0 rfl (pa_cons (pv 0) (pa_cons (pv 1) pa_nil))))
      (pss_cons (ps_set (i := 3) c_l_right.nd rfl (.inl rfl) (pe_ciN f_Feasts b_Feasts_init hr (by decide) pass0 rfl (pa_cons (pv 2) pa_nil)))
      (pss_cons (ps_set (i := 4) c_l_right.nd rfl (.inl rfl) (pe_ciNK f_Feasts kb_Feasts_calendar kb_Feasts_rel hr (by decide) pass0 rfl (pk_cons (pv 2) pk_nil)))
      (pss_cons (ps_set (i := 5) c_l_right.nd rfl (.inl rfl) pe_dnewK)
      (C8.pss_cut (ps_if (PW.pt (pw_and (pt_cmpR op_eq (pe_op op_mod (pe_ca f_l_next b_l_next hr (by decide) pass0 rfl (pa_cons (pv 0) pa_nil)) pe_int) pe_int (nomark _)) (pw_and1 (pt_not (pt_val (pe_ca f_l_filled b_l_filled hr (by decide) pass0 rfl (pa_cons (pv 4) (pa_cons pe_dnewK (pa_cons (pv 1) (pa_cons (pv 0) pa_nil)))))))))) (pss_one (ps_ret pe_bl)) pss_nil)
      (pss_cons (ps_set (i := 4) c_l_right.nd rfl (.inl rfl) (pe_ciNK f_Feasts kb_Feasts_calendar kb_Feasts_rel hr (by decide) pass0 rfl (pk_cons (pv 2) pk_nil)))
      (pss_cons (ps_for PassesOwn.never rfl (pi_range1 rfl g_range (pa_cons (pe_ix ix_list (pe_lst (pa_cons pe_int (pa_cons pe_int pa_nil))) (pe_op op_mod (pe_ca f_l_next b_l_next hr (by decide) pass0 rfl (pa_cons (pv 0) pa_nil)) pe_int) (fun _ _ => rfl)) pa_nil)) (pg_name (i := 6) c_l_right.nd rfl (.inl rfl)) (C8.pss_cut (ps_if (PW.pt (pw_and (pt_cmpR op_eq (pe_op op_mod (pv 6) pe_int) pe_int (nomark _)) (pw_and1 (pt_not (pt_val (pe_ca f_l_asked b_l_asked hr (by decide) pass0 rfl (pa_cons (pv 3) (pa_cons (pv 5) (pa_cons (pv 1) (pa_cons (pv 0) pa_nil)))))))))) (pss_one (ps_ret pe_bl)) pss_nil)
      (pss_one (ps_if (pt_not (pt_val (pe_ca f_l_done b_l_done hr (by decide) pass0 rfl (pa_cons (pv 3) (pa_cons (pv 5) (pa_cons (pv 0) pa_nil)))))) (pss_one (ps_ret pe_bl)) pss_nil))))
      (pss_one (ps_ret (pe_and (pe_ca f_l_asked b_l_asked hr (by decide) pass0 rfl (pa_cons (pv 3) (pa_cons (pv 5) (pa_cons (pv 1) (pa_cons (pv 0) pa_nil))))) (pe_and (pe_cmpR (op_eqD hr.units) (pe_cm0 f_called b_Feasts_called hr (by decide) pass0 (pv 4)) (pe_lst pa_nil) (nomark _)) (pe_one (pe_cmp (pc_isN (pe_cmD f_next_feast bd_next_feast2 (by decide) rfl hr (by decide) pass0X (pv 4) (pa_cons pe_int pa_nil))))))))))))))))), ?_⟩
    refine ⟨_, rfl, l, 0, rfl, d0, by decide, fun r H1 m y o k g b1 d1 fo => ?_⟩
    refine ⟨_, rfl, _, rfl, l, r, _, m, y, o, k, rfl, d1, by decide, fo, g, fun p H2 b2 d2 pr => ?_⟩
    have bl2 : BtL l H H2 := BtL.but (b1.trans b2)
    refine ⟨_, rfl, made_fb7 fun b dxb db H3 nb ndb s3 eb edb => ?_⟩
    refine ⟨_, rfl, rfl, rfl, made_fb7 fun oo dxo do' H4 no ndo s4 eo edo => ?_⟩
    refine fun dk ndk => ?_
    have s5 := Same.new (o := .dK []) ndk
    have ek := upd_same (H := H4) (a := dk) (o := .dK [])
    have ndk' : dk ≠ db := (ne_of_none (s4 _ _ edb) ndk).symm
    have ndko : dk ≠ do' := (ne_of_none edo ndk).symm
    have nbo : db ≠ do' := ne_of_none edb ndo
    have s25 := s3.trans (s4.trans s5)
    have a5 : As C Cc Cb Cf (L2.upd H4 dk (.dK [])) b p dk r l m y o k [] [] 12 := ⟨⟨⟨⟨dxb, db, s5 _ _ (s4 _ _ eb), s5 _ _ (s4 _ _ edb)⟩, pr.cl.same s25, g, fun q hq => (by cases hq), fun q hq => (by cases hq), by decide⟩, ⟨ek, fun q hq => (by cases hq), by simp, fun q hq => (by cases hq), by decide⟩, rfl, fun q hq => (by cases hq), .mk (s5 _ _ (s4 _ _ eb)) ndk'⟩, pr.fo.same s25, (d2.same s25 (Nat.le_refl _)).mono (by decide)⟩
    have bo5 : Bk C Cc Cb Cf (L2.upd H4 dk (.dK [])) oo p m y o k [] := ⟨⟨dxo, do', s5 _ _ eo, s5 _ _ edo⟩, pr.cl.same s25, g, fun q hq => (by cases hq), fun q hq => (by cases hq), by decide⟩
    have bl5 : BtL l H (L2.upd H4 dk (.dK [])) := bl2.trans (BtL.same s25)
    have eo5 := s5 _ _ eo
    have eb5 := s5 _ _ (s4 _ _ eb)
    change (fun HC : Hp => _) (L2.upd H4 dk (.dK []))
    generalize L2.upd H4 dk (.dK []) = H5 at *
    clear s25 s3 s4 s5 ek edb edo eo eb b1 b2 d0 d1 d2 pr fo bl2 ndk ndo no nb ndb
    refine ⟨fun σ' H' => ∃ (v4 : Option V) (c : Nat), σ' = [some (.ref l), some (.ref r), some (.ref p), some (.ref b), v4, some (.ref dk), none] ∧ As C Cc Cb Cf H' b p dk r l m y o k [] [] c ∧ c ≤ 2000 ∧ BtL l H H', ?_, ?_⟩
    · refine ⟨_, rfl, l, _, rfl, a5.dr, by decide, fun u H6 u0 u1 b6 d6 => ?_⟩
      have a6 := a5.but b6 d6
      have nl := NoL.but b6 a5.dr
      have bo6 := bo5.noL nl
      have bl6 := bl5.trans (BtL.but b6)
      have eo6 := nl _ (.ins Cb dxo (fbs p do')) (fun _ z => nomatch z) eo5
      have eb6 := nl _ (.ins Cb dxb (fbs p db)) (fun _ z => nomatch z) eb5
      refine ⟨_, _, rfl, rfl, md, rfl, _, rfl, ?_⟩
      by_cases hu : u % 4 = 1
      · rw [decide_eq_true (congrArg V.int hu)]
        refine iteT ?_
        refine ⟨_, rfl, fun dk2 ndk2 => ?_⟩
        have s7 := Same.new (o := .dK []) ndk2
        have ek2 := upd_same (H := H6) (a := dk2) (o := .dK [])
        have a7 := a6.same s7
        have bo7 := bo6.same s7
        have eo7 := s7 _ _ eo6
        have eb7 := s7 _ _ eb6
        have bl7 := bl6.trans (BtL.same s7)
        have nk2 : dk ≠ dk2 := ne_of_none a6.t.lk.ed ndk2
        have n3 : do' ≠ dk2 := ne_of_none (bo6.own eo6) ndk2
        have n4 : db ≠ dk2 := ne_of_none (a6.t.bk.own eb6) ndk2
        change (fun HC : Hp => _) (L2.upd H6 dk2 (.dK []))
        generalize L2.upd H6 dk2 (.dK []) = H7 at *
        have of2 : Off Cb H7 oo p dk2 := .mk eo7 n3.symm
        have ao : As C Cc Cb Cf H7 oo p dk2 r l m y o k [] [] 13 := ⟨⟨bo7, ⟨ek2, fun q hq => (by cases hq), by simp, fun q hq => (by cases hq), by decide⟩, rfl, fun q hq => (by cases hq), of2⟩, a7.fo, a7.dr⟩
        refine ⟨_, rfl, _, rfl, oo, p, dk2, r, l, m, y, o, k, 13, rfl, ao, by decide, fun c' H8 s8 d8 hc8 => ?_⟩
        have a8 := a7.else (dk2 := dk2) (c' := c') bo7 s8 d8 ek2 (fun dx d e => by
          rw [eb7] at e
          have e3 := HO.ins.inj (Option.some.inj e)
          have := fbs_inj e3.2.2
          rw [← this]
          exact ⟨n4, .mk eo7 nbo⟩) nk2 (.mk eo7 ndko)
        exact ⟨_, rfl, no' rfl ⟨_, c', rfl, a8, by omega, bl7.trans (StB.btl bo7 ek2 s8)⟩⟩
      · rw [decide_eq_false (fun e => hu (V.int.inj e))]
        refine iteF ?_
        exact ⟨_, 13, rfl, a6, by decide, bl6⟩
    clear a5 bo5 bl5 eo5 eb5 ndko nbo ndk'
    rintro σ' H6 ⟨v4, c, rfl, a6, hc, bl6⟩
    refine ⟨_, rfl, rfl, rfl, made_fb7 fun oo dxo do' H7 no ndo s7 eo edo => ?_⟩
    have a7 := a6.same s7
    have bl7 := bl6.trans (BtL.same s7)
    have ndk : dk ≠ do' := ne_of_none a6.t.lk.ed ndo
    obtain ⟨dxb, db, eb6, edb6⟩ := a6.t.bk.ob
    have ndb : do' ≠ db := (ne_of_none edb6 ndo).symm
    have ofo : Off Cb H7 b p do' := .mk (s7 _ _ eb6) ndb
    clear s7 a6 bl6 no ndo eb6 edb6
    refine ⟨(by show 2 ≤ sizeLine; decide), fun pl npl => ?_⟩
    have s8 := Same.new (o := .lst [V.int 12, V.int 40]) npl
    have el := upd_same (H := H7) (a := pl) (o := .lst [V.int 12, V.int 40])
    have a8 := a7.same s8
    have bl8 := bl7.trans (BtL.same s8)
    have eo8 := s8 _ _ eo
    have edo8 := s8 _ _ edo
    have npll : pl ≠ l := ne_of_none' a7.dr npl
    obtain ⟨dxb, db', eb7, _⟩ := a7.t.bk.ob
    have of8 := ofo.of eb7 (s8 _ _ eb7)
    change (fun HC : Hp => _) (L2.upd H7 pl (.lst [V.int 12, V.int 40]))
    generalize L2.upd H7 pl (.lst [V.int 12, V.int 40]) = H8 at *
    refine ⟨_, rfl, l, _, rfl, a8.dr, by omega, fun u H9 u0 u1 b9 d9 => ?_⟩
    have a9 := a8.but b9 d9
    have bl9 := bl8.trans (BtL.but b9)
    have el9 := b9 _ _ npll el
    have nl := NoL.but b9 a8.dr
    have eo9 := nl _ (.ins Cb dxo (fbs p do')) (fun _ z => nomatch z) eo8
    have edo9 := nl _ (.dK []) (fun _ z => nomatch z) edo8
    have of9 := of8.of (s8 _ _ eb7) (nl _ (.ins Cb dxb (fbs p db')) (fun _ z => nomatch z) (s8 _ _ eb7))
    obtain ⟨n, hn, hn40⟩ : ∃ n : Nat, atI [V.int 12, V.int 40] (u % 2) = some (.int (n : Int)) ∧ n ≤ 40 := by
      have h0 := Int.emod_nonneg u (show (2 : Int) ≠ 0 by decide)
      have h1 := Int.emod_lt_of_pos u (show (0 : Int) < 2 by decide)
      have h : u % 2 = 0 ∨ u % 2 = 1 := by omega
      rcases h with e | e <;> rw [e]
      · exact ⟨12, rfl, by decide⟩
      · exact ⟨40, rfl, by decide⟩
    refine ⟨_, _, rfl, rfl, md, pl, _, _, .int (n : Int), rfl, rfl, SqL.of el9, hn, _, rfl, by omega, by omega, ?_⟩
    clear hn el el9 eo edo eo8 edo8 a7 a8 bl7 bl8 s8 b9 d9 nl ofo of8 npl eb7
    refine for_range (n := n) (fun j σ Hx => ∃ (v6 : Option V) (fs gs : List (Addr × Fst)) (cj : Nat), σ = [some (.ref l), some (.ref r), some (.ref p), some (.ref b), some (.ref oo), some (.ref dk), v6] ∧ As C Cc Cb Cf Hx b p dk r l m y o k fs gs cj ∧ gs.length ≤ j ∧ cj ≤ 3000 + 1000 * j ∧ Hx oo = some (.ins Cb dxo (fbs p do')) ∧ Hx do' = some (.dK []) ∧ Off Cb Hx b p do' ∧ BtL l H Hx) ⟨_, [], [], _, rfl, a9, Nat.le_refl _, by omega, eo9, edo9, of9, bl9⟩ ?_ ?_
    · rintro j σ Hx hj ⟨v6, fs, gs, cj, rfl, ax, hg, hcj, eox, edx, ofx, blx⟩
      obtain ⟨dxq, dq, ebx, _⟩ := ax.t.bk.ob
      refine ⟨fun σ' H' => ∃ (c' : Nat), σ' = [some (.ref l), some (.ref r), some (.ref p), some (.ref b), some (.ref oo), some (.ref dk), some (.int (0 + (j : Int)))] ∧ As C Cc Cb Cf H' b p dk r l m y o k fs gs c' ∧ c' ≤ cj + 500 ∧ H' oo = some (.ins Cb dxo (fbs p do')) ∧ H' do' = some (.dK []) ∧ Off Cb H' b p do' ∧ BtL l H H', ?_, ?_⟩
      · refine ⟨_, rfl, _, _, rfl, rfl, md, rfl, _, rfl, ?_⟩
        by_cases hu : (0 + (j : Int)) % 8 = 0
        · rw [decide_eq_true (congrArg V.int hu)]
          refine iteT ?_
          refine ⟨_, rfl, _, rfl, _, rfl, _, rfl, b, p, dk, r, l, m, y, o, k, fs, gs, cj, rfl, ax, by omega, by omega, fun c' H' bt dt hc' => ?_⟩
          have nl := NoL.but bt ax.dr
          exact ⟨_, rfl, no' rfl ⟨c', rfl, ax.but bt dt, by omega, nl _ (.ins Cb dxo (fbs p do')) (fun _ z => nomatch z) eox, nl _ (.dK []) (fun _ z => nomatch z) edx, ofx.of ebx (nl _ (.ins Cb dxq (fbs p dq)) (fun _ z => nomatch z) ebx), blx.trans (BtL.but bt)⟩⟩
        · rw [decide_eq_false (fun e => hu (V.int.inj e))]
          exact iteF ⟨cj, rfl, ax, by omega, eox, edx, ofx, blx⟩
      clear ax ebx edx eox ofx blx
      rintro σ' H' ⟨c', rfl, ax, hc', eox, edx, ofx, blx⟩
      obtain ⟨dxq, dq, ebx, _⟩ := ax.t.bk.ob
      refine ⟨_, rfl, _, rfl, _, rfl, b, p, dk, l, m, y, o, k, fs, gs, c', rfl, ax.t, by omega, ax.dr, by omega, fun fs' gs' c2 H2 st t2 hl2 d2 hc2 => ?_⟩
      have nbl : b ≠ l := fun w => by
        obtain ⟨_, _, _, e, _⟩ := ax.dr
        rw [w, e] at ebx
        cases ebx
      have nbd : b ≠ dk := fun w => by
        rw [w, ax.t.lk.ed] at ebx
        cases ebx
      have up : ∀ {a : Addr} {u : HO}, (∀ xs, u ≠ .lst xs) → a ≠ dk → Off Cb H' b p a → H' a = some u → H2 a = some u := fun n1 nd ho e => st _ _ (fun w => by
        obtain ⟨_, _, _, ew, _⟩ := ax.dr
        rw [w, ew] at e
        exact n1 _ (Option.some.inj e).symm) nd ho e
      have ebx2 := st _ _ nbl nbd (ax.t.bk.off ebx (fun _ z => nomatch z)) ebx
      exact ⟨_, rfl, no' rfl ⟨_, fs', gs', c2, rfl, ⟨t2, StB.fo ax.t.bk ax.dr ax.t.lk.ed st ax.fo, d2⟩, by omega, by omega, up (fun _ z => nomatch z) (fun w => by rw [w, ax.t.lk.ed] at eox; cases eox) (ax.t.bk.off eox (fun _ z => nomatch z)) eox, up (fun _ z => nomatch z) ndk.symm ofx edx, ofx.of ebx ebx2, blx.trans (StB.btl ax.t.bk ax.t.lk.ed st)⟩⟩
    · rintro σ H' ⟨v6, fs, gs, cj, rfl, ax, hg, hcj, eox, edx, ofx, blx⟩
      refine ⟨_, rfl, _, rfl, _, rfl, _, rfl, b, p, dk, r, l, m, y, o, k, fs, gs, cj, rfl, ax, by omega, by omega, fun c' H2 bt dt hc' => ?_⟩
      have nl := NoL.but bt ax.dr
      have eo2 := nl _ (.ins Cb dxo (fbs p do')) (fun _ z => nomatch z) eox
      have ed2 := nl _ (.dK []) (fun _ z => nomatch z) edx
      have a2 := ax.but bt dt
      have bl2 := blx.trans (BtL.but bt)
      have bo : Bk C Cc Cb Cf H2 oo p m y o k [] := ⟨⟨dxo, do', eo2, ed2⟩, a2.t.bk.c, a2.t.bk.g, fun q hq => (by cases hq), fun q hq => (by cases hq), by decide⟩
      refine ⟨_, rfl, iteT ?_⟩
      refine ⟨_, rfl, oo, dxo, _, rfl, eo2, fb_no _ _ (by decide +kernel) (by decide +kernel), oo, p, m, y, o, k, [], rfl, bo, fun ys r1 H3 hp hs n1 s3 er1 => ?_⟩
      obtain rfl : ys = [] := List.perm_nil.mp hp
      refine ⟨(by show 0 ≤ sizeLine; decide), fun pe npe => ?_⟩
      have s4 := s3.trans (Same.new (o := .lst []) npe)
      refine ⟨.list [], .list [], .lst (SqL.of (Same.new npe _ _ er1)) .nil, .lst (SqL.of upd_same) .nil, rfl, rfl, _, rfl, iteT ?_⟩
      refine ⟨_, rfl, oo, dxo, _, rfl, s4 _ _ eo2, fb_no _ _ (by decide +kernel) (by decide +kernel), ?_⟩
      dsimp only [tCons, tC, tNil]
      refine sp_nxf (nm := none) rfl (bo.same s4) ((szi (n := 10) 0).mono (by decide)) (fun s e => by cases e) (fun s e => by cases e) fun v H5 s5 mv => ?_
      rcases mv with ⟨_, rfl⟩ | ⟨z, zs, t, e, _, _⟩
      · exact q _ (bl2.trans (BtL.same (s4.trans s5)))
      · have h0 : ∀ a : Int, inY m y o k a [] = [] := fun a => List.length_eq_zero_iff.mp (Nat.le_zero.mp (inY_len m y o k a []))
        unfold nxL at e
        rw [List.map_nil, h0, h0] at e
        cases e
end
/-! ### the law -/
section
variable {P : Program} {w : World} {K : PySem.W.Frag} {mg : Str → Option Value} {base : Heap}
theorem ok_law (D : Df K mg "law" s_law []) (f_l_draws : Ca P w K mg base CX0 1 "_law_draws" s_l_draws [] ["_law_cell"] spDraws) (f_l_right : Ca P w K mg base CX0 20 "_law_right" s_l_right [] ["_law_draws_here"] spR69) : Ca P w K mg base CX0 21 "law" s_law [] ["_law_script"] (spLaw K) := by
  refine ca0 (k := 20) D c_law (fun vs H Q E h => ?_) fun f cdv A outer s H vs Q E hr h => ?_
  · obtain ⟨a, ns, rfl, _⟩ := h
    rfl
  · obtain ⟨a, ns, rfl, hS, hlen, q⟩ := h
    refine ⟨_, (pss_cons (ps_for PassesOwn.never rfl (pi_list (pe_op op_cat (pe_slice sl_list (pv 0) po_none (po_some pe_int)) (pe_lst (pa_cons pe_int pa_nil)))) (pg_name (i := 1) c_law.nd rfl (.inl rfl)) (pss_one (ps_if (pt_not (pt_val (pe_ca f_l_right b_l_right hr (by decide) pass0 rfl (pa_cons (pe_ca f_l_draws b_l_draws hr (by decide) pass0 rfl (pa_cons (pv 1) pa_nil)) pa_nil)))) (pss_one (ps_ret pe_bl)) pss_nil)))
      (pss_one (ps_ret pe_bl))), ?_⟩
    refine ⟨_, rfl, _, rfl, a, _, rfl, hS, fun p1 n1 => ?_⟩
    refine ⟨(by show 1 ≤ sizeLine; decide), fun p2 n2 => ?_⟩
    have ne12 : p1 ≠ p2 := ne_of_none upd_same n2
    refine ⟨p1, p2, _, _, rfl, rfl, (by rw [upd_ne ne12]; exact upd_same), upd_same, cut_len hlen, fun l3 n3 => ?_⟩
    generalize hH0 : L2.upd _ l3 (.lst (cutV (ns.map V.int) none (some 1) ++ [V.int 0])) = H0
    have hl3 : H0 l3 = some (.lst (cutV (ns.map V.int) none (some 1) ++ [V.int 0])) := by rw [← hH0]; exact upd_same
    refine ⟨l3, rfl, ⟨_, SqL.of hl3⟩, for_list (K := K) (a := l3) (xs := cutV (ns.map V.int) none (some 1) ++ [V.int 0]) (fun i σ H' => ∃ v1 : Option V, σ = [some (.ref a), v1] ∧ H' l3 = some (.lst (cutV (ns.map V.int) none (some 1) ++ [V.int 0])))
      ⟨_, rfl, hl3⟩ (fun i σ H' _ ⟨_, _, e⟩ => SqL.of e) ?_ (fun σ H' ⟨_, e, _⟩ => by subst e; exact q H')⟩
    rintro i x σ H1 hi ⟨v1, rfl, e3⟩
    obtain ⟨c, rfl⟩ := cut_ints hi
    refine ⟨_, rfl, c, rfl, fun l H2 nl s2 d2 => ?_⟩
    have nel : l3 ≠ l := ne_of_none e3 nl
    exact ⟨l, rfl, d2, fun H3 b3 => ⟨_, rfl, no' rfl ⟨_, rfl, b3 _ _ nel (s2 _ _ e3)⟩⟩⟩
end
/-! ### makers of facts -/
theorem dx_mk {K : PySem.W.Frag} {qual : Str} {st : Stmt} {f C : Addr} {oc kV doc pm cdv ct : Value} {od an : Option Addr} {osl : Array (Option Value)} (a : PySem.W.findIn K (.ref C) "__init__" = some (some (.ref f)))
    (l : K.lookup f = some ⟨oc, od, .func (PySem.W.fnOf "__init__" qual (defArgs st) (defBody st) (defScope st) .none kV doc pm an cdv ct), osl⟩) (c : PySem.W.codeIn K cdv qual = true) (k : PySem.W.keepIn K (.ref f) = true) (t : PySem.W.typeIn K (.ref f) = some (.type "function")) : Dx K C qual st :=
  ⟨f, _, ⟨⟨oc, od, .none, kV, doc, pm, an, cdv, ct, osl, rfl, l, c, .inl ⟨rfl, rfl⟩, .inl rfl⟩, k⟩, a, t⟩
theorem any_exm {K : PySem.W.Frag} {D : Addr} {cs : List Value} (h : ∀ c ∈ cs, ∃ b, PySem.W.exmOne K (.ref D) c = some b) {c : Value} (hc : c ∈ cs) (h1 : PySem.W.exmOne K (.ref D) c = some true) : ∃ B : Value → Bool, (∀ c ∈ cs, PySem.W.exmOne K (.ref D) c = some (B c)) ∧ cs.any B = true := by
  refine ⟨fun c => (PySem.W.exmOne K (.ref D) c).getD false, fun c hc => ?_, List.any_eq_true.mpr ⟨c, hc, by rw [h1]; rfl⟩⟩
  obtain ⟨b, hb⟩ := h c hc
  show _ = some ((PySem.W.exmOne K (.ref D) c).getD false)
  rw [hb]
  rfl
theorem oxv_mk {K : PySem.W.Frag} {C : Addr} {nm q N bs sn sub ab col dd k0 k1 k2 k3 k5} (l : K.lookup C = some (excClassObj nm q C N bs bmV true sn sub ab col dd k0 k1 k2 k3 k5 "ValueError.__new__")) (sa : PySem.W.findIn K (.ref C) "__setattr__" = some (some (.builtin "object.__setattr__")))
    (exC : PySem.W.subIn K (.ref C) (.type "BaseException") = some true) (tyC : PySem.W.typeIn K (.ref C) = some (.type "type")) (kC : PySem.W.keepIn K (.ref C) = true) : OxV K C := ⟨PySem.F.excBase_ValueError, PySem.F.store_ValueError, by decide +kernel, ⟨_, _, _, _, _, _, _, _, _, _, _, _, _, _, l⟩, sa, exC, tyC, kC⟩
theorem df_mkD {K : PySem.W.Frag} {h : Heap} {mg : Str → Option Value} {x : Str} {st : Stmt} {f T : Addr} {oc kV doc pm cdv ct : Value} {od an : Option Addr} {osl : Array (Option Value)} {nT : Nat} {its : List Value} {dvs : List V} (X : K.In h) (G : h.Ns mainGlobals mg) (a : PySem.W.nsIn K mainGlobals x = some (some (.ref f)))
    (l : K.lookup f = some ⟨oc, od, .func (PySem.W.fnOf x x (defArgs st) (defBody st) (defScope st) (.ref T) kV doc pm an cdv ct), osl⟩) (c : PySem.W.codeIn K cdv x = true) (k : PySem.W.keepIn K (.ref f) = true) {oT : Obj} (lT : K.lookup T = some oT) (eT : oT.data = .seq its.toArray nT) (r : Vals dvs its) (ne : dvs ≠ []) : Df K mg x st dvs :=
  ⟨f, _, ⟨⟨oc, od, .ref T, kV, doc, pm, an, cdv, ct, osl, rfl, l, c, .inr ⟨ne, T, _, its, nT, rfl, lT, eT, r⟩, .inl rfl⟩, k⟩, PySem.W.mg_of X G a⟩
/-! ### what the top has written -/
theorem fin {P : Program} {w : World} {K : PySem.W.Frag} {mg : Str → Option Value} {fa C Cc Cf Cb CM CT C_NoShare C_NoCalendar C_NoDate C_NoWheel C_NoDay C_NoText C_NoNote C_NoDeed : Addr} (hfa : mg "law" = some (.ref fa))
    (cl : Cls K C) (nT : PySem.W.findIn K (.ref C) "top" = some none) (nB : PySem.W.findIn K (.ref C) "bottom" = some none) (ha : PySem.W.findIn K (.ref C) "__class__" = some (some (.builtin "object.__class__")))
    (hn : PySem.W.specialIn K (.builtin "object.__class__") "__get__" = some (some (.builtin "getset_descriptor.__get__"))) (htk : PySem.W.takesIn K (.builtin "object.__class__") = some true) (hm : PySem.W.mroIn K C (.type "object") = some true)
    (iC : PySem.W.isClsIn K C = true) (tC : PySem.W.typeIn K (.ref C) = some (.type "type")) (sI : PySem.W.subIn K (.type "int") (.ref C) = some false) (hC : mg "Share" = some (.ref C))
    (dShare : Di K mg "Share" C "Share.__init__" s_Share_init [.int 1])
    (clc : Cls K Cc) (n1 : PySem.W.findIn K (.ref Cc) "month" = some none) (n2 : PySem.W.findIn K (.ref Cc) "year" = some none) (n3 : PySem.W.findIn K (.ref Cc) "moon" = some none) (n4 : PySem.W.findIn K (.ref Cc) "mark" = some none) (ne : Cc ≠ C) {uM : Value} (aM : mg "MARKS" = some uM) (rM : RelV (.int 12) uM)
    (dCal : Di K mg "Calendar" Cc "Calendar.__init__" s_Calendar_init [.non, .non])
    (clf : Cls K Cf) (fe1 : PySem.W.findIn K (.ref Cf) "name" = some none) (fe2 : PySem.W.findIn K (.ref Cf) "number" = some none) (fe3 : PySem.W.findIn K (.ref Cf) "day" = some none) (fe4 : PySem.W.findIn K (.ref Cf) "when" = some none)
    (dFeast : Di K mg "Feast" Cf "Feast.__init__" s_Feast_init [.str "plain"])
    (clb : Cls K Cb) (fb1 : PySem.W.findIn K (.ref Cb) "calendar" = some none) (fb2 : PySem.W.findIn K (.ref Cb) "feasts" = some none)
    (dFeasts : Di K mg "Feasts" Cb "Feasts.__init__" s_Feasts_init []) (dbNext : DmD K Cb "next_feast" "Feasts.next_feast" s_Feasts_next_feast [.non])
    (d_start : Dm K Cc "start" "Calendar.start" s_Calendar_start)
    (d_month_at : Dm K Cc "month_at" "Calendar.month_at" s_Calendar_month_at)
    (d_mark_day : Dm K Cc "mark_day" "Calendar.mark_day" s_Calendar_mark_day)
    (d_month_with : Dm K Cc "month_with" "Calendar.month_with" s_Calendar_month_with)
    (d_mark_in : Dm K Cc "mark_in" "Calendar.mark_in" s_Calendar_mark_in)
    (d_name_of : Dm K Cc "name_of" "Calendar.name_of" s_Calendar_name_of)
    (dbAdd : Dm K Cb "add" "Feasts.add" s_Feasts_add)
    (dbDrop : Dm K Cb "drop" "Feasts.drop" s_Feasts_drop)
    (dbMis : Dm K Cb "refuse_missing" "Feasts.refuse_missing" s_Feasts_refuse_missing)
    (dbCal : Dm K Cb "called" "Feasts.called" s_Feasts_called)
    (dbOn : Dm K Cb "on_day" "Feasts.on_day" s_Feasts_on_day)
    (dbIn : Dm K Cb "in_year" "Feasts.in_year" s_Feasts_in_year)
    (mo_NoShare : Oc K mg CM "NoShare" C_NoShare false) (mo_NoCalendar : Oc K mg CM "NoCalendar" C_NoCalendar false) (mo_NoDate : Oc K mg CM "NoDate" C_NoDate false) (mo_NoWheel : Oc K mg CM "NoWheel" C_NoWheel false) (mo_NoName : Oc K mg CM "NoName" CM true) (mo_NoDay : Oc K mg CM "NoDay" C_NoDay false) (mo_Taken : Oc K mg CM "Taken" CT false) (mo_NoText : Oc K mg CM "NoText" C_NoText false) (mo_NoNote : Oc K mg CM "NoNote" C_NoNote false) (mo_NoDeed : Oc K mg CM "NoDeed" C_NoDeed false)
    (mr_NoShare : CM ≠ C_NoShare) (mr_NoCalendar : CM ≠ C_NoCalendar) (mr_NoDate : CM ≠ C_NoDate) (mr_NoWheel : CM ≠ C_NoWheel) (mr_NoDay : CM ≠ C_NoDay) (mr_Taken : CM ≠ CT) (mr_NoText : CM ≠ C_NoText) (mr_NoNote : CM ≠ C_NoNote) (mr_NoDeed : CM ≠ C_NoDeed)
    (mt_ZeroDivisionError : PySem.W.subIn K (.ref CM) (.type "ZeroDivisionError") = some false) (mt_LookupError : PySem.W.subIn K (.ref CM) (.type "LookupError") = some true) (mt_ValueError : PySem.W.subIn K (.ref CM) (.type "ValueError") = some false) (mt_KeyError : PySem.W.subIn K (.ref CM) (.type "KeyError") = some true) (mt_IndexError : PySem.W.subIn K (.ref CM) (.type "IndexError") = some false) (mt_RuntimeError : PySem.W.subIn K (.ref CM) (.type "RuntimeError") = some false)
    (mxc : XcF K CM) (mox : OxK K CM) (mno_name : PySem.W.findIn K (.ref CM) "name" = some none) (mvV : PySem.W.findCls K (.type "KeyError") (.type "type") "__init__" = some (.val (.builtin "KeyError.__init__")))
    (mdEx : Dx K CM "NoName.__init__" s_NoName_init)
    (to_NoShare : Oc K mg CT "NoShare" C_NoShare false) (to_NoCalendar : Oc K mg CT "NoCalendar" C_NoCalendar false) (to_NoDate : Oc K mg CT "NoDate" C_NoDate false) (to_NoWheel : Oc K mg CT "NoWheel" C_NoWheel false) (to_NoName : Oc K mg CT "NoName" CM false) (to_NoDay : Oc K mg CT "NoDay" C_NoDay false) (to_Taken : Oc K mg CT "Taken" CT true) (to_NoText : Oc K mg CT "NoText" C_NoText false) (to_NoNote : Oc K mg CT "NoNote" C_NoNote false) (to_NoDeed : Oc K mg CT "NoDeed" C_NoDeed false)
    (tr_NoShare : CT ≠ C_NoShare) (tr_NoCalendar : CT ≠ C_NoCalendar) (tr_NoDate : CT ≠ C_NoDate) (tr_NoWheel : CT ≠ C_NoWheel) (tr_NoName : CT ≠ CM) (tr_NoDay : CT ≠ C_NoDay) (tr_NoText : CT ≠ C_NoText) (tr_NoNote : CT ≠ C_NoNote) (tr_NoDeed : CT ≠ C_NoDeed)
    (tt_ZeroDivisionError : PySem.W.subIn K (.ref CT) (.type "ZeroDivisionError") = some false) (tt_LookupError : PySem.W.subIn K (.ref CT) (.type "LookupError") = some false) (tt_ValueError : PySem.W.subIn K (.ref CT) (.type "ValueError") = some true) (tt_KeyError : PySem.W.subIn K (.ref CT) (.type "KeyError") = some false) (tt_IndexError : PySem.W.subIn K (.ref CT) (.type "IndexError") = some false) (tt_RuntimeError : PySem.W.subIn K (.ref CT) (.type "RuntimeError") = some false)
    (txc : XcF K CT) (tox : OxV K CT) (tno_name : PySem.W.findIn K (.ref CT) "name" = some none) (tvV : PySem.W.findCls K (.type "ValueError") (.type "type") "__init__" = some (.val (.builtin "ValueError.__init__")))
    (tdEx : Dx K CT "Taken.__init__" s_Taken_init)
    (g_abs : mg "abs" = none) (g_range : mg "range" = none) (g_isinstance : mg "isinstance" = none) (g_len : mg "len" = none) (g_list : mg "list" = none) (g_sorted : mg "sorted" = none) (g_min : mg "min" = none) (g_max : mg "max" = none) (g_ValueError : mg "ValueError" = none) (g_KeyError : mg "KeyError" = none)
    (d_common_divisor : Df K mg "common_divisor" s_common_divisor []) (d_as_share : Df K mg "as_share" s_as_share []) (d_plus : Df K mg "plus" s_plus []) (d_minus : Df K mg "minus" s_minus []) (d_times : Df K mg "times" s_times []) (d_over : Df K mg "over" s_over []) (d_before : Df K mg "before" s_before []) (d_whole : Df K mg "whole" s_whole []) (d_rounded_up : Df K mg "rounded_up" s_rounded_up []) (d_refuse_unfit : Df K mg "refuse_unfit" s_refuse_unfit []) (d_moment_or_nought : Df K mg "moment_or_nought" s_moment_or_nought []) (d_twelfth : Df K mg "twelfth" s_twelfth []) (d_nth_day : Df K mg "nth_day" s_nth_day []) (d_first_from : Df K mg "first_from" s_first_from []) (d_days_of : Df K mg "days_of" s_days_of []) (d_plain_month : Df K mg "plain_month" s_plain_month []) (d_odd_month : Df K mg "odd_month" s_odd_month []) (d_day_in : Df K mg "day_in" s_day_in []) (d_month_in_year : Df K mg "month_in_year" s_month_in_year []) (d_held_in : Df K mg "held_in" s_held_in []) (d_year_with : Df K mg "year_with" s_year_with []) (d_feast_months : Df K mg "feast_months" s_feast_months []) (d_feast_days : Df K mg "feast_days" s_feast_days []) (d_l_draws : Df K mg "_law_draws" s_l_draws []) (d_l_next : Df K mg "_law_next" s_l_next []) (d_l_low : Df K mg "_law_low" s_l_low []) (d_l_plus : Df K mg "_law_plus" s_l_plus []) (d_l_by : Df K mg "_law_by" s_l_by []) (d_l_part : Df K mg "_law_part" s_l_part []) (d_l_moment : Df K mg "_law_moment" s_l_moment []) (d_l_four : Df K mg "_law_four" s_l_four []) (d_l_floor : Df K mg "_law_floor" s_l_floor []) (d_l_start : Df K mg "_law_start" s_l_start []) (d_l_mark_day : Df K mg "_law_mark_day" s_l_mark_day []) (d_l_month_at : Df K mg "_law_month_at" s_l_month_at []) (d_l_mark_in : Df K mg "_law_mark_in" s_l_mark_in []) (d_l_name : Df K mg "_law_name" s_l_name []) (d_l_month_with : Df K mg "_law_month_with" s_l_month_with []) (d_l_long : Df K mg "_law_long" s_l_long []) (d_l_feast_days : Df K mg "_law_feast_days" s_l_feast_days []) (d_l_year_of : Df K mg "_law_year_of" s_l_year_of []) (d_l_cal : Df K mg "_law_cal" s_l_cal []) (d_l_kinds : Df K mg "_law_kinds" s_l_kinds []) (d_l_in_year : Df K mg "_law_in_year" s_l_in_year []) (d_l_next_feast : Df K mg "_law_next_feast" s_l_next_feast []) (d_l_deed : Df K mg "_law_deed" s_l_deed []) (d_l_done : Df K mg "_law_done" s_l_done []) (d_l_asked : Df K mg "_law_asked" s_l_asked []) (d_l_filled : Df K mg "_law_filled" s_l_filled []) (d_l_right : Df K mg "_law_right" s_l_right []) (d_law : Df K mg "law" s_law []) :
    ∃ fd : FuncData, (∀ (s : Shared) (u : Value), BindsTo s fd ⟨[u], []⟩ [("_law_script", u)]) ∧ ∀ base : Heap, K.In base → base.Ns mainGlobals mg → FnOk P w K mg base CX0 21 fa fd ["_law_script"] (spLaw K) := by
  refine fin_of hfa d_law b_law fun base => ?_
  have T : ShX K C := ⟨⟨cl, nT, nB⟩, fun H a dx fs e => .base (.ins e cl ha hn htk hm), kit_no iC tC rfl sI⟩
  have marks : ∃ t, mg "MARKS" = some (.int 12 t) := by
    obtain ⟨t, e⟩ := rM
    exact ⟨t, by rw [aM, e]⟩
  have Tc : CaT K C Cc := ⟨clc, n1, n2, n3, n4, ne⟩
  have f1 := ok_gcd (P := P) (w := w) (base := base) d_common_divisor g_abs
  have f2 := ok_shI dShare T.toShT f1
  have f3 := ok_as d_as_share T g_isinstance hC f2
  have F : ShF P w K mg base C := { T := T, mkS := f2, asS := f3, plus := ok_plus d_plus T f3 f2, minus := ok_minus d_minus T f3 f2, times := ok_times d_times T f3 f2, over := ok_over d_over T f3 f2, before := ok_before d_before T f3, whole := ok_whole d_whole T f3, up := ok_rounded d_rounded_up T f3, marks := marks }
  have tw := ok_tw d_twelfth F
  have nth := ok_nth d_nth_day F
  have cal := ok_caI dCal Tc F (ok_unfit d_refuse_unfit F tw) (ok_moment d_moment_or_nought F)
  obtain ⟨tkM, hMk⟩ := id marks
  have lo := ok_low (P := P) (w := w) (base := base) d_l_low g_abs
  have nx := ok_next (P := P) (w := w) (base := base) d_l_next
  have dr := ok_draws (P := P) (w := w) (base := base) d_l_draws g_range
  have pl := ok_lplus d_l_plus lo
  have by' := ok_lby d_l_by lo
  have fl := ok_lfloor (P := P) (w := w) (base := base) d_l_floor
  have ls := ok_lstart d_l_start fl pl by'
  have pt := ok_lpart d_l_part nx lo
  have mo := ok_lmom d_l_moment nx pt pl
  have fo := ok_lfour d_l_four nx pt pl by' mo
  have fr := ok_from d_first_from F
  have m1 := ok_start d_start Tc nth
  have m2 := ok_month_at d_month_at Tc fr
  have m3 := ok_mark_day d_mark_day Tc nth tw
  have mKD : KdF K mg CM false false false false true false false false false false false true false true false false C_NoShare C_NoCalendar C_NoDate C_NoWheel CM C_NoDay CT C_NoText C_NoNote C_NoDeed :=
    { xc := mxc, m0 := mo_NoShare.m, m1 := mo_NoCalendar.m, m2 := mo_NoDate.m, m3 := mo_NoWheel.m, m4 := mo_NoName.m, m5 := mo_NoDay.m, m6 := mo_Taken.m, m7 := mo_NoText.m, m8 := mo_NoNote.m, m9 := mo_NoDeed.m, k0 := mo_NoShare.kit fun z => absurd z mr_NoShare, k1 := mo_NoCalendar.kit fun z => absurd z mr_NoCalendar, k2 := mo_NoDate.kit fun z => absurd z mr_NoDate, k3 := mo_NoWheel.kit fun z => absurd z mr_NoWheel, k4 := mo_NoName.kit fun _ => rfl, k5 := mo_NoDay.kit fun z => absurd z mr_NoDay, k6 := mo_Taken.kit fun z => absurd z mr_Taken, k7 := mo_NoText.kit fun z => absurd z mr_NoText, k8 := mo_NoNote.kit fun z => absurd z mr_NoNote, k9 := mo_NoDeed.kit fun z => absurd z mr_NoDeed, t0 := kit_typ (by decide +kernel) mt_ZeroDivisionError, t1 := kit_typ (by decide +kernel) mt_LookupError, t2 := kit_typ (by decide +kernel) mt_ValueError, t3 := kit_typ (by decide +kernel) mt_KeyError, t4 := kit_typ (by decide +kernel) mt_IndexError, t5 := kit_typ (by decide +kernel) mt_RuntimeError }
  have mXA := any_exm (K := K) (D := CM) (cs := [Value.ref C_NoCalendar, .ref C_NoDate, .ref C_NoDay, .ref C_NoDeed, .ref CM, .ref C_NoNote, .ref C_NoShare, .ref C_NoText, .ref C_NoWheel, .ref CT]) (by
    intro c hc
    simp only [List.mem_cons, List.not_mem_nil, or_false] at hc
    rcases hc with rfl | rfl | rfl | rfl | rfl | rfl | rfl | rfl | rfl | rfl
    · exact ⟨_, mo_NoCalendar.exm⟩
    · exact ⟨_, mo_NoDate.exm⟩
    · exact ⟨_, mo_NoDay.exm⟩
    · exact ⟨_, mo_NoDeed.exm⟩
    · exact ⟨_, mo_NoName.exm⟩
    · exact ⟨_, mo_NoNote.exm⟩
    · exact ⟨_, mo_NoShare.exm⟩
    · exact ⟨_, mo_NoText.exm⟩
    · exact ⟨_, mo_NoWheel.exm⟩
    · exact ⟨_, mo_Taken.exm⟩) (c := .ref CM) (by simp) mo_NoName.exm
  have tKD : KdF K mg CT false false false false false false true false false false false false true false false false C_NoShare C_NoCalendar C_NoDate C_NoWheel CM C_NoDay CT C_NoText C_NoNote C_NoDeed :=
    { xc := txc, m0 := to_NoShare.m, m1 := to_NoCalendar.m, m2 := to_NoDate.m, m3 := to_NoWheel.m, m4 := to_NoName.m, m5 := to_NoDay.m, m6 := to_Taken.m, m7 := to_NoText.m, m8 := to_NoNote.m, m9 := to_NoDeed.m, k0 := to_NoShare.kit fun z => absurd z tr_NoShare, k1 := to_NoCalendar.kit fun z => absurd z tr_NoCalendar, k2 := to_NoDate.kit fun z => absurd z tr_NoDate, k3 := to_NoWheel.kit fun z => absurd z tr_NoWheel, k4 := to_NoName.kit fun z => absurd z tr_NoName, k5 := to_NoDay.kit fun z => absurd z tr_NoDay, k6 := to_Taken.kit fun _ => rfl, k7 := to_NoText.kit fun z => absurd z tr_NoText, k8 := to_NoNote.kit fun z => absurd z tr_NoNote, k9 := to_NoDeed.kit fun z => absurd z tr_NoDeed, t0 := kit_typ (by decide +kernel) tt_ZeroDivisionError, t1 := kit_typ (by decide +kernel) tt_LookupError, t2 := kit_typ (by decide +kernel) tt_ValueError, t3 := kit_typ (by decide +kernel) tt_KeyError, t4 := kit_typ (by decide +kernel) tt_IndexError, t5 := kit_typ (by decide +kernel) tt_RuntimeError }
  have tXA := any_exm (K := K) (D := CT) (cs := [Value.ref C_NoCalendar, .ref C_NoDate, .ref C_NoDay, .ref C_NoDeed, .ref CM, .ref C_NoNote, .ref C_NoShare, .ref C_NoText, .ref C_NoWheel, .ref CT]) (by
    intro c hc
    simp only [List.mem_cons, List.not_mem_nil, or_false] at hc
    rcases hc with rfl | rfl | rfl | rfl | rfl | rfl | rfl | rfl | rfl | rfl
    · exact ⟨_, to_NoCalendar.exm⟩
    · exact ⟨_, to_NoDate.exm⟩
    · exact ⟨_, to_NoDay.exm⟩
    · exact ⟨_, to_NoDeed.exm⟩
    · exact ⟨_, to_NoName.exm⟩
    · exact ⟨_, to_NoNote.exm⟩
    · exact ⟨_, to_NoShare.exm⟩
    · exact ⟨_, to_NoText.exm⟩
    · exact ⟨_, to_NoWheel.exm⟩
    · exact ⟨_, to_Taken.exm⟩) (c := .ref CT) (by simp) to_Taken.exm
  have m4 := ok_month_with d_month_with Tc m2 m3
  have m5 := ok_mark_in d_mark_in Tc fr tw m1 m3
  have m6 := ok_name d_name_of m5 hMk
  have pm := ok_plain d_plain_month m4 hMk
  have om := ok_oddm d_odd_month pm m5
  have di := ok_dayin d_day_in m1
  have das := ok_daysof d_days_of m1
  have miy := ok_miy d_month_in_year pm om
  have hel := ok_held d_held_in das g_min
  have yw := ok_yw d_year_with m2 m6
  have Tf : FeT K Cf := ⟨clf, fe1, fe2, fe3, fe4⟩
  have feI := ok_feI (P := P) (w := w) (base := base) dFeast Tf
  have fmo := ok_fm d_feast_months Tf pm om miy
  have fds := ok_fds d_feast_days Tf di hel fmo
  have Tb : FbT K Cb := ⟨clb, fb1, fb2⟩
  have NM : NnT K mg CM := ⟨mox, mno_name, mvV, g_KeyError, mo_NoName.m⟩
  have NT : TkT K mg CT := ⟨tox, tno_name, tvV, g_ValueError, to_Taken.m⟩
  have cm := ok_nn (P := P) (w := w) (base := base) mdEx NM
  have ct := ok_tk (P := P) (w := w) (base := base) tdEx NT
  have bI := ok_fbI (P := P) (w := w) (base := base) dFeasts Tb
  have bA := ok_fbAX (P := P) (w := w) (mg := mg) (base := base) (C := C) (Cc := Cc) dbAdd Tb Tf NT ct
  have mis := ok_misX (P := P) (w := w) (mg := mg) (base := base) (C := C) (Cc := Cc) (Cf := Cf) dbMis Tb NM cm
  have bD := ok_fbD dbDrop Tb mis
  have iny := ok_inY dbIn Tb g_sorted fds
  have ond := ok_onD dbOn Tb yw iny
  have nxf := ok_nxfX dbNext Tb yw g_min iny mis
  have cld := ok_cald (P := P) (w := w) (mg := mg) (base := base) (C := C) (Cc := Cc) (Cf := Cf) dbCal Tb g_sorted g_list
  have lm := ok_lmark d_l_mark_day fl pl by'
  have la := ok_lma d_l_month_at pl ls
  have li := ok_lmi d_l_mark_in pl ls lm
  have lw := ok_lmw d_l_month_with la lm
  have lna := ok_lname d_l_name li
  have lon := ok_llong d_l_long ls
  have lfd := ok_lfd d_l_feast_days lw li ls g_min lon
  have yo := ok_lyof d_l_year_of la lna
  have cal' := ok_lcal d_l_cal nx f2 cal
  have liy := ok_liy d_l_in_year g_sorted lfd
  have lnx := ok_lnx d_l_next_feast g_min yo liy
  have kd := ok_kinds67 (P := P) (w := w) (base := base) d_l_kinds mKD tKD g_isinstance
  have de := ok_ldeed d_l_deed mKD tKD mXA tXA mno_name tno_name g_isinstance g_ValueError g_KeyError feI bA bD nxf kd
  have don := ok_ldone d_l_done nx de
  have ask := ok_lask67 d_l_asked nx ls lw g_sorted g_len g_max yo liy lnx cld iny ond nxf de
  have fil := ok_lfilled d_l_filled nx g_range de ask
  have rg := ok_lr67 d_l_right nx fo g_range cal' bI cld nxf don ask fil
  exact ok_law d_law dr rg
theorem walk {l : PySem.W.OpenLaw} {q : Program} {loose : List Str} {XP : (Str → Option Value) → Heap → Prop} {YP : World → Heap → Prop} {d : DefRec} {K : Params → PySem.W.Frag} (hn : l.most = some 63) (hdf : d.params.defaults = [])
    (hY : ∀ (w : World) (h : Heap), YP w h → (K w.params).In h)
    (F : ∀ (w : World) (mg : Str → Option Value) (fa : Addr) (h : Heap), (K w.params).In h → h.Ns mainGlobals mg → mg d.name = some (.ref fa) →
      ∃ fd : FuncData, (∀ (s : Shared) (u : Value), BindsTo s fd ⟨[u], []⟩ [("_law_script", u)]) ∧ ∀ base : Heap, (K w.params).In base → base.Ns mainGlobals mg → FnOk l.prog w (K w.params) mg base CX0 21 fa fd ["_law_script"] (spLaw (K w.params))) :
    PySem.W.WalkO q loose XP YP l.row.toRowW d [] (fun f vs => PySem.call f vs) :=
  L2.walk_of (n := 63) (k := 21) (x := "_law_script") (CX := fun _ => CX0) (sp := fun w => spLaw (K w.params)) hn (by decide) hdf ⟨rfl, by decide, by decide⟩ hY F (fun _ _ a ns hl _ hS => ⟨a, ns, rfl, hS, hl, fun _ => rfl⟩) fun _ _ _ _ _ z => z
end MM
namespace MM
open PySem PySem.Spec PyProof.Rows L2
/-! ### a small head -/
section
variable {K : PySem.W.Frag} {C f : Addr} {m qual : Str} {st : Stmt} {dvs : List V}
theorem dmDB (cl : Cls K C) (e : ∃ fd, FunD K m qual (defArgs st) (defBody st) (defScope st) dvs [] f fd) (a : PySem.W.findIn K (.ref C) m = some (some (.ref f))) (i : PySem.W.isFn K (.ref f) = true) : DmD K C m qual st dvs :=
  let ⟨fd, F⟩ := e
  ⟨f, fd, F, ⟨a, i, F.kp⟩, cl⟩
end
abbrev Rw : PySem.W.OpenRow := PySem.W.OpenLaw.row PySem.Challenge.rw_meanmoon_k67_books_of_feasts
def names0 : List Str := ["__name__", "NoShare", "NoCalendar", "NoDate", "NoWheel", "NoName", "NoDay", "Taken", "NoText", "NoNote", "NoDeed", "FIGURES", "numeral", "Share", "common_divisor", "as_share", "plus", "minus", "times", "over", "before", "whole", "rounded_up", "MARKS", "Calendar", "refuse_unfit", "moment_or_nought", "twelfth", "nth_day", "first_from"]
def names1 : List Str := ["kept_form", "least_alike", "days_of", "plain_month", "odd_month", "day_in", "month_in_year", "held_in", "year_with", "Feast", "feast_months", "feast_days", "Feasts", "_law_draws", "_law_next", "_law_low", "_law_plus", "_law_by", "_law_part", "_law_moment", "_law_four", "_law_floor", "_law_start", "_law_mark_day", "_law_month_at", "_law_mark_in", "_law_name", "_law_month_with", "_law_long", "_law_feast_days"]
def names2 : List Str := ["_law_year_of", "_law_cal", "_law_kinds", "_law_in_year", "_law_next_feast", "_law_deed", "_law_done", "_law_asked", "_law_filled", "_law_right"]
def namesA : List Str := names0 ++ names1 ++ names2
def chk1 (K : PySem.W.Frag) : List Bool := [
  PySem.W.plainGet K (He.ga K "Share") Str.empty,
  PySem.W.hasDictIn K (He.ga K "Share"),
  PySem.W.plainOver K (He.ga K "Share"),
  decide (PySem.W.findIn K (.ref (He.ga K "Share")) "__setattr__" = some (some (.builtin "object.__setattr__"))),
  decide (PySem.W.findIn K (.ref (He.ga K "Share")) "top" = some none),
  decide (PySem.W.findIn K (.ref (He.ga K "Share")) "bottom" = some none),
  decide (PySem.W.findIn K (.ref (He.ga K "Share")) "__class__" = some (some (.builtin "object.__class__"))),
  decide (PySem.W.specialIn K (.builtin "object.__class__") "__get__" = some (some (.builtin "getset_descriptor.__get__"))),
  decide (PySem.W.takesIn K (.builtin "object.__class__") = some true),
  decide (PySem.W.mroIn K (He.ga K "Share") (.type "object") = some true),
  PySem.W.isClsIn K (He.ga K "Share"),
  decide (PySem.W.typeIn K (.ref (He.ga K "Share")) = some (.type "type")),
  decide (PySem.W.subIn K (.type "int") (.ref (He.ga K "Share")) = some false),
  decide (PySem.W.nsIn K mainGlobals "Share" = some (some (.ref (He.ga K "Share")))),
  decide (PySem.W.findIn K (.ref (He.ga K "Share")) "__init__" = some (some (.ref (He.fAd K ("Share", some "__init__"))))),
  PySem.W.isFn K (.ref (He.fAd K ("Share", some "__init__"))),
  PySem.W.makesIn K (He.ga K "Share"),
  PySem.W.keepIn K (.ref (He.ga K "Share")),
  PySem.W.plainGet K (He.ga K "Calendar") Str.empty,
  PySem.W.hasDictIn K (He.ga K "Calendar"),
  PySem.W.plainOver K (He.ga K "Calendar"),
  decide (PySem.W.findIn K (.ref (He.ga K "Calendar")) "__setattr__" = some (some (.builtin "object.__setattr__"))),
  decide (PySem.W.findIn K (.ref (He.ga K "Calendar")) "month" = some none),
  decide (PySem.W.findIn K (.ref (He.ga K "Calendar")) "year" = some none),
  decide (PySem.W.findIn K (.ref (He.ga K "Calendar")) "moon" = some none),
  decide (PySem.W.findIn K (.ref (He.ga K "Calendar")) "mark" = some none),
  decide ((He.ga K "Calendar") ≠ (He.ga K "Share")),
  (He.Fa.int "MARKS" 12).ok K,
  decide (PySem.W.nsIn K mainGlobals "Calendar" = some (some (.ref (He.ga K "Calendar")))),
  decide (PySem.W.findIn K (.ref (He.ga K "Calendar")) "__init__" = some (some (.ref (He.fAd K ("Calendar", some "__init__"))))),
  PySem.W.isFn K (.ref (He.fAd K ("Calendar", some "__init__"))),
  PySem.W.makesIn K (He.ga K "Calendar"),
  PySem.W.keepIn K (.ref (He.ga K "Calendar")),
  PySem.W.plainGet K (He.ga K "Feast") Str.empty,
  PySem.W.hasDictIn K (He.ga K "Feast"),
  PySem.W.plainOver K (He.ga K "Feast"),
  decide (PySem.W.findIn K (.ref (He.ga K "Feast")) "__setattr__" = some (some (.builtin "object.__setattr__"))),
  decide (PySem.W.findIn K (.ref (He.ga K "Feast")) "name" = some none),
  decide (PySem.W.findIn K (.ref (He.ga K "Feast")) "number" = some none),
  decide (PySem.W.findIn K (.ref (He.ga K "Feast")) "day" = some none),
  decide (PySem.W.findIn K (.ref (He.ga K "Feast")) "when" = some none),
  decide (PySem.W.nsIn K mainGlobals "Feast" = some (some (.ref (He.ga K "Feast")))),
  decide (PySem.W.findIn K (.ref (He.ga K "Feast")) "__init__" = some (some (.ref (He.fAd K ("Feast", some "__init__"))))),
  PySem.W.isFn K (.ref (He.fAd K ("Feast", some "__init__"))),
  PySem.W.makesIn K (He.ga K "Feast"),
  PySem.W.keepIn K (.ref (He.ga K "Feast")),
  PySem.W.plainGet K (He.ga K "Feasts") Str.empty,
  PySem.W.hasDictIn K (He.ga K "Feasts"),
  PySem.W.plainOver K (He.ga K "Feasts"),
  decide (PySem.W.findIn K (.ref (He.ga K "Feasts")) "__setattr__" = some (some (.builtin "object.__setattr__"))),
  decide (PySem.W.findIn K (.ref (He.ga K "Feasts")) "calendar" = some none),
  decide (PySem.W.findIn K (.ref (He.ga K "Feasts")) "feasts" = some none),
  decide (PySem.W.nsIn K mainGlobals "Feasts" = some (some (.ref (He.ga K "Feasts")))),
  decide (PySem.W.findIn K (.ref (He.ga K "Feasts")) "__init__" = some (some (.ref (He.fAd K ("Feasts", some "__init__"))))),
  PySem.W.isFn K (.ref (He.fAd K ("Feasts", some "__init__"))),
  PySem.W.makesIn K (He.ga K "Feasts"),
  PySem.W.keepIn K (.ref (He.ga K "Feasts")),
  decide (PySem.W.findIn K (.ref (He.ga K "Feasts")) "next_feast" = some (some (.ref (He.fAd K ("Feasts", some "next_feast"))))),
  PySem.W.isFn K (.ref (He.fAd K ("Feasts", some "next_feast"))),
  decide (PySem.W.findIn K (.ref (He.ga K "Calendar")) "start" = some (some (.ref (He.fAd K ("Calendar", some "start"))))),
  PySem.W.isFn K (.ref (He.fAd K ("Calendar", some "start"))),
  decide (PySem.W.findIn K (.ref (He.ga K "Calendar")) "month_at" = some (some (.ref (He.fAd K ("Calendar", some "month_at"))))),
  PySem.W.isFn K (.ref (He.fAd K ("Calendar", some "month_at"))),
  decide (PySem.W.findIn K (.ref (He.ga K "Calendar")) "mark_day" = some (some (.ref (He.fAd K ("Calendar", some "mark_day"))))),
  PySem.W.isFn K (.ref (He.fAd K ("Calendar", some "mark_day"))),
  decide (PySem.W.findIn K (.ref (He.ga K "Calendar")) "month_with" = some (some (.ref (He.fAd K ("Calendar", some "month_with"))))),
  PySem.W.isFn K (.ref (He.fAd K ("Calendar", some "month_with"))),
  decide (PySem.W.findIn K (.ref (He.ga K "Calendar")) "mark_in" = some (some (.ref (He.fAd K ("Calendar", some "mark_in"))))),
  PySem.W.isFn K (.ref (He.fAd K ("Calendar", some "mark_in"))),
  decide (PySem.W.findIn K (.ref (He.ga K "Calendar")) "name_of" = some (some (.ref (He.fAd K ("Calendar", some "name_of"))))),
  PySem.W.isFn K (.ref (He.fAd K ("Calendar", some "name_of"))),
  decide (PySem.W.findIn K (.ref (He.ga K "Feasts")) "add" = some (some (.ref (He.fAd K ("Feasts", some "add"))))),
  PySem.W.isFn K (.ref (He.fAd K ("Feasts", some "add"))),
  decide (PySem.W.findIn K (.ref (He.ga K "Feasts")) "drop" = some (some (.ref (He.fAd K ("Feasts", some "drop"))))),
  PySem.W.isFn K (.ref (He.fAd K ("Feasts", some "drop"))),
  decide (PySem.W.findIn K (.ref (He.ga K "Feasts")) "refuse_missing" = some (some (.ref (He.fAd K ("Feasts", some "refuse_missing"))))),
  PySem.W.isFn K (.ref (He.fAd K ("Feasts", some "refuse_missing"))),
  decide (PySem.W.findIn K (.ref (He.ga K "Feasts")) "called" = some (some (.ref (He.fAd K ("Feasts", some "called"))))),
  PySem.W.isFn K (.ref (He.fAd K ("Feasts", some "called"))),
  decide (PySem.W.findIn K (.ref (He.ga K "Feasts")) "on_day" = some (some (.ref (He.fAd K ("Feasts", some "on_day"))))),
  PySem.W.isFn K (.ref (He.fAd K ("Feasts", some "on_day"))),
  decide (PySem.W.findIn K (.ref (He.ga K "Feasts")) "in_year" = some (some (.ref (He.fAd K ("Feasts", some "in_year"))))),
  PySem.W.isFn K (.ref (He.fAd K ("Feasts", some "in_year"))),
  decide (PySem.W.nsIn K mainGlobals "NoShare" = some (some (.ref (He.ga K "NoShare")))),
  PySem.W.isClsIn K (He.ga K "NoShare"),
  decide (PySem.W.typeIn K (.ref (He.ga K "NoShare")) = some (.type "type")),
  decide (PySem.W.subIn K (.ref (He.ga K "NoShare")) (.type "BaseException") = some true),
  decide (PySem.W.subIn K (.ref (He.ga K "NoName")) (.ref (He.ga K "NoShare")) = some false),
  decide (PySem.W.nsIn K mainGlobals "NoCalendar" = some (some (.ref (He.ga K "NoCalendar")))),
  PySem.W.isClsIn K (He.ga K "NoCalendar"),
  decide (PySem.W.typeIn K (.ref (He.ga K "NoCalendar")) = some (.type "type")),
  decide (PySem.W.subIn K (.ref (He.ga K "NoCalendar")) (.type "BaseException") = some true),
  decide (PySem.W.subIn K (.ref (He.ga K "NoName")) (.ref (He.ga K "NoCalendar")) = some false),
  decide (PySem.W.nsIn K mainGlobals "NoDate" = some (some (.ref (He.ga K "NoDate")))),
  PySem.W.isClsIn K (He.ga K "NoDate"),
  decide (PySem.W.typeIn K (.ref (He.ga K "NoDate")) = some (.type "type")),
  decide (PySem.W.subIn K (.ref (He.ga K "NoDate")) (.type "BaseException") = some true),
  decide (PySem.W.subIn K (.ref (He.ga K "NoName")) (.ref (He.ga K "NoDate")) = some false),
  decide (PySem.W.nsIn K mainGlobals "NoWheel" = some (some (.ref (He.ga K "NoWheel")))),
  PySem.W.isClsIn K (He.ga K "NoWheel"),
  decide (PySem.W.typeIn K (.ref (He.ga K "NoWheel")) = some (.type "type")),
  decide (PySem.W.subIn K (.ref (He.ga K "NoWheel")) (.type "BaseException") = some true),
  decide (PySem.W.subIn K (.ref (He.ga K "NoName")) (.ref (He.ga K "NoWheel")) = some false),
  decide (PySem.W.nsIn K mainGlobals "NoName" = some (some (.ref (He.ga K "NoName")))),
  PySem.W.isClsIn K (He.ga K "NoName"),
  decide (PySem.W.typeIn K (.ref (He.ga K "NoName")) = some (.type "type")),
  decide (PySem.W.subIn K (.ref (He.ga K "NoName")) (.type "BaseException") = some true),
  decide (PySem.W.subIn K (.ref (He.ga K "NoName")) (.ref (He.ga K "NoName")) = some true),
  decide (PySem.W.nsIn K mainGlobals "NoDay" = some (some (.ref (He.ga K "NoDay")))),
  PySem.W.isClsIn K (He.ga K "NoDay"),
  decide (PySem.W.typeIn K (.ref (He.ga K "NoDay")) = some (.type "type")),
  decide (PySem.W.subIn K (.ref (He.ga K "NoDay")) (.type "BaseException") = some true),
  decide (PySem.W.subIn K (.ref (He.ga K "NoName")) (.ref (He.ga K "NoDay")) = some false),
  decide (PySem.W.nsIn K mainGlobals "Taken" = some (some (.ref (He.ga K "Taken")))),
  PySem.W.isClsIn K (He.ga K "Taken"),
  decide (PySem.W.typeIn K (.ref (He.ga K "Taken")) = some (.type "type")),
  decide (PySem.W.subIn K (.ref (He.ga K "Taken")) (.type "BaseException") = some true),
  decide (PySem.W.subIn K (.ref (He.ga K "NoName")) (.ref (He.ga K "Taken")) = some false),
  decide (PySem.W.nsIn K mainGlobals "NoText" = some (some (.ref (He.ga K "NoText")))),
  PySem.W.isClsIn K (He.ga K "NoText"),
  decide (PySem.W.typeIn K (.ref (He.ga K "NoText")) = some (.type "type")),
  decide (PySem.W.subIn K (.ref (He.ga K "NoText")) (.type "BaseException") = some true),
  decide (PySem.W.subIn K (.ref (He.ga K "NoName")) (.ref (He.ga K "NoText")) = some false),
  decide (PySem.W.nsIn K mainGlobals "NoNote" = some (some (.ref (He.ga K "NoNote")))),
  PySem.W.isClsIn K (He.ga K "NoNote"),
  decide (PySem.W.typeIn K (.ref (He.ga K "NoNote")) = some (.type "type")),
  decide (PySem.W.subIn K (.ref (He.ga K "NoNote")) (.type "BaseException") = some true),
  decide (PySem.W.subIn K (.ref (He.ga K "NoName")) (.ref (He.ga K "NoNote")) = some false),
  decide (PySem.W.nsIn K mainGlobals "NoDeed" = some (some (.ref (He.ga K "NoDeed"))))]
def chk2 (K : PySem.W.Frag) : List Bool := [
  PySem.W.isClsIn K (He.ga K "NoDeed"),
  decide (PySem.W.typeIn K (.ref (He.ga K "NoDeed")) = some (.type "type")),
  decide (PySem.W.subIn K (.ref (He.ga K "NoDeed")) (.type "BaseException") = some true),
  decide (PySem.W.subIn K (.ref (He.ga K "NoName")) (.ref (He.ga K "NoDeed")) = some false),
  decide ((He.ga K "NoName") ≠ (He.ga K "NoShare")),
  decide ((He.ga K "NoName") ≠ (He.ga K "NoCalendar")),
  decide ((He.ga K "NoName") ≠ (He.ga K "NoDate")),
  decide ((He.ga K "NoName") ≠ (He.ga K "NoWheel")),
  decide ((He.ga K "NoName") ≠ (He.ga K "NoDay")),
  decide ((He.ga K "NoName") ≠ (He.ga K "Taken")),
  decide ((He.ga K "NoName") ≠ (He.ga K "NoText")),
  decide ((He.ga K "NoName") ≠ (He.ga K "NoNote")),
  decide ((He.ga K "NoName") ≠ (He.ga K "NoDeed")),
  decide (PySem.W.subIn K (.ref (He.ga K "NoName")) (.type "ZeroDivisionError") = some false),
  decide (PySem.W.subIn K (.ref (He.ga K "NoName")) (.type "LookupError") = some true),
  decide (PySem.W.subIn K (.ref (He.ga K "NoName")) (.type "ValueError") = some false),
  decide (PySem.W.subIn K (.ref (He.ga K "NoName")) (.type "KeyError") = some true),
  decide (PySem.W.subIn K (.ref (He.ga K "NoName")) (.type "IndexError") = some false),
  decide (PySem.W.subIn K (.ref (He.ga K "NoName")) (.type "RuntimeError") = some false),
  decide (PySem.W.findIn K (.ref (He.ga K "NoName")) "__getattribute__" = some (some (.builtin "BaseException.__getattribute__"))),
  decide (PySem.W.findIn K (.ref (He.ga K "NoName")) "__getattr__" = some none),
  PySem.W.hasDictIn K (He.ga K "NoName"),
  decide (PySem.W.findIn K (.ref (He.ga K "NoName")) "__class__" = some (some (.builtin "object.__class__"))),
  decide (PySem.W.mroIn K (He.ga K "NoName") (.type "object") = some true),
  MM.clsB K (He.ga K "NoName") bmK true "LookupError.__new__",
  decide (PySem.W.findIn K (.ref (He.ga K "NoName")) "__setattr__" = some (some (.builtin "object.__setattr__"))),
  PySem.W.keepIn K (.ref (He.ga K "NoName")),
  decide (PySem.W.findIn K (.ref (He.ga K "NoName")) "name" = some none),
  MM.valC (PySem.W.findCls K (.type "KeyError") (.type "type") "__init__") (.builtin "KeyError.__init__"),
  decide (PySem.W.findIn K (.ref (He.ga K "NoName")) "__init__" = some (some (.ref (He.fAd K ("NoName", some "__init__"))))),
  decide (PySem.W.typeIn K (.ref (He.fAd K ("NoName", some "__init__"))) = some (.type "function")),
  decide (PySem.W.subIn K (.ref (He.ga K "Taken")) (.ref (He.ga K "NoShare")) = some false),
  decide (PySem.W.subIn K (.ref (He.ga K "Taken")) (.ref (He.ga K "NoCalendar")) = some false),
  decide (PySem.W.subIn K (.ref (He.ga K "Taken")) (.ref (He.ga K "NoDate")) = some false),
  decide (PySem.W.subIn K (.ref (He.ga K "Taken")) (.ref (He.ga K "NoWheel")) = some false),
  decide (PySem.W.subIn K (.ref (He.ga K "Taken")) (.ref (He.ga K "NoName")) = some false),
  decide (PySem.W.subIn K (.ref (He.ga K "Taken")) (.ref (He.ga K "NoDay")) = some false),
  decide (PySem.W.subIn K (.ref (He.ga K "Taken")) (.ref (He.ga K "Taken")) = some true),
  decide (PySem.W.subIn K (.ref (He.ga K "Taken")) (.ref (He.ga K "NoText")) = some false),
  decide (PySem.W.subIn K (.ref (He.ga K "Taken")) (.ref (He.ga K "NoNote")) = some false),
  decide (PySem.W.subIn K (.ref (He.ga K "Taken")) (.ref (He.ga K "NoDeed")) = some false),
  decide ((He.ga K "Taken") ≠ (He.ga K "NoShare")),
  decide ((He.ga K "Taken") ≠ (He.ga K "NoCalendar")),
  decide ((He.ga K "Taken") ≠ (He.ga K "NoDate")),
  decide ((He.ga K "Taken") ≠ (He.ga K "NoWheel")),
  decide ((He.ga K "Taken") ≠ (He.ga K "NoName")),
  decide ((He.ga K "Taken") ≠ (He.ga K "NoDay")),
  decide ((He.ga K "Taken") ≠ (He.ga K "NoText")),
  decide ((He.ga K "Taken") ≠ (He.ga K "NoNote")),
  decide ((He.ga K "Taken") ≠ (He.ga K "NoDeed")),
  decide (PySem.W.subIn K (.ref (He.ga K "Taken")) (.type "ZeroDivisionError") = some false),
  decide (PySem.W.subIn K (.ref (He.ga K "Taken")) (.type "LookupError") = some false),
  decide (PySem.W.subIn K (.ref (He.ga K "Taken")) (.type "ValueError") = some true),
  decide (PySem.W.subIn K (.ref (He.ga K "Taken")) (.type "KeyError") = some false),
  decide (PySem.W.subIn K (.ref (He.ga K "Taken")) (.type "IndexError") = some false),
  decide (PySem.W.subIn K (.ref (He.ga K "Taken")) (.type "RuntimeError") = some false),
  decide (PySem.W.findIn K (.ref (He.ga K "Taken")) "__getattribute__" = some (some (.builtin "BaseException.__getattribute__"))),
  decide (PySem.W.findIn K (.ref (He.ga K "Taken")) "__getattr__" = some none),
  PySem.W.hasDictIn K (He.ga K "Taken"),
  decide (PySem.W.findIn K (.ref (He.ga K "Taken")) "__class__" = some (some (.builtin "object.__class__"))),
  decide (PySem.W.mroIn K (He.ga K "Taken") (.type "object") = some true),
  MM.clsB K (He.ga K "Taken") bmV true "ValueError.__new__",
  decide (PySem.W.findIn K (.ref (He.ga K "Taken")) "__setattr__" = some (some (.builtin "object.__setattr__"))),
  PySem.W.keepIn K (.ref (He.ga K "Taken")),
  decide (PySem.W.findIn K (.ref (He.ga K "Taken")) "name" = some none),
  MM.valC (PySem.W.findCls K (.type "ValueError") (.type "type") "__init__") (.builtin "ValueError.__init__"),
  decide (PySem.W.findIn K (.ref (He.ga K "Taken")) "__init__" = some (some (.ref (He.fAd K ("Taken", some "__init__"))))),
  decide (PySem.W.typeIn K (.ref (He.fAd K ("Taken", some "__init__"))) = some (.type "function")),
  decide (PySem.W.nsIn K mainGlobals "abs" = some none),
  decide (PySem.W.nsIn K mainGlobals "range" = some none),
  decide (PySem.W.nsIn K mainGlobals "isinstance" = some none),
  decide (PySem.W.nsIn K mainGlobals "len" = some none),
  decide (PySem.W.nsIn K mainGlobals "list" = some none),
  decide (PySem.W.nsIn K mainGlobals "sorted" = some none),
  decide (PySem.W.nsIn K mainGlobals "min" = some none),
  decide (PySem.W.nsIn K mainGlobals "max" = some none),
  decide (PySem.W.nsIn K mainGlobals "ValueError" = some none),
  decide (PySem.W.nsIn K mainGlobals "KeyError" = some none),
  decide (PySem.W.nsIn K mainGlobals "common_divisor" = some (some (.ref (He.fAd K ("common_divisor", none))))),
  decide (PySem.W.nsIn K mainGlobals "as_share" = some (some (.ref (He.fAd K ("as_share", none))))),
  decide (PySem.W.nsIn K mainGlobals "plus" = some (some (.ref (He.fAd K ("plus", none))))),
  decide (PySem.W.nsIn K mainGlobals "minus" = some (some (.ref (He.fAd K ("minus", none))))),
  decide (PySem.W.nsIn K mainGlobals "times" = some (some (.ref (He.fAd K ("times", none))))),
  decide (PySem.W.nsIn K mainGlobals "over" = some (some (.ref (He.fAd K ("over", none))))),
  decide (PySem.W.nsIn K mainGlobals "before" = some (some (.ref (He.fAd K ("before", none))))),
  decide (PySem.W.nsIn K mainGlobals "whole" = some (some (.ref (He.fAd K ("whole", none))))),
  decide (PySem.W.nsIn K mainGlobals "rounded_up" = some (some (.ref (He.fAd K ("rounded_up", none))))),
  decide (PySem.W.nsIn K mainGlobals "refuse_unfit" = some (some (.ref (He.fAd K ("refuse_unfit", none))))),
  decide (PySem.W.nsIn K mainGlobals "moment_or_nought" = some (some (.ref (He.fAd K ("moment_or_nought", none))))),
  decide (PySem.W.nsIn K mainGlobals "twelfth" = some (some (.ref (He.fAd K ("twelfth", none))))),
  decide (PySem.W.nsIn K mainGlobals "nth_day" = some (some (.ref (He.fAd K ("nth_day", none))))),
  decide (PySem.W.nsIn K mainGlobals "first_from" = some (some (.ref (He.fAd K ("first_from", none))))),
  decide (PySem.W.nsIn K mainGlobals "days_of" = some (some (.ref (He.fAd K ("days_of", none))))),
  decide (PySem.W.nsIn K mainGlobals "plain_month" = some (some (.ref (He.fAd K ("plain_month", none))))),
  decide (PySem.W.nsIn K mainGlobals "odd_month" = some (some (.ref (He.fAd K ("odd_month", none))))),
  decide (PySem.W.nsIn K mainGlobals "day_in" = some (some (.ref (He.fAd K ("day_in", none))))),
  decide (PySem.W.nsIn K mainGlobals "month_in_year" = some (some (.ref (He.fAd K ("month_in_year", none))))),
  decide (PySem.W.nsIn K mainGlobals "held_in" = some (some (.ref (He.fAd K ("held_in", none))))),
  decide (PySem.W.nsIn K mainGlobals "year_with" = some (some (.ref (He.fAd K ("year_with", none))))),
  decide (PySem.W.nsIn K mainGlobals "feast_months" = some (some (.ref (He.fAd K ("feast_months", none))))),
  decide (PySem.W.nsIn K mainGlobals "feast_days" = some (some (.ref (He.fAd K ("feast_days", none))))),
  decide (PySem.W.nsIn K mainGlobals "_law_draws" = some (some (.ref (He.fAd K ("_law_draws", none))))),
  decide (PySem.W.nsIn K mainGlobals "_law_next" = some (some (.ref (He.fAd K ("_law_next", none))))),
  decide (PySem.W.nsIn K mainGlobals "_law_low" = some (some (.ref (He.fAd K ("_law_low", none))))),
  decide (PySem.W.nsIn K mainGlobals "_law_plus" = some (some (.ref (He.fAd K ("_law_plus", none))))),
  decide (PySem.W.nsIn K mainGlobals "_law_by" = some (some (.ref (He.fAd K ("_law_by", none))))),
  decide (PySem.W.nsIn K mainGlobals "_law_part" = some (some (.ref (He.fAd K ("_law_part", none))))),
  decide (PySem.W.nsIn K mainGlobals "_law_moment" = some (some (.ref (He.fAd K ("_law_moment", none))))),
  decide (PySem.W.nsIn K mainGlobals "_law_four" = some (some (.ref (He.fAd K ("_law_four", none))))),
  decide (PySem.W.nsIn K mainGlobals "_law_floor" = some (some (.ref (He.fAd K ("_law_floor", none))))),
  decide (PySem.W.nsIn K mainGlobals "_law_start" = some (some (.ref (He.fAd K ("_law_start", none))))),
  decide (PySem.W.nsIn K mainGlobals "_law_mark_day" = some (some (.ref (He.fAd K ("_law_mark_day", none))))),
  decide (PySem.W.nsIn K mainGlobals "_law_month_at" = some (some (.ref (He.fAd K ("_law_month_at", none))))),
  decide (PySem.W.nsIn K mainGlobals "_law_mark_in" = some (some (.ref (He.fAd K ("_law_mark_in", none))))),
  decide (PySem.W.nsIn K mainGlobals "_law_name" = some (some (.ref (He.fAd K ("_law_name", none))))),
  decide (PySem.W.nsIn K mainGlobals "_law_month_with" = some (some (.ref (He.fAd K ("_law_month_with", none))))),
  decide (PySem.W.nsIn K mainGlobals "_law_long" = some (some (.ref (He.fAd K ("_law_long", none))))),
  decide (PySem.W.nsIn K mainGlobals "_law_feast_days" = some (some (.ref (He.fAd K ("_law_feast_days", none))))),
  decide (PySem.W.nsIn K mainGlobals "_law_year_of" = some (some (.ref (He.fAd K ("_law_year_of", none))))),
  decide (PySem.W.nsIn K mainGlobals "_law_cal" = some (some (.ref (He.fAd K ("_law_cal", none))))),
  decide (PySem.W.nsIn K mainGlobals "_law_kinds" = some (some (.ref (He.fAd K ("_law_kinds", none))))),
  decide (PySem.W.nsIn K mainGlobals "_law_in_year" = some (some (.ref (He.fAd K ("_law_in_year", none))))),
  decide (PySem.W.nsIn K mainGlobals "_law_next_feast" = some (some (.ref (He.fAd K ("_law_next_feast", none))))),
  decide (PySem.W.nsIn K mainGlobals "_law_deed" = some (some (.ref (He.fAd K ("_law_deed", none))))),
  decide (PySem.W.nsIn K mainGlobals "_law_done" = some (some (.ref (He.fAd K ("_law_done", none))))),
  decide (PySem.W.nsIn K mainGlobals "_law_asked" = some (some (.ref (He.fAd K ("_law_asked", none))))),
  decide (PySem.W.nsIn K mainGlobals "_law_filled" = some (some (.ref (He.fAd K ("_law_filled", none))))),
  decide (PySem.W.nsIn K mainGlobals "_law_right" = some (some (.ref (He.fAd K ("_law_right", none))))),
  decide (PySem.W.nsIn K mainGlobals "law" = some (some (.ref (He.fAd K ("law", none)))))]
def chk (K : PySem.W.Frag) : List Bool := chk1 K ++ chk2 K
def fn1 : List He.DefD := [
  ⟨("Share", some "__init__"), "__init__", "Share.__init__", defArgs s_Share_init, defBody s_Share_init, defScope s_Share_init, [.int 1], []⟩,
  ⟨("Calendar", some "__init__"), "__init__", "Calendar.__init__", defArgs s_Calendar_init, defBody s_Calendar_init, defScope s_Calendar_init, [.non, .non], []⟩,
  ⟨("Feast", some "__init__"), "__init__", "Feast.__init__", defArgs s_Feast_init, defBody s_Feast_init, defScope s_Feast_init, [.str "plain"], []⟩,
  ⟨("Feasts", some "__init__"), "__init__", "Feasts.__init__", defArgs s_Feasts_init, defBody s_Feasts_init, defScope s_Feasts_init, [], []⟩,
  ⟨("Feasts", some "next_feast"), "next_feast", "Feasts.next_feast", defArgs s_Feasts_next_feast, defBody s_Feasts_next_feast, defScope s_Feasts_next_feast, [.non], []⟩,
  ⟨("Calendar", some "start"), "start", "Calendar.start", defArgs s_Calendar_start, defBody s_Calendar_start, defScope s_Calendar_start, [], []⟩,
  ⟨("Calendar", some "month_at"), "month_at", "Calendar.month_at", defArgs s_Calendar_month_at, defBody s_Calendar_month_at, defScope s_Calendar_month_at, [], []⟩,
  ⟨("Calendar", some "mark_day"), "mark_day", "Calendar.mark_day", defArgs s_Calendar_mark_day, defBody s_Calendar_mark_day, defScope s_Calendar_mark_day, [], []⟩,
  ⟨("Calendar", some "month_with"), "month_with", "Calendar.month_with", defArgs s_Calendar_month_with, defBody s_Calendar_month_with, defScope s_Calendar_month_with, [], []⟩,
  ⟨("Calendar", some "mark_in"), "mark_in", "Calendar.mark_in", defArgs s_Calendar_mark_in, defBody s_Calendar_mark_in, defScope s_Calendar_mark_in, [], []⟩,
  ⟨("Calendar", some "name_of"), "name_of", "Calendar.name_of", defArgs s_Calendar_name_of, defBody s_Calendar_name_of, defScope s_Calendar_name_of, [], []⟩,
  ⟨("Feasts", some "add"), "add", "Feasts.add", defArgs s_Feasts_add, defBody s_Feasts_add, defScope s_Feasts_add, [], []⟩,
  ⟨("Feasts", some "drop"), "drop", "Feasts.drop", defArgs s_Feasts_drop, defBody s_Feasts_drop, defScope s_Feasts_drop, [], []⟩,
  ⟨("Feasts", some "refuse_missing"), "refuse_missing", "Feasts.refuse_missing", defArgs s_Feasts_refuse_missing, defBody s_Feasts_refuse_missing, defScope s_Feasts_refuse_missing, [], []⟩,
  ⟨("Feasts", some "called"), "called", "Feasts.called", defArgs s_Feasts_called, defBody s_Feasts_called, defScope s_Feasts_called, [], []⟩,
  ⟨("Feasts", some "on_day"), "on_day", "Feasts.on_day", defArgs s_Feasts_on_day, defBody s_Feasts_on_day, defScope s_Feasts_on_day, [], []⟩,
  ⟨("Feasts", some "in_year"), "in_year", "Feasts.in_year", defArgs s_Feasts_in_year, defBody s_Feasts_in_year, defScope s_Feasts_in_year, [], []⟩,
  ⟨("NoName", some "__init__"), "__init__", "NoName.__init__", defArgs s_NoName_init, defBody s_NoName_init, defScope s_NoName_init, [], []⟩,
  ⟨("Taken", some "__init__"), "__init__", "Taken.__init__", defArgs s_Taken_init, defBody s_Taken_init, defScope s_Taken_init, [], []⟩,
  ⟨("common_divisor", none), "common_divisor", "common_divisor", defArgs s_common_divisor, defBody s_common_divisor, defScope s_common_divisor, [], []⟩,
  ⟨("as_share", none), "as_share", "as_share", defArgs s_as_share, defBody s_as_share, defScope s_as_share, [], []⟩,
  ⟨("plus", none), "plus", "plus", defArgs s_plus, defBody s_plus, defScope s_plus, [], []⟩,
  ⟨("minus", none), "minus", "minus", defArgs s_minus, defBody s_minus, defScope s_minus, [], []⟩,
  ⟨("times", none), "times", "times", defArgs s_times, defBody s_times, defScope s_times, [], []⟩,
  ⟨("over", none), "over", "over", defArgs s_over, defBody s_over, defScope s_over, [], []⟩,
  ⟨("before", none), "before", "before", defArgs s_before, defBody s_before, defScope s_before, [], []⟩,
  ⟨("whole", none), "whole", "whole", defArgs s_whole, defBody s_whole, defScope s_whole, [], []⟩,
  ⟨("rounded_up", none), "rounded_up", "rounded_up", defArgs s_rounded_up, defBody s_rounded_up, defScope s_rounded_up, [], []⟩,
  ⟨("refuse_unfit", none), "refuse_unfit", "refuse_unfit", defArgs s_refuse_unfit, defBody s_refuse_unfit, defScope s_refuse_unfit, [], []⟩,
  ⟨("moment_or_nought", none), "moment_or_nought", "moment_or_nought", defArgs s_moment_or_nought, defBody s_moment_or_nought, defScope s_moment_or_nought, [], []⟩,
  ⟨("twelfth", none), "twelfth", "twelfth", defArgs s_twelfth, defBody s_twelfth, defScope s_twelfth, [], []⟩,
  ⟨("nth_day", none), "nth_day", "nth_day", defArgs s_nth_day, defBody s_nth_day, defScope s_nth_day, [], []⟩,
  ⟨("first_from", none), "first_from", "first_from", defArgs s_first_from, defBody s_first_from, defScope s_first_from, [], []⟩,
  ⟨("days_of", none), "days_of", "days_of", defArgs s_days_of, defBody s_days_of, defScope s_days_of, [], []⟩,
  ⟨("plain_month", none), "plain_month", "plain_month", defArgs s_plain_month, defBody s_plain_month, defScope s_plain_month, [], []⟩]
def fn2 : List He.DefD := [
  ⟨("odd_month", none), "odd_month", "odd_month", defArgs s_odd_month, defBody s_odd_month, defScope s_odd_month, [], []⟩,
  ⟨("day_in", none), "day_in", "day_in", defArgs s_day_in, defBody s_day_in, defScope s_day_in, [], []⟩,
  ⟨("month_in_year", none), "month_in_year", "month_in_year", defArgs s_month_in_year, defBody s_month_in_year, defScope s_month_in_year, [], []⟩,
  ⟨("held_in", none), "held_in", "held_in", defArgs s_held_in, defBody s_held_in, defScope s_held_in, [], []⟩,
  ⟨("year_with", none), "year_with", "year_with", defArgs s_year_with, defBody s_year_with, defScope s_year_with, [], []⟩,
  ⟨("feast_months", none), "feast_months", "feast_months", defArgs s_feast_months, defBody s_feast_months, defScope s_feast_months, [], []⟩,
  ⟨("feast_days", none), "feast_days", "feast_days", defArgs s_feast_days, defBody s_feast_days, defScope s_feast_days, [], []⟩,
  ⟨("_law_draws", none), "_law_draws", "_law_draws", defArgs s_l_draws, defBody s_l_draws, defScope s_l_draws, [], []⟩,
  ⟨("_law_next", none), "_law_next", "_law_next", defArgs s_l_next, defBody s_l_next, defScope s_l_next, [], []⟩,
  ⟨("_law_low", none), "_law_low", "_law_low", defArgs s_l_low, defBody s_l_low, defScope s_l_low, [], []⟩,
  ⟨("_law_plus", none), "_law_plus", "_law_plus", defArgs s_l_plus, defBody s_l_plus, defScope s_l_plus, [], []⟩,
  ⟨("_law_by", none), "_law_by", "_law_by", defArgs s_l_by, defBody s_l_by, defScope s_l_by, [], []⟩,
  ⟨("_law_part", none), "_law_part", "_law_part", defArgs s_l_part, defBody s_l_part, defScope s_l_part, [], []⟩,
  ⟨("_law_moment", none), "_law_moment", "_law_moment", defArgs s_l_moment, defBody s_l_moment, defScope s_l_moment, [], []⟩,
  ⟨("_law_four", none), "_law_four", "_law_four", defArgs s_l_four, defBody s_l_four, defScope s_l_four, [], []⟩,
  ⟨("_law_floor", none), "_law_floor", "_law_floor", defArgs s_l_floor, defBody s_l_floor, defScope s_l_floor, [], []⟩,
  ⟨("_law_start", none), "_law_start", "_law_start", defArgs s_l_start, defBody s_l_start, defScope s_l_start, [], []⟩,
  ⟨("_law_mark_day", none), "_law_mark_day", "_law_mark_day", defArgs s_l_mark_day, defBody s_l_mark_day, defScope s_l_mark_day, [], []⟩,
  ⟨("_law_month_at", none), "_law_month_at", "_law_month_at", defArgs s_l_month_at, defBody s_l_month_at, defScope s_l_month_at, [], []⟩,
  ⟨("_law_mark_in", none), "_law_mark_in", "_law_mark_in", defArgs s_l_mark_in, defBody s_l_mark_in, defScope s_l_mark_in, [], []⟩,
  ⟨("_law_name", none), "_law_name", "_law_name", defArgs s_l_name, defBody s_l_name, defScope s_l_name, [], []⟩,
  ⟨("_law_month_with", none), "_law_month_with", "_law_month_with", defArgs s_l_month_with, defBody s_l_month_with, defScope s_l_month_with, [], []⟩,
  ⟨("_law_long", none), "_law_long", "_law_long", defArgs s_l_long, defBody s_l_long, defScope s_l_long, [], []⟩,
  ⟨("_law_feast_days", none), "_law_feast_days", "_law_feast_days", defArgs s_l_feast_days, defBody s_l_feast_days, defScope s_l_feast_days, [], []⟩,
  ⟨("_law_year_of", none), "_law_year_of", "_law_year_of", defArgs s_l_year_of, defBody s_l_year_of, defScope s_l_year_of, [], []⟩,
  ⟨("_law_cal", none), "_law_cal", "_law_cal", defArgs s_l_cal, defBody s_l_cal, defScope s_l_cal, [], []⟩,
  ⟨("_law_kinds", none), "_law_kinds", "_law_kinds", defArgs s_l_kinds, defBody s_l_kinds, defScope s_l_kinds, [], []⟩,
  ⟨("_law_in_year", none), "_law_in_year", "_law_in_year", defArgs s_l_in_year, defBody s_l_in_year, defScope s_l_in_year, [], []⟩,
  ⟨("_law_next_feast", none), "_law_next_feast", "_law_next_feast", defArgs s_l_next_feast, defBody s_l_next_feast, defScope s_l_next_feast, [], []⟩,
  ⟨("_law_deed", none), "_law_deed", "_law_deed", defArgs s_l_deed, defBody s_l_deed, defScope s_l_deed, [], []⟩,
  ⟨("_law_done", none), "_law_done", "_law_done", defArgs s_l_done, defBody s_l_done, defScope s_l_done, [], []⟩,
  ⟨("_law_asked", none), "_law_asked", "_law_asked", defArgs s_l_asked, defBody s_l_asked, defScope s_l_asked, [], []⟩,
  ⟨("_law_filled", none), "_law_filled", "_law_filled", defArgs s_l_filled, defBody s_l_filled, defScope s_l_filled, [], []⟩,
  ⟨("_law_right", none), "_law_right", "_law_right", defArgs s_l_right, defBody s_l_right, defScope s_l_right, [], []⟩,
  ⟨("law", none), "law", "law", defArgs s_law, defBody s_law, defScope s_law, [], []⟩]
def fnB : List He.DefD := fn1 ++ fn2
abbrev hk : PySem.W.Hook := hookB 1000 chk fnB
noncomputable def sT (w : World) (os : OsState) : Option PySem.W.SharedT := HandSHeadRun.endF (HandSHeadRun.stepQ (HandSHeadRun.denQ HandSHeadRun.tabQ) Rw.prog w) 9000 Rw.prog w os
def obC (c : PySem.W.Frag → List Bool) (s : PySem.W.SharedT) : Bool := (c (frB 1000 (HandSHeadRun.getT s))).all (fun b => b)
def obF (l : List He.DefD) (s : PySem.W.SharedT) : Bool × List He.FnW := (l.all fun d => d.ok (frB 1000 (HandSHeadRun.getT s)), l.map fun d => He.fnW (frB 1000 (HandSHeadRun.getT s)) d.at_)
def ob (s : PySem.W.SharedT) : AlB := (obC chk s, obF fnB s)
theorem ob_eq (s : PySem.W.SharedT) : ob s = hk.obs s.abs := obsB_eq (HandSHeadRun.getT_eq s)
set_option maxHeartbeats 0 in
theorem run0 (w : World) (os : OsState) : (sT w os).map (fun s => (HandSHeadRun.looksF Rw.prog (PySem.W.boot_heap w.params) s.abs, HandSHeadRun.seenQ (PySem.W.view Rw.prog [78]) namesA (importedModules Rw.prog.main.body) (fun s => PySem.W.xlAt (PySem.W.view Rw.prog [78]) [] s && PySem.W.recOk Rw.toRowW.records s) s.abs)) = some (true, PySem.W.openGood (PySem.W.view Rw.prog [78]) namesA) := by
  kernel_rfl
set_option maxHeartbeats 0 in
theorem run1 (w : World) (os : OsState) : (sT w os).map (obC chk1) = some true := by
  kernel_rfl
set_option maxHeartbeats 0 in
theorem run2 (w : World) (os : OsState) : (sT w os).map (obC chk2) = some true := by
  kernel_rfl
set_option maxHeartbeats 0 in
theorem run3 (w : World) (os : OsState) : (sT w os).map (obF fn1) = some (true, fn1.map He.DefD.val) := by
  kernel_rfl
set_option maxHeartbeats 0 in
theorem run4 (w : World) (os : OsState) : (sT w os).map (obF fn2) = some (true, fn2.map He.DefD.val) := by
  kernel_rfl
theorem run (w : World) : HandSHeadRun.RunEq Rw (PySem.W.view Rw.prog [78]) hk ob 9000 namesA w := fun os => by
  have e := run_join (h := obC chk) (i := obF fnB) (run0 w os) (run1 w os) (run2 w os) (run3 w os) (run4 w os) (fun s => by unfold obC chk; rw [List.all_append]) (fun s => by unfold obF fnB; rw [List.all_append, List.map_append])
  rw [← List.map_append] at e
  exact e
theorem facts {P : Program} {w : World} {K : PySem.W.Frag} {h : Heap} {mg : Str → Option Value} {f : Addr} (KX : K.In h) (G : h.Ns mainGlobals mg) (hfa : mg ("law" : Str) = some (.ref f)) (c : SaysB chk fnB K) :
    ∃ fd : FuncData, (∀ (s : Shared) (u : Value), BindsTo s fd ⟨[u], []⟩ [("_law_script", u)]) ∧ ∀ base : Heap, K.In base → base.Ns mainGlobals mg → FnOk P w K mg base CX0 21 f fd ["_law_script"] (spLaw K) := by
  obtain ⟨tMARKS, hMARKS⟩ := He.int_ok KX G (x := "MARKS") (i := 12) (c.fact 27 rfl)
  exact fin hfa
    ⟨(c.fact 0 rfl), (c.fact 1 rfl), (c.fact 2 rfl), (c.dec 3 rfl)⟩
    (c.dec 4 rfl)
    (c.dec 5 rfl)
    (c.dec 6 rfl)
    (c.dec 7 rfl)
    (c.dec 8 rfl)
    (c.dec 9 rfl)
    (c.fact 10 rfl)
    (c.dec 11 rfl)
    (c.dec 12 rfl)
    (PySem.W.mg_of KX G (c.dec 13 rfl))
    (MM.diB (PySem.W.mg_of KX G (c.dec 13 rfl)) (c.def_ 0 rfl) (c.dec 14 rfl) (c.fact 15 rfl) (c.fact 16 rfl) (c.fact 17 rfl))
    ⟨(c.fact 18 rfl), (c.fact 19 rfl), (c.fact 20 rfl), (c.dec 21 rfl)⟩
    (c.dec 22 rfl)
    (c.dec 23 rfl)
    (c.dec 24 rfl)
    (c.dec 25 rfl)
    (c.dec 26 rfl)
    hMARKS
    ⟨_, rfl⟩
    (MM.diB (PySem.W.mg_of KX G (c.dec 28 rfl)) (c.def_ 1 rfl) (c.dec 29 rfl) (c.fact 30 rfl) (c.fact 31 rfl) (c.fact 32 rfl))
    ⟨(c.fact 33 rfl), (c.fact 34 rfl), (c.fact 35 rfl), (c.dec 36 rfl)⟩
    (c.dec 37 rfl)
    (c.dec 38 rfl)
    (c.dec 39 rfl)
    (c.dec 40 rfl)
    (MM.diB (PySem.W.mg_of KX G (c.dec 41 rfl)) (c.def_ 2 rfl) (c.dec 42 rfl) (c.fact 43 rfl) (c.fact 44 rfl) (c.fact 45 rfl))
    ⟨(c.fact 46 rfl), (c.fact 47 rfl), (c.fact 48 rfl), (c.dec 49 rfl)⟩
    (c.dec 50 rfl)
    (c.dec 51 rfl)
    (MM.diB (PySem.W.mg_of KX G (c.dec 52 rfl)) (c.def_ 3 rfl) (c.dec 53 rfl) (c.fact 54 rfl) (c.fact 55 rfl) (c.fact 56 rfl))
    (MM.dmDB ⟨(c.fact 46 rfl), (c.fact 47 rfl), (c.fact 48 rfl), (c.dec 49 rfl)⟩ (c.def_ 4 rfl) (c.dec 57 rfl) (c.fact 58 rfl))
    (MM.dmB ⟨(c.fact 18 rfl), (c.fact 19 rfl), (c.fact 20 rfl), (c.dec 21 rfl)⟩ (c.def_ 5 rfl) (c.dec 59 rfl) (c.fact 60 rfl))
    (MM.dmB ⟨(c.fact 18 rfl), (c.fact 19 rfl), (c.fact 20 rfl), (c.dec 21 rfl)⟩ (c.def_ 6 rfl) (c.dec 61 rfl) (c.fact 62 rfl))
    (MM.dmB ⟨(c.fact 18 rfl), (c.fact 19 rfl), (c.fact 20 rfl), (c.dec 21 rfl)⟩ (c.def_ 7 rfl) (c.dec 63 rfl) (c.fact 64 rfl))
    (MM.dmB ⟨(c.fact 18 rfl), (c.fact 19 rfl), (c.fact 20 rfl), (c.dec 21 rfl)⟩ (c.def_ 8 rfl) (c.dec 65 rfl) (c.fact 66 rfl))
    (MM.dmB ⟨(c.fact 18 rfl), (c.fact 19 rfl), (c.fact 20 rfl), (c.dec 21 rfl)⟩ (c.def_ 9 rfl) (c.dec 67 rfl) (c.fact 68 rfl))
    (MM.dmB ⟨(c.fact 18 rfl), (c.fact 19 rfl), (c.fact 20 rfl), (c.dec 21 rfl)⟩ (c.def_ 10 rfl) (c.dec 69 rfl) (c.fact 70 rfl))
    (MM.dmB ⟨(c.fact 46 rfl), (c.fact 47 rfl), (c.fact 48 rfl), (c.dec 49 rfl)⟩ (c.def_ 11 rfl) (c.dec 71 rfl) (c.fact 72 rfl))
    (MM.dmB ⟨(c.fact 46 rfl), (c.fact 47 rfl), (c.fact 48 rfl), (c.dec 49 rfl)⟩ (c.def_ 12 rfl) (c.dec 73 rfl) (c.fact 74 rfl))
    (MM.dmB ⟨(c.fact 46 rfl), (c.fact 47 rfl), (c.fact 48 rfl), (c.dec 49 rfl)⟩ (c.def_ 13 rfl) (c.dec 75 rfl) (c.fact 76 rfl))
    (MM.dmB ⟨(c.fact 46 rfl), (c.fact 47 rfl), (c.fact 48 rfl), (c.dec 49 rfl)⟩ (c.def_ 14 rfl) (c.dec 77 rfl) (c.fact 78 rfl))
    (MM.dmB ⟨(c.fact 46 rfl), (c.fact 47 rfl), (c.fact 48 rfl), (c.dec 49 rfl)⟩ (c.def_ 15 rfl) (c.dec 79 rfl) (c.fact 80 rfl))
    (MM.dmB ⟨(c.fact 46 rfl), (c.fact 47 rfl), (c.fact 48 rfl), (c.dec 49 rfl)⟩ (c.def_ 16 rfl) (c.dec 81 rfl) (c.fact 82 rfl))
    ⟨(PySem.W.mg_of KX G (c.dec 83 rfl)), (c.fact 84 rfl), (c.dec 85 rfl), (c.dec 86 rfl), (c.dec 87 rfl)⟩
    ⟨(PySem.W.mg_of KX G (c.dec 88 rfl)), (c.fact 89 rfl), (c.dec 90 rfl), (c.dec 91 rfl), (c.dec 92 rfl)⟩
    ⟨(PySem.W.mg_of KX G (c.dec 93 rfl)), (c.fact 94 rfl), (c.dec 95 rfl), (c.dec 96 rfl), (c.dec 97 rfl)⟩
    ⟨(PySem.W.mg_of KX G (c.dec 98 rfl)), (c.fact 99 rfl), (c.dec 100 rfl), (c.dec 101 rfl), (c.dec 102 rfl)⟩
    ⟨(PySem.W.mg_of KX G (c.dec 103 rfl)), (c.fact 104 rfl), (c.dec 105 rfl), (c.dec 106 rfl), (c.dec 107 rfl)⟩
    ⟨(PySem.W.mg_of KX G (c.dec 108 rfl)), (c.fact 109 rfl), (c.dec 110 rfl), (c.dec 111 rfl), (c.dec 112 rfl)⟩
    ⟨(PySem.W.mg_of KX G (c.dec 113 rfl)), (c.fact 114 rfl), (c.dec 115 rfl), (c.dec 116 rfl), (c.dec 117 rfl)⟩
    ⟨(PySem.W.mg_of KX G (c.dec 118 rfl)), (c.fact 119 rfl), (c.dec 120 rfl), (c.dec 121 rfl), (c.dec 122 rfl)⟩
    ⟨(PySem.W.mg_of KX G (c.dec 123 rfl)), (c.fact 124 rfl), (c.dec 125 rfl), (c.dec 126 rfl), (c.dec 127 rfl)⟩
    ⟨(PySem.W.mg_of KX G (c.dec 128 rfl)), (c.fact 129 rfl), (c.dec 130 rfl), (c.dec 131 rfl), (c.dec 132 rfl)⟩
    (c.dec 133 rfl)
    (c.dec 134 rfl)
    (c.dec 135 rfl)
    (c.dec 136 rfl)
    (c.dec 137 rfl)
    (c.dec 138 rfl)
    (c.dec 139 rfl)
    (c.dec 140 rfl)
    (c.dec 141 rfl)
    (c.dec 142 rfl)
    (c.dec 143 rfl)
    (c.dec 144 rfl)
    (c.dec 145 rfl)
    (c.dec 146 rfl)
    (c.dec 147 rfl)
    ⟨(c.dec 148 rfl), (c.dec 149 rfl), (c.dec 106 rfl), (c.fact 150 rfl), (c.dec 151 rfl), (c.dec 7 rfl), (c.dec 8 rfl), (c.dec 152 rfl)⟩
    (let ⟨_, _, _, _, _, _, _, _, _, _, _, _, _, _, l⟩ := MM.clsB_ok (c.fact 153 rfl); MM.oxk_mk l (c.dec 154 rfl) (c.dec 106 rfl) (c.dec 105 rfl) (c.fact 155 rfl))
    (c.dec 156 rfl)
    (MM.valC_ok (c.fact 157 rfl))
    (let ⟨fd, F⟩ := (c.def_ 17 rfl); ⟨_, fd, F, (c.dec 158 rfl), (c.dec 159 rfl)⟩)
    ⟨(PySem.W.mg_of KX G (c.dec 83 rfl)), (c.fact 84 rfl), (c.dec 85 rfl), (c.dec 86 rfl), (c.dec 160 rfl)⟩
    ⟨(PySem.W.mg_of KX G (c.dec 88 rfl)), (c.fact 89 rfl), (c.dec 90 rfl), (c.dec 91 rfl), (c.dec 161 rfl)⟩
    ⟨(PySem.W.mg_of KX G (c.dec 93 rfl)), (c.fact 94 rfl), (c.dec 95 rfl), (c.dec 96 rfl), (c.dec 162 rfl)⟩
    ⟨(PySem.W.mg_of KX G (c.dec 98 rfl)), (c.fact 99 rfl), (c.dec 100 rfl), (c.dec 101 rfl), (c.dec 163 rfl)⟩
    ⟨(PySem.W.mg_of KX G (c.dec 103 rfl)), (c.fact 104 rfl), (c.dec 105 rfl), (c.dec 106 rfl), (c.dec 164 rfl)⟩
    ⟨(PySem.W.mg_of KX G (c.dec 108 rfl)), (c.fact 109 rfl), (c.dec 110 rfl), (c.dec 111 rfl), (c.dec 165 rfl)⟩
    ⟨(PySem.W.mg_of KX G (c.dec 113 rfl)), (c.fact 114 rfl), (c.dec 115 rfl), (c.dec 116 rfl), (c.dec 166 rfl)⟩
    ⟨(PySem.W.mg_of KX G (c.dec 118 rfl)), (c.fact 119 rfl), (c.dec 120 rfl), (c.dec 121 rfl), (c.dec 167 rfl)⟩
    ⟨(PySem.W.mg_of KX G (c.dec 123 rfl)), (c.fact 124 rfl), (c.dec 125 rfl), (c.dec 126 rfl), (c.dec 168 rfl)⟩
    ⟨(PySem.W.mg_of KX G (c.dec 128 rfl)), (c.fact 129 rfl), (c.dec 130 rfl), (c.dec 131 rfl), (c.dec 169 rfl)⟩
    (c.dec 170 rfl)
    (c.dec 171 rfl)
    (c.dec 172 rfl)
    (c.dec 173 rfl)
    (c.dec 174 rfl)
    (c.dec 175 rfl)
    (c.dec 176 rfl)
    (c.dec 177 rfl)
    (c.dec 178 rfl)
    (c.dec 179 rfl)
    (c.dec 180 rfl)
    (c.dec 181 rfl)
    (c.dec 182 rfl)
    (c.dec 183 rfl)
    (c.dec 184 rfl)
    ⟨(c.dec 185 rfl), (c.dec 186 rfl), (c.dec 116 rfl), (c.fact 187 rfl), (c.dec 188 rfl), (c.dec 7 rfl), (c.dec 8 rfl), (c.dec 189 rfl)⟩
    (let ⟨_, _, _, _, _, _, _, _, _, _, _, _, _, _, l⟩ := MM.clsB_ok (c.fact 190 rfl); MM.oxv_mk l (c.dec 191 rfl) (c.dec 116 rfl) (c.dec 115 rfl) (c.fact 192 rfl))
    (c.dec 193 rfl)
    (MM.valC_ok (c.fact 194 rfl))
    (let ⟨fd, F⟩ := (c.def_ 18 rfl); ⟨_, fd, F, (c.dec 195 rfl), (c.dec 196 rfl)⟩)
    (PySem.W.mg_none_of KX G (c.dec 197 rfl))
    (PySem.W.mg_none_of KX G (c.dec 198 rfl))
    (PySem.W.mg_none_of KX G (c.dec 199 rfl))
    (PySem.W.mg_none_of KX G (c.dec 200 rfl))
    (PySem.W.mg_none_of KX G (c.dec 201 rfl))
    (PySem.W.mg_none_of KX G (c.dec 202 rfl))
    (PySem.W.mg_none_of KX G (c.dec 203 rfl))
    (PySem.W.mg_none_of KX G (c.dec 204 rfl))
    (PySem.W.mg_none_of KX G (c.dec 205 rfl))
    (PySem.W.mg_none_of KX G (c.dec 206 rfl))
    (MM.dfB KX G (c.def_ 19 rfl) (c.dec 207 rfl))
    (MM.dfB KX G (c.def_ 20 rfl) (c.dec 208 rfl))
    (MM.dfB KX G (c.def_ 21 rfl) (c.dec 209 rfl))
    (MM.dfB KX G (c.def_ 22 rfl) (c.dec 210 rfl))
    (MM.dfB KX G (c.def_ 23 rfl) (c.dec 211 rfl))
    (MM.dfB KX G (c.def_ 24 rfl) (c.dec 212 rfl))
    (MM.dfB KX G (c.def_ 25 rfl) (c.dec 213 rfl))
    (MM.dfB KX G (c.def_ 26 rfl) (c.dec 214 rfl))
    (MM.dfB KX G (c.def_ 27 rfl) (c.dec 215 rfl))
    (MM.dfB KX G (c.def_ 28 rfl) (c.dec 216 rfl))
    (MM.dfB KX G (c.def_ 29 rfl) (c.dec 217 rfl))
    (MM.dfB KX G (c.def_ 30 rfl) (c.dec 218 rfl))
    (MM.dfB KX G (c.def_ 31 rfl) (c.dec 219 rfl))
    (MM.dfB KX G (c.def_ 32 rfl) (c.dec 220 rfl))
    (MM.dfB KX G (c.def_ 33 rfl) (c.dec 221 rfl))
    (MM.dfB KX G (c.def_ 34 rfl) (c.dec 222 rfl))
    (MM.dfB KX G (c.def_ 35 rfl) (c.dec 223 rfl))
    (MM.dfB KX G (c.def_ 36 rfl) (c.dec 224 rfl))
    (MM.dfB KX G (c.def_ 37 rfl) (c.dec 225 rfl))
    (MM.dfB KX G (c.def_ 38 rfl) (c.dec 226 rfl))
    (MM.dfB KX G (c.def_ 39 rfl) (c.dec 227 rfl))
    (MM.dfB KX G (c.def_ 40 rfl) (c.dec 228 rfl))
    (MM.dfB KX G (c.def_ 41 rfl) (c.dec 229 rfl))
    (MM.dfB KX G (c.def_ 42 rfl) (c.dec 230 rfl))
    (MM.dfB KX G (c.def_ 43 rfl) (c.dec 231 rfl))
    (MM.dfB KX G (c.def_ 44 rfl) (c.dec 232 rfl))
    (MM.dfB KX G (c.def_ 45 rfl) (c.dec 233 rfl))
    (MM.dfB KX G (c.def_ 46 rfl) (c.dec 234 rfl))
    (MM.dfB KX G (c.def_ 47 rfl) (c.dec 235 rfl))
    (MM.dfB KX G (c.def_ 48 rfl) (c.dec 236 rfl))
    (MM.dfB KX G (c.def_ 49 rfl) (c.dec 237 rfl))
    (MM.dfB KX G (c.def_ 50 rfl) (c.dec 238 rfl))
    (MM.dfB KX G (c.def_ 51 rfl) (c.dec 239 rfl))
    (MM.dfB KX G (c.def_ 52 rfl) (c.dec 240 rfl))
    (MM.dfB KX G (c.def_ 53 rfl) (c.dec 241 rfl))
    (MM.dfB KX G (c.def_ 54 rfl) (c.dec 242 rfl))
    (MM.dfB KX G (c.def_ 55 rfl) (c.dec 243 rfl))
    (MM.dfB KX G (c.def_ 56 rfl) (c.dec 244 rfl))
    (MM.dfB KX G (c.def_ 57 rfl) (c.dec 245 rfl))
    (MM.dfB KX G (c.def_ 58 rfl) (c.dec 246 rfl))
    (MM.dfB KX G (c.def_ 59 rfl) (c.dec 247 rfl))
    (MM.dfB KX G (c.def_ 60 rfl) (c.dec 248 rfl))
    (MM.dfB KX G (c.def_ 61 rfl) (c.dec 249 rfl))
    (MM.dfB KX G (c.def_ 62 rfl) (c.dec 250 rfl))
    (MM.dfB KX G (c.def_ 63 rfl) (c.dec 251 rfl))
    (MM.dfB KX G (c.def_ 64 rfl) (c.dec 252 rfl))
    (MM.dfB KX G (c.def_ 65 rfl) (c.dec 253 rfl))
    (MM.dfB KX G (c.def_ 66 rfl) (c.dec 254 rfl))
    (MM.dfB KX G (c.def_ 67 rfl) (c.dec 255 rfl))
    (MM.dfB KX G (c.def_ 68 rfl) (c.dec 256 rfl))
    (MM.dfB KX G (c.def_ 69 rfl) (c.dec 257 rfl))
end MM
open PySem PySem.W PyProof.Rows in
set_option maxRecDepth 100000 in
set_option maxHeartbeats 0 in
theorem PySem.Challenge.cw_meanmoon_k67_books_of_feasts_holds : PySem.Challenge.rw_meanmoon_k67_books_of_feasts.Holds := by
  w_on; o_law
  refine HandSHeadRun.head_any (r := OpenLaw.row PySem.Challenge.rw_meanmoon_k67_books_of_feasts) (q := view (OpenLaw.row PySem.Challenge.rw_meanmoon_k67_books_of_feasts).prog [78]) (H := MM.hk) (ob := MM.ob) (M := 9000) (loose := MM.namesA) (d := HandSHeadRun.topDef (OpenLaw.row PySem.Challenge.rw_meanmoon_k67_books_of_feasts).prog 78) (kwd := []) MM.ob_eq
    (by kernel_rfl) (fun s => by kernel_rfl) MM.run (by kernel_rfl) (by kernel_rfl) (by kernel_rfl) (by rfl) (by first | assumption | decide +kernel) (by decide +kernel) ⟨rfl, rfl, rfl, rfl, rfl, by decide +kernel⟩ ?hw ?hc
  case hw => w_witness2
  case hc =>
    refine L2.walk_ofE (l := PySem.Challenge.rw_meanmoon_k67_books_of_feasts) (n := 63) (k := 21) (x := "_law_script") (CX := L2.CX0) rfl (by decide) (by kernel_rfl) ⟨rfl, by decide, by decide⟩ ?F (fun _ _ _ _ z => z)
    intro w mg fa h Y G hmg0
    obtain ⟨K, KX, c⟩ := Y
    have hm1 : mg ("law" : PySem.Str) = some (Value.ref fa) := by
      have e : (HandSHeadRun.topDef (OpenLaw.row PySem.Challenge.rw_meanmoon_k67_books_of_feasts).prog 78).name = ("law" : PySem.Str) := by kernel_rfl
      rw [← e]
      exact hmg0
    obtain ⟨fd, hb, hF⟩ := MM.facts (P := (PySem.Challenge.rw_meanmoon_k67_books_of_feasts).prog) (w := w) KX G hm1 c
    exact ⟨K, fd, MM.spLaw K, KX, hb, fun H a ns hl _ hS => ⟨a, ns, rfl, hS, hl, fun _ => rfl⟩, hF⟩
#print axioms PySem.Challenge.cw_meanmoon_k67_books_of_feasts_holds
