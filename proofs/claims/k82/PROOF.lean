import PyProof.Rows.All
import Wide.All
import OpenK.AllK
import Wide.FinOn
import KE.KStateDown
import PyProof.NoPylong
import HandS.ForMost
import HandS.Wide
import HandS.Defaults
import HandS.MakeKw
import HandS.MakeKwOnly
import HandS.Exc
import HandS.WordsExc
import HandS.IsInst
import HandS.FStr
import HandS.Style
import HandS.Codes
import HandS.NoneIn
import PyProof.LongRange
import KE.KTryMore
import KE.KIsAll
import HandS.ExcIs
import HandS.ExcField
import HandS.ExcInit
import KE.KExcInit
import HandS.ExcBuiltin
import KE.KCallOwn
import HandS.OwnEq
import HandS.MapJoin
import HandS.Rev
import HandS.RevTup
import HandS.Walk
import HandS.Zip
import PyProof.P3Eq
import PyProof.EqLayable
import PyProof.InstNe
import KE.KTupSum
import HandS.SortInts
import HandS.Deep
import HandS.StrMore
import HandS.Text
import HandS.Call
import OpenK.KOps
import PyProof.EqAt
import PyProof.EqKinds
import PyProof.FString2
import KE.KFmtOwn
import PyProof.Rows.StrPins2
import KE.IntTextLaws
import HandS.SortRule
import HandS.Conv
import PyProof.Rows.StrNews2
import PyProof.Rows.StrSplitMax
import PyProof.Rows.RegReprOcc
import PyProof.StrLawsLast
import PyProof.StrLawsOccR
import PyProof.FactsLen
import PyProof.InstSpecial
import HandS.Strs
import PyProof.Rows.FactsExc_KeyError
import PyProof.ExcBaseAll.IndexError
import PyProof.ExcBaseAll.RuntimeError
import HandS.SetFor
import HandS.Head0
import HandS.Head1
import HandS.Head2
import HandS.HeadEnd
import HandS.HeadHook1
import HandS.HeadHook2
import HandS.Dict
import HandS.Iter
import HandS.More
import PySem.Challenge.RW_meanmoon_k82_diaries_refuse
set_option Elab.async false
set_option linter.all false
set_option maxRecDepth 100000
set_option maxHeartbeats 4000000
namespace MM
/-! fractions as Rat: the program's and the law's lowest terms are num and den -/
theorem gcd_fmod (a b : Int) : Int.gcd b (a.fmod b) = Int.gcd a b := by
  have h : a.fmod b = a - b * a.fdiv b := by have := Int.mul_fdiv_add_fmod a b; omega
  rw [h, Int.gcd_comm a b]
  rw [Int.sub_eq_add_neg, ← Int.mul_neg, Int.gcd_add_mul_left_right]
theorem gcd_emod' (a b : Int) : Int.gcd b (a % b) = Int.gcd a b := by
  have h : a % b = a - b * (a / b) := by have := Int.mul_ediv_add_emod a b; omega
  rw [h, Int.gcd_comm a b]
  rw [Int.sub_eq_add_neg, ← Int.mul_neg, Int.gcd_add_mul_left_right]
theorem fmod_lt (a : Int) {b : Int} (h : b ≠ 0) : (a.fmod b).natAbs < b.natAbs := by
  rcases Int.lt_or_gt_of_ne h with hb | hb
  · have e : a.fmod b = -((-a).fmod (-b)) := by rw [Int.neg_fmod_neg, Int.neg_neg]
    have h1 := Int.fmod_nonneg_of_pos (-a) (show (0 : Int) < -b by omega)
    have h2 := Int.fmod_lt_of_pos (-a) (show (0 : Int) < -b by omega)
    rw [e]
    omega
  · have h1 := Int.fmod_nonneg_of_pos a hb
    have h2 := Int.fmod_lt_of_pos a hb
    omega
theorem gcd_pos {t b : Int} (h : b ≠ 0) : 0 < Int.gcd t b := Int.gcd_pos_of_ne_zero_right t h
/-- the divisor that makes lowest terms -/
def gs (t b : Int) : Int := if b < 0 then -(Int.gcd t b : Int) else (Int.gcd t b : Int)
theorem gs_ne {t b : Int} (h : b ≠ 0) : gs t b ≠ 0 := by
  have := gcd_pos (t := t) h
  unfold gs
  split <;> omega
theorem low_num {t b : Int} (h : b ≠ 0) : t.fdiv (gs t b) = (Rat.divInt t b).num := by
  have hg := gcd_pos (t := t) h
  rw [Rat.num_divInt, Int.gcd_comm b t]
  unfold gs
  split
  · rename_i hb
    rw [Int.sign_eq_neg_one_of_neg hb, Int.neg_one_mul]
    rw [← Int.neg_fdiv_neg, Int.neg_neg, Int.fdiv_eq_ediv_of_nonneg _ (by omega)]
  · rw [Int.sign_eq_one_of_pos (by omega), Int.one_mul, Int.fdiv_eq_ediv_of_nonneg _ (by omega)]
theorem low_den {t b : Int} (h : b ≠ 0) : b.fdiv (gs t b) = ((Rat.divInt t b).den : Int) := by
  have hg := gcd_pos (t := t) h
  rw [Rat.den_divInt, if_neg h, Int.gcd_comm b t, Int.natCast_ediv]
  unfold gs
  split
  · rename_i hb
    rw [← Int.neg_fdiv_neg, Int.neg_neg, Int.fdiv_eq_ediv_of_nonneg _ (by omega)]
    congr 1
    omega
  · rw [Int.fdiv_eq_ediv_of_nonneg _ (by omega)]
    congr 1
    omega
theorem den_pos (q : Rat) : (0 : Int) < (q.den : Int) := by
  have := q.den_pos
  omega
/-- sizes -/
def Sz (n : Nat) (i : Int) : Prop := i.natAbs < 2 ^ n
def Rz (n : Nat) (q : Rat) : Prop := Sz n q.num ∧ Sz n q.den
theorem Sz.mono {n m : Nat} {i : Int} (h : Sz n i) (l : n ≤ m) : Sz m i := Nat.lt_of_lt_of_le h (Nat.pow_le_pow_right (by decide) l)
theorem Rz.mono {n m : Nat} {q : Rat} (h : Rz n q) (l : n ≤ m) : Rz m q := ⟨h.1.mono l, h.2.mono l⟩
theorem Sz.mul {n m : Nat} {i j : Int} (h : Sz n i) (k : Sz m j) : Sz (n + m) (i * j) := by
  unfold Sz
  rw [Int.natAbs_mul, Nat.pow_add]
  exact Nat.mul_lt_mul'' h k
theorem Sz.add {n m : Nat} {i j : Int} (h : Sz n i) (k : Sz n j) (l : n < m) : Sz m (i + j) := by
  have h' : i.natAbs < 2 ^ n := h
  have k' : j.natAbs < 2 ^ n := k
  have e : 2 ^ (n + 1) ≤ 2 ^ m := Nat.pow_le_pow_right (by decide) l
  rw [Nat.pow_succ] at e
  have z := Int.natAbs_add_le i j
  unfold Sz
  omega
theorem Sz.neg {n : Nat} {i : Int} (h : Sz n i) : Sz n (-i) := by
  unfold Sz
  rw [Int.natAbs_neg]
  exact h
theorem Sz.sub {n m : Nat} {i j : Int} (h : Sz n i) (k : Sz n j) (l : n < m) : Sz m (i - j) := by
  rw [Int.sub_eq_add_neg]
  exact h.add k.neg l
theorem natAbs_ediv_le (a : Int) {b : Nat} : (a / (b : Int)).natAbs ≤ a.natAbs := Int.natAbs_ediv_le_natAbs _ _
theorem Rz.divInt {n : Nat} {t b : Int} (h : Sz n t) (k : Sz n b) (h0 : 0 < n) : Rz n (Rat.divInt t b) := by
  refine ⟨?_, ?_⟩
  · unfold Sz
    rw [Rat.num_divInt]
    refine Nat.lt_of_le_of_lt (Int.natAbs_ediv_le_natAbs _ _) ?_
    rw [Int.natAbs_mul]
    refine Nat.lt_of_le_of_lt ?_ h
    have : b.sign.natAbs ≤ 1 := by
      rcases Int.lt_trichotomy b 0 with z | z | z
      · rw [Int.sign_eq_neg_one_of_neg z]; decide
      · rw [z]; decide
      · rw [Int.sign_eq_one_of_pos z]; decide
    calc b.sign.natAbs * t.natAbs ≤ 1 * t.natAbs := Nat.mul_le_mul_right _ this
      _ = t.natAbs := Nat.one_mul _
  · unfold Sz
    rw [Rat.den_divInt]
    split
    · show 1 < 2 ^ n
      exact Nat.one_lt_two_pow (by omega)
    · rw [Int.natAbs_natCast]
      exact Nat.lt_of_le_of_lt (Nat.div_le_self _ _) k
theorem add_eq (p q : Rat) : p + q = Rat.divInt (p.num * q.den + q.num * p.den) ((p.den : Int) * q.den) := by
  have := Rat.divInt_add_divInt p.num q.num (d₁ := p.den) (d₂ := q.den) (by have := den_pos p; omega) (by have := den_pos q; omega)
  rw [Rat.num_divInt_den, Rat.num_divInt_den] at this
  exact this
theorem sub_eq (p q : Rat) : p - q = Rat.divInt (p.num * q.den - q.num * p.den) ((p.den : Int) * q.den) := by
  rw [Rat.sub_eq_add_neg, add_eq]
  rw [Rat.neg_num, Rat.neg_den, Int.neg_mul, ← Int.sub_eq_add_neg]
theorem mul_eq (p q : Rat) : p * q = Rat.divInt (p.num * q.num) ((p.den : Int) * q.den) := by
  have := Rat.divInt_mul_divInt p.num q.num (d₁ := p.den) (d₂ := q.den)
  rw [Rat.num_divInt_den, Rat.num_divInt_den] at this
  exact this
theorem div_eq (p q : Rat) (h : q ≠ 0) : p / q = Rat.divInt (p.num * q.den) ((p.den : Int) * q.num) := by
  rw [Rat.div_def, mul_eq]
  have hq : q.num ≠ 0 := fun z => h (Rat.num_eq_zero.mp z)
  have e : q⁻¹ = Rat.divInt q.den q.num := by
    have := Rat.inv_divInt q.num q.den
    rw [Rat.num_divInt_den] at this
    exact this
  rw [← mul_eq, e]
  have := Rat.divInt_mul_divInt p.num q.den (d₁ := p.den) (d₂ := q.num)
  rw [Rat.num_divInt_den] at this
  exact this
theorem lt_iff' (p q : Rat) : p < q ↔ p.num * q.den < q.num * p.den := Rat.lt_iff p q
theorem Rz.add {n l m : Nat} {p q : Rat} (h : Rz n p) (k : Rz l q) (hl : n + l < m) : Rz m (p + q) := by
  rw [add_eq]
  exact Rz.divInt (Sz.add (n := n + l) ((h.1.mul k.2).mono (by omega)) ((k.1.mul h.2).mono (by omega)) hl) ((h.2.mul k.2).mono (by omega)) (by omega)
theorem Rz.sub {n l m : Nat} {p q : Rat} (h : Rz n p) (k : Rz l q) (hl : n + l < m) : Rz m (p - q) := by
  rw [sub_eq]
  exact Rz.divInt (Sz.sub (n := n + l) ((h.1.mul k.2).mono (by omega)) ((k.1.mul h.2).mono (by omega)) hl) ((h.2.mul k.2).mono (by omega)) (by omega)
theorem Rz.mul {n l m : Nat} {p q : Rat} (h : Rz n p) (k : Rz l q) (hl : n + l < m) : Rz m (p * q) := by
  rw [mul_eq]
  exact Rz.divInt ((h.1.mul k.1).mono (by omega)) ((h.2.mul k.2).mono (by omega)) (by omega)
theorem Rz.div {n l m : Nat} {p q : Rat} (h : Rz n p) (k : Rz l q) (z : q ≠ 0) (hl : n + l < m) : Rz m (p / q) := by
  rw [div_eq p q z]
  exact Rz.divInt ((h.1.mul k.2).mono (by omega)) ((h.2.mul k.1).mono (by omega)) (by omega)
theorem Rz.int {n : Nat} {i : Int} (h : Sz n i) (h0 : 0 < n) : Rz n (i : Rat) := ⟨h, (by show 1 < 2 ^ n; exact Nat.one_lt_two_pow (by omega))⟩
theorem Sz.floor {n : Nat} {q : Rat} (h : Rz n q) : Sz n q.floor := by
  unfold Sz
  rw [Rat.floor_def]
  exact Nat.lt_of_le_of_lt (Int.natAbs_ediv_le_natAbs _ _) h.1
theorem neg_div_ceil (q : Rat) : -(-q.num / (q.den : Int)) = q.ceil := by
  have := Rat.ceil_eq_neg_floor_neg q
  rw [this, Rat.floor_def, Rat.neg_num, Rat.neg_den]
theorem Rz.neg {n : Nat} {q : Rat} (h : Rz n q) : Rz n (-q) := ⟨by rw [Rat.neg_num]; exact h.1.neg, by rw [Rat.neg_den]; exact h.2⟩
theorem Sz.ceil {n : Nat} {q : Rat} (h : Rz n q) : Sz n q.ceil := by
  rw [Rat.ceil_eq_neg_floor_neg]
  exact (Sz.floor h.neg).neg
theorem Sz.of {n : Nat} {i : Int} (h1 : -(2 ^ n) < i) (h2 : i < 2 ^ n) : Sz n i := by
  unfold Sz
  have e : ((2 ^ n : Nat) : Int) = (2 : Int) ^ n := by simp
  omega
end MM
namespace MM
/-! the calendar's mathematics: floor, ceil, and the steps of months and marks -/
structure Fit (m y : Rat) : Prop where
  one : 1 ≤ m
  between : (m.ceil : Rat) ≤ y / 12
  thirteen : y + 1 ≤ 13 * m
theorem Fit.pos {m y : Rat} (f : Fit m y) : 0 < m := by
  have := f.one
  grind
theorem Fit.ypos {m y : Rat} (f : Fit m y) : 0 < y / 12 := by
  have h1 := f.one
  have h2 := f.between
  have h3 : m ≤ (m.ceil : Rat) := Rat.le_ceil
  grind
def stF (m o : Rat) (k : Int) : Int := (o + k * m).floor
def mdF (y k : Rat) (j : Int) : Int := (k + j * (y / 12)).floor
def maF (m o : Rat) (d : Int) : Int := ((((d + 1 : Int) : Rat) - o) / m).ceil - 1
def jF (y k : Rat) (d : Int) : Int := (((d : Rat) - k) / (y / 12)).ceil
theorem lt_ceil_iff {q : Rat} {i : Int} : i < q.ceil ↔ (i : Rat) < q := by
  have h : q.ceil ≤ i ↔ q ≤ (i : Rat) := Rat.ceil_le_iff
  constructor
  · intro hi
    have : ¬ q.ceil ≤ i := by omega
    rw [h] at this
    exact Rat.not_le.mp this
  · intro hi
    have : ¬ q ≤ (i : Rat) := Rat.not_le.mpr hi
    rw [← h] at this
    omega
theorem floor_le_iff {q : Rat} {i : Int} : q.floor ≤ i ↔ q < ((i + 1 : Int) : Rat) := by
  have h := Rat.floor_lt_iff (a := q) (x := i + 1)
  rw [← h]
  omega
/-- the months up to K begin by the day d -/
theorem st_le {m o : Rat} (hm : 0 < m) {k d : Int} : stF m o k ≤ d ↔ k ≤ maF m o d := by
  unfold stF maF
  rw [floor_le_iff]
  have e : k ≤ ((((d + 1 : Int) : Rat) - o) / m).ceil - 1 ↔ k < ((((d + 1 : Int) : Rat) - o) / m).ceil := by omega
  rw [e, lt_ceil_iff, Rat.lt_div_iff hm]
  constructor <;> intro h <;> grind
theorem ma_of {m o : Rat} (hm : 0 < m) {k d : Int} (h1 : stF m o k ≤ d) (h2 : d < stF m o (k + 1)) : maF m o d = k := by
  have a := (st_le hm).mp h1
  have b : ¬ k + 1 ≤ maF m o d := fun z => by
    have := (st_le hm).mpr z
    omega
  omega
theorem st_ma {m o : Rat} (hm : 0 < m) (d : Int) : stF m o (maF m o d) ≤ d := (st_le hm).mpr (Int.le_refl _)
theorem ma_st {m o : Rat} (hm : 0 < m) (d : Int) : d < stF m o (maF m o d + 1) := by
  have : ¬ stF m o (maF m o d + 1) ≤ d := fun z => by
    have := (st_le hm).mp z
    omega
  omega
theorem cast_add1 (k : Int) : ((k + 1 : Int) : Rat) = (k : Rat) + 1 := by
  rw [Rat.intCast_add]
  rfl
theorem st_step {m o : Rat} (hm : 1 ≤ m) (k : Int) : stF m o k + 1 ≤ stF m o (k + 1) := by
  unfold stF
  rw [Rat.le_floor_iff, cast_add1, cast_add1]
  have h := Rat.floor_le (o + (k : Rat) * m)
  grind
theorem md_lt {y k : Rat} (hy : 0 < y / 12) {j d : Int} : mdF y k j < d ↔ j < jF y k d := by
  unfold mdF jF
  rw [Rat.floor_lt_iff, lt_ceil_iff, Rat.lt_div_iff hy]
  constructor <;> intro h <;> grind
theorem md_ge {y k : Rat} (hy : 0 < y / 12) (d : Int) : d ≤ mdF y k (jF y k d) := by
  have : ¬ mdF y k (jF y k d) < d := fun z => by
    have := (md_lt hy).mp z
    omega
  omega
/-- of two months in a row one has a mark -/
theorem two_months {m y o k : Rat} (f : Fit m y) (i : Int) : mdF y k (jF y k (stF m o (i - 1))) < stF m o (i + 1) := by
  have hy := f.ypos
  have h1 : mdF y k (jF y k (stF m o (i - 1)) - 1) < stF m o (i - 1) := (md_lt hy).mpr (by omega)
  unfold mdF at h1 ⊢
  rw [Rat.floor_lt_iff] at h1 ⊢
  have e1 : ((jF y k (stF m o (i - 1)) - 1 : Int) : Rat) = (jF y k (stF m o (i - 1)) : Rat) - 1 := by rw [Rat.intCast_sub]; rfl
  rw [e1] at h1
  have h2 : ((stF m o (i - 1) : Int) : Rat) ≤ o + ((i - 1 : Int) : Rat) * m := Rat.floor_le _
  have h3 : o + ((i + 1 : Int) : Rat) * m - 1 < ((stF m o (i + 1) : Int) : Rat) := Rat.lt_floor
  have e2 : ((i - 1 : Int) : Rat) = (i : Rat) - 1 := by rw [Rat.intCast_sub]; rfl
  rw [e2] at h2
  rw [cast_add1] at h3
  have a := f.one
  have b := f.thirteen
  have c : y / 12 ≤ 2 * m - 1 := by grind
  grind
theorem k0_le {m o : Rat} (hm : 0 < m) (d : Int) : (((d : Rat) - o) / m).floor - 1 ≤ maF m o d := by
  have h : ((((d : Rat) - o) / m).floor - 1) < ((((d + 1 : Int) : Rat) - o) / m).ceil := by
    rw [lt_ceil_iff, Rat.intCast_sub]
    have h1 := Rat.floor_le (((d : Rat) - o) / m)
    have h2 : ((d : Rat) - o) / m < (((d + 1 : Int) : Rat) - o) / m := by
      rw [cast_add1, Rat.lt_div_iff hm, Rat.div_mul_cancel (by grind)]
      grind
    have h3 : ((1 : Int) : Rat) = 1 := rfl
    grind
  unfold maF
  omega
theorem j0_le {y k : Rat} (d : Int) : (((d : Rat) - k) / (y / 12)).floor - 1 ≤ jF y k d := by
  have h : (((d : Rat) - k) / (y / 12)).floor ≤ (((d : Rat) - k) / (y / 12)).ceil := Rat.intCast_le_intCast.mp (Rat.le_trans (Rat.floor_le _) Rat.le_ceil)
  unfold jF
  omega
end MM
namespace MM
theorem floor_divInt {t b : Int} (hb : 0 < b) : (Rat.divInt t b).floor = t / b := by
  rw [Rat.floor_def]
  have h := Rat.num_divInt_den (Rat.divInt t b)
  have hd := den_pos (Rat.divInt t b)
  rw [Rat.divInt_eq_divInt_iff (by omega) (by omega)] at h
  have e1 : t / b = (t * ((Rat.divInt t b).den : Int)) / (b * ((Rat.divInt t b).den : Int)) := (Int.mul_ediv_mul_of_pos_left _ _ hd).symm
  rw [e1, ← h, Int.mul_comm b, Int.mul_ediv_mul_of_pos_left _ _ hb]
theorem inv_eq (q : Rat) : q⁻¹ = Rat.divInt q.den q.num := by
  have := Rat.inv_divInt q.num q.den
  rw [Rat.num_divInt_den] at this
  exact this
theorem div12 (x y : Rat) (hy : y ≠ 0) : Rat.divInt (x.num * 12 * y.den) ((x.den : Int) * y.num) = x / (y / 12) := by
  have e : x / (y / 12) = x * 12 * y⁻¹ := by grind
  rw [e, inv_eq]
  have h1 : x * 12 = Rat.divInt (x.num * 12) ((x.den : Int) * 1) := by
    have h := Rat.divInt_mul_divInt x.num 12 (d₁ := x.den) (d₂ := 1)
    rw [Rat.num_divInt_den] at h
    exact h
  rw [h1, Rat.divInt_mul_divInt, Int.mul_one]
theorem Sz.between {n : Nat} {a x b : Int} (ha : Sz n a) (hb : Sz n b) (h1 : a ≤ x) (h2 : x ≤ b) : Sz n x := by
  unfold Sz at *
  omega
theorem Fit.ypos' {m y : Rat} (f : Fit m y) : 0 < y := by
  have := f.ypos
  grind
theorem num_pos {q : Rat} (h : 0 < q) : 0 < q.num := by
  have := (lt_iff' 0 q).mp h
  rw [show (0 : Rat).num = 0 from rfl, show (0 : Rat).den = 1 from rfl] at this
  omega
end MM
namespace MM
theorem unit_divInt {t b : Int} (h0 : 0 ≤ t) (h1 : t ≤ b) (hb : 0 < b) : 0 ≤ Rat.divInt t b ∧ Rat.divInt t b ≤ 1 := by
  have hb' : (0 : Rat) < (b : Rat) := Rat.intCast_lt_intCast.mpr hb
  have h0' : (0 : Rat) ≤ (t : Rat) := Rat.intCast_le_intCast.mpr h0
  have h1' : (t : Rat) ≤ (b : Rat) := Rat.intCast_le_intCast.mpr h1
  rw [Rat.divInt_eq_div]
  have e : (t : Rat) / (b : Rat) * (b : Rat) = t := Rat.div_mul_cancel (by grind)
  refine ⟨?_, ?_⟩
  · apply Rat.not_lt.mp
    intro z
    have := Rat.mul_lt_mul_of_pos_right z hb'
    grind
  · apply Rat.not_lt.mp
    intro z
    have := Rat.mul_lt_mul_of_pos_right z hb'
    grind
theorem cast_sub1 (w : Int) : ((w - 1 : Int) : Rat) = (w : Rat) - 1 := by
  rw [Rat.intCast_sub]
  rfl
theorem cast_12 (w : Int) : ((12 * w : Int) : Rat) = 12 * (w : Rat) := by
  rw [Rat.intCast_mul]
  rfl
/-- the law's drawn month and year make a calendar -/
theorem fit_drawn {w : Int} (hw : 1 ≤ w) {s r : Rat} (s0 : 0 ≤ s) (s1 : s ≤ 1) (r0 : 0 ≤ r) (r1 : r ≤ 1) :
    Fit ((((12 * w + 1 : Int) : Rat) + s * ((w - 1 : Int) : Rat)) * Rat.divInt 1 13) (((12 * w : Int) : Rat) + r * s * ((w - 1 : Int) : Rat)) := by
  have hW : (1 : Rat) ≤ (w : Rat) := Rat.intCast_le_intCast.mpr hw
  rw [cast_add1, cast_12, cast_sub1, Rat.divInt_eq_div]
  have a0 : 0 ≤ s * ((w : Rat) - 1) := Rat.mul_nonneg s0 (by grind)
  have a1 : s * ((w : Rat) - 1) ≤ 1 * ((w : Rat) - 1) := Rat.mul_le_mul_of_nonneg_right s1 (by grind)
  have b0 : 0 ≤ r * (s * ((w : Rat) - 1)) := Rat.mul_nonneg r0 a0
  have b1 : r * (s * ((w : Rat) - 1)) ≤ 1 * (s * ((w : Rat) - 1)) := Rat.mul_le_mul_of_nonneg_right r1 a0
  have e : r * s * ((w : Rat) - 1) = r * (s * ((w : Rat) - 1)) := Rat.mul_assoc _ _ _
  rw [e]
  have c1 : ((1 : Int) : Rat) = 1 := rfl
  have c13 : ((13 : Int) : Rat) = 13 := rfl
  rw [c1, c13]
  generalize s * ((w : Rat) - 1) = z at *
  generalize r * z = u at *
  refine ⟨by grind, ?_, by grind⟩
  have h : ((12 * (w : Rat) + 1 + z) * (1 / 13)).ceil ≤ w := Rat.ceil_le_iff.mpr (by grind)
  have h' : (((12 * (w : Rat) + 1 + z) * (1 / 13)).ceil : Rat) ≤ (w : Rat) := Rat.intCast_le_intCast.mpr h
  grind
end MM
namespace MM
open PySem PySem.Spec PyProof.Rows L2
/-! ### defs and their calls -/
/-- a def of the module under its name, with its defaults -/
structure Df (K : PySem.W.Frag) (mg : Str → Option Value) (x : Str) (st : Stmt) (dvs : List V) : Prop where
  ex : ∃ (f : Addr) (fd : FuncData), FunD K x x (defArgs st) (defBody st) (defScope st) dvs [] f fd ∧ mg x = some (.ref f)
/-- what is known of a def that is called: its promise, how it is bound -/
structure Ca (P : Program) (w : World) (K : PySem.W.Frag) (mg : Str → Option Value) (base : Heap) (CX : CXT) (k : Nat) (x : Str) (st : Stmt) (dvs : List V) (ps : List Str) (sp : Sp) : Prop where
  ex : ∃ (f : Addr) (fd : FuncData), FunD K x x (defArgs st) (defBody st) (defScope st) dvs [] f fd ∧ mg x = some (.ref f) ∧ FnOk P w K mg base CX k f fd ps sp
/-- the parameters of a def, all given by place -/
def Bd (x qual : Str) (st : Stmt) (ps : List Str) : Prop := ∀ (kV doc pm : Value) (an : Option Addr) (cdv ct : Value) (us : List Value), us.length = ps.length →
  bindArgs (PySem.W.fnOf x qual (defArgs st) (defBody st) (defScope st) .none kV doc pm an cdv ct) ⟨us, []⟩ = pure (ps.zip us)
section
variable {P : Program} {w : World} {K : PySem.W.Frag} {mg : Str → Option Value} {base : Heap} {x : Str} {st : Stmt} {dvs : List V} {N ps : List Str} {k : Nat} {sp : Sp}
theorem ca0 (D : Df K mg x st dvs) (S : FnScope N ps (defScope st)) (len : ∀ vs H Q E, sp vs H Q E → vs.length = ps.length)
    (body : ∀ (f : Addr) (cdv : Value) (A : Around) (outer : List Env) (s : Shared) (H : Hp) (vs : List V) (Q : VK) (E : XK), Room k (A.deeper (envOfC x (defScope st) s.heap.objs.size f cdv)) → sp vs H Q E →
      ∃ t, PSs (cxOf CX0 P w K mg base N x (defScope st) f cdv A outer s H E).nox (defBody st) t ∧ t { nx := fun _ H' => Q .non H', rt := Q } (start N vs) H) : Ca P w K mg base CX0 (k + 1) x st dvs ps sp := by
  obtain ⟨f, fd, F, hm⟩ := D.ex
  refine ⟨f, fd, F, hm, F.ok S len fun cdv A outer s H vs Q E hr h => ?_⟩
  obtain ⟨t, h1, h2⟩ := body f cdv A outer s H vs Q E hr h
  exact ⟨t, h1.nox, h2⟩
theorem caX (D : Df K mg x st dvs) (S : FnScope N ps (defScope st)) (len : ∀ vs H Q E, sp vs H Q E → vs.length = ps.length)
    (body : ∀ (f : Addr) (cdv : Value) (A : Around) (outer : List Env) (s : Shared) (H : Hp) (vs : List V) (Q : VK) (E : XK), Room k (A.deeper (envOfC x (defScope st) s.heap.objs.size f cdv)) → sp vs H Q E →
      ∃ t, PSs (cxOf (L2.CX P w) P w K mg base N x (defScope st) f cdv A outer s H E) (defBody st) t ∧ t { nx := fun _ H' => Q .non H', rt := Q } (start N vs) H) : Ca P w K mg base (L2.CX P w) (k + 1) x st dvs ps sp := by
  obtain ⟨f, fd, F, hm⟩ := D.ex
  exact ⟨f, fd, F, hm, F.ok S len fun cdv A outer s H vs Q E hr h => body f cdv A outer s H vs Q E hr h⟩
theorem FunD.none {qual : Str} {params : Arguments} {bodyS : List Stmt} {scope : Scope} {f : Addr} {fd : FuncData} (F : FunD K x qual params bodyS scope [] [] f fd) :
    ∃ (kV doc pm : Value) (an : Option Addr) (cdv ct : Value), fd = PySem.W.fnOf x qual params bodyS scope .none kV doc pm an cdv ct := by
  obtain ⟨oc, od, dV, kV, doc, pm, an, cdv, ct, osl, rfl, lk, hcd, hD, hK⟩ := F.ex
  rcases hD with ⟨_, rfl⟩ | ⟨e, _⟩
  · exact ⟨kV, doc, pm, an, cdv, ct, rfl⟩
  · exact absurd rfl e
end
section
variable {X : Cx} {CX : CXT} {k j n : Nat} {C : Addr} {x m : Str} {st : Stmt} {sp : Sp} {ps ks : List Str} {dvs : List V} {E : XK} {p pos apos : Pos} {e o : Expr} {es : List Expr} {kws : List Keyword} {ta : TE} {t tk : TA}
/-- f(e, ..), all parameters by place -/
theorem pe_ca (c : Ca X.prog X.w X.K X.mg X.base CX k x st [] ps sp) (b : Bd x x st ps) (hr : Room j X.A) (hk : k ≤ j) (hx : Passes CX X E) (hg : Gl X x) (ha : PA X (e :: es) t)
    (hdb : (x == ("__debug__" : Str)) = false := by decide) (he : starEach (e :: es) X.env = (false, eval e X.env) :: starEach es X.env := by rfl) (hpl : (backTo pos (starEach es X.env)).any (·.1) = false := by rfl) :
    PE X (.Call (.Name x p) (e :: es) [] pos) (tCall sp [] E t) := by
  obtain ⟨f, fd, F, hm, G⟩ := c.ex
  exact pe_call G (hr.mono hk) hg hm F.kp (F.bindsN b) .nil hx ha hdb he hpl
/-- how keywords bind where there is no default: g puts the places' values and the keywords' in order -/
structure Kb (x : Str) (st : Stmt) (n : Nat) (ks ps : List Str) (g : {α : Type} → List α → List α → List α) : Prop where
  bind : ∀ (kV doc pm : Value) (an : Option Addr) (cdv ct : Value) (us ws : List Value), us.length = n → ws.length = ks.length →
    bindArgs (PySem.W.fnOf x x (defArgs st) (defBody st) (defScope st) .none kV doc pm an cdv ct) ⟨us, ks.zip ws⟩ = pure (ps.zip (g us ws))
  rel : ∀ {vs zs : List V} {us ws : List Value}, vs.length = n → zs.length = ks.length → Vals vs us → Vals zs ws → Vals (g vs zs) (g us ws)
/-- f(k = v, ..) of a def without defaults -/
theorem pe_caK {g : {α : Type} → List α → List α → List α} (c : Ca X.prog X.w X.K X.mg X.base CX k x st [] ps sp) (b : Kb x st 0 ks ps g) (hr : Room j X.A) (hk : k ≤ j) (hx : Passes CX X E) (hg : Gl X x) (hkw : PK X kws tk)
    (hall : (backToKw pos (keywordEach kws X.env)).all (·.1.isSome) = true := by rfl) (hks : (backToKw pos (keywordEach kws X.env)).filterMap (·.1) = ks := by rfl) (hdb : (x == ("__debug__" : Str)) = false := by decide)
    (hpl : ((backTo pos (starEach [] X.env)).any (·.1) || (backToKw pos (keywordEach kws X.env)).any (·.1.isNone)) = false := by rfl) :
    PE X (.Call (.Name x p) [] kws pos) (fun σ H Q => tk σ H fun zs H2 => zs.length = ks.length ∧ sp (g [] zs) H2 Q E) := by
  obtain ⟨f, fd, F, hm, G⟩ := c.ex
  obtain ⟨kV, doc, pm, an, cdv, ct, rfl⟩ := FunD.none F
  refine ⟨fun pins s σ H Q I h => ?_⟩
  refine wpAny_Call_Name_kw (ld_glob I hg hm ?_ hdb)
  refine PySem.W.callWith_KW0 (h₀ := X.base) I.ok.mod.kin F.kp hall ?_ hpl
  refine thn (hkw.run pos pins s σ H _ I h) fun ws s2 ⟨zs, H2, I2, rz, l2, q2⟩ => ⟨I2.kIn, ?_⟩
  rw [hks]
  have r2 : Vals (g [] zs) (g [] ws) := b.rel rfl l2 .nil rz
  refine wpAny_call (codeAny_mono (G.run X.A X.stack s2 H2 ⟨[], ks.zip ws⟩ (g [] ws) (g [] zs) Q E (hr.mono hk) I2.env0 (.of_eq (b.bind kV doc pm an cdv ct [] ws rfl (rz.length.symm.trans l2))) r2 q2) fun r s' hq => ?_)
  match r, hq with
  | .error e, hq => exact hx pins σ H2 s2 e s' I2 hq
  | .ok (.ret u), hq => exact I2.after hq
  | .ok .next, hq => exact False.elim hq
  | .ok .brk, hq => exact False.elim hq
  | .ok .cont, hq => exact False.elim hq
end
/-! ### whole numbers -/
section
variable {X : Cx}
/-- // by any divisor but 0 -/
def CDivA (_ j : Int) : Prop := j ≠ 0 ∧ Sz 8900 j
theorem op_fdivA : OpR X (binaryOp .FloorDiv) (rI CDivA fun i j => .int (i.fdiv j)) := opI fun i j _ _ _ _ _ hc q =>
  PyProof.Rows.floordiv_int hc.1 q (.inl (PyProof.noPylong_of_log2 (Nat.lt_of_lt_of_le (PySem.Flt.log2_lt_of (by decide) hc.2) (by decide))))
/-- * of two numbers of some thousand bits -/
def CMulA (i j : Int) : Prop := Sz 100000 i ∧ Sz 100000 j
theorem op_mulA : OpR X (binaryOp .Mult) (rI CMulA fun i j => .int (i * j)) := opI fun i j _ _ _ _ _ hc q =>
  PyProof.Rows.mul_int q (CMulW.ok (wide_mul hc.1 hc.2 (by decide) (by decide) (by decide)))
end
/-! ### a pick out of a written list -/
theorem pick {α : Type} {xs : List α} {z : Int} {P : α → Prop} (h0 : 0 ≤ z) (h1 : z < xs.length) (h : ∀ x ∈ xs, P x) : ∃ v, atI xs z = some v ∧ P v := by
  have hl : z.toNat < xs.length := by omega
  refine ⟨xs[z.toNat], ?_, h _ (List.getElem_mem hl)⟩
  unfold atI ixN
  rw [if_pos h0, if_pos h1]
  exact List.getElem?_eq_getElem hl
end MM
namespace MM
open PySem PySem.Spec PyProof.Rows L2
/-- what binds where some parameters have defaults: n given by place, the defaults from the j-th on fill up -/
def Bd1 (x qual : Str) (st : Stmt) (ps : List Str) (n j m : Nat) : Prop := ∀ (T : Addr) (kV doc pm : Value) (an : Option Addr) (cdv ct : Value) (us its : List Value), us.length = n → its.length = m →
  ∃ k, bindArgs (PySem.W.fnOf x qual (defArgs st) (defBody st) (defScope st) (.ref T) kV doc pm an cdv ct) ⟨us, []⟩ = seqItems? (.ref T) >>= k ∧ k (some its.toArray) = pure (ps.zip (us ++ its.drop j))
/-- the __init__ of a class -/
structure Di (K : PySem.W.Frag) (mg : Str → Option Value) (x : Str) (C : Addr) (qual : Str) (st : Stmt) (dvs : List V) : Prop where
  ex : ∃ (f : Addr) (fd : FuncData), FunD K "__init__" qual (defArgs st) (defBody st) (defScope st) dvs [] f fd ∧ Mk K C f ∧ mg x = some (.ref C)
structure Ci (P : Program) (w : World) (K : PySem.W.Frag) (mg : Str → Option Value) (base : Heap) (CX : CXT) (k : Nat) (x : Str) (C : Addr) (qual : Str) (st : Stmt) (dvs : List V) (ps : List Str) (sp : Sp) : Prop where
  ex : ∃ (f : Addr) (fd : FuncData), FunD K "__init__" qual (defArgs st) (defBody st) (defScope st) dvs [] f fd ∧ Mk K C f ∧ mg x = some (.ref C) ∧ FnOk P w K mg base CX k f fd ps sp
/-- a method of a class -/
structure Dm (K : PySem.W.Frag) (C : Addr) (m qual : Str) (st : Stmt) : Prop where
  ex : ∃ (f : Addr) (fd : FuncData), FunD K m qual (defArgs st) (defBody st) (defScope st) [] [] f fd ∧ Meth K C m f ∧ Cls K C
structure Cm (P : Program) (w : World) (K : PySem.W.Frag) (mg : Str → Option Value) (base : Heap) (CX : CXT) (k : Nat) (C : Addr) (m qual : Str) (st : Stmt) (ps : List Str) (sp : Sp) : Prop where
  ex : ∃ (f : Addr) (fd : FuncData), FunD K m qual (defArgs st) (defBody st) (defScope st) [] [] f fd ∧ Meth K C m f ∧ Cls K C ∧ FnOk P w K mg base CX k f fd ps sp
section
variable {P : Program} {w : World} {K : PySem.W.Frag} {mg : Str → Option Value} {base : Heap} {x m qual : Str} {C : Addr} {st : Stmt} {dvs : List V} {N ps : List Str} {k : Nat} {sp : Sp}
theorem ci0 (D : Di K mg x C qual st dvs) (S : FnScope N ps (defScope st)) (len : ∀ vs H Q E, sp vs H Q E → vs.length = ps.length)
    (body : ∀ (f : Addr) (cdv : Value) (A : Around) (outer : List Env) (s : Shared) (H : Hp) (vs : List V) (Q : VK) (E : XK), Room k (A.deeper (envOfC qual (defScope st) s.heap.objs.size f cdv)) → sp vs H Q E →
      ∃ t, PSs (cxOf CX0 P w K mg base N qual (defScope st) f cdv A outer s H E).nox (defBody st) t ∧ t { nx := fun _ H' => Q .non H', rt := Q } (start N vs) H) : Ci P w K mg base CX0 (k + 1) x C qual st dvs ps sp := by
  obtain ⟨f, fd, F, M, hm⟩ := D.ex
  refine ⟨f, fd, F, M, hm, F.ok S len fun cdv A outer s H vs Q E hr h => ?_⟩
  obtain ⟨t, h1, h2⟩ := body f cdv A outer s H vs Q E hr h
  exact ⟨t, h1.nox, h2⟩
theorem ciX (D : Di K mg x C qual st dvs) (S : FnScope N ps (defScope st)) (len : ∀ vs H Q E, sp vs H Q E → vs.length = ps.length)
    (body : ∀ (f : Addr) (cdv : Value) (A : Around) (outer : List Env) (s : Shared) (H : Hp) (vs : List V) (Q : VK) (E : XK), Room k (A.deeper (envOfC qual (defScope st) s.heap.objs.size f cdv)) → sp vs H Q E →
      ∃ t, PSs (cxOf (L2.CX P w) P w K mg base N qual (defScope st) f cdv A outer s H E) (defBody st) t ∧ t { nx := fun _ H' => Q .non H', rt := Q } (start N vs) H) : Ci P w K mg base (L2.CX P w) (k + 1) x C qual st dvs ps sp := by
  obtain ⟨f, fd, F, M, hm⟩ := D.ex
  exact ⟨f, fd, F, M, hm, F.ok S len fun cdv A outer s H vs Q E hr h => body f cdv A outer s H vs Q E hr h⟩
theorem cm0 (D : Dm K C m qual st) (S : FnScope N ps (defScope st)) (len : ∀ vs H Q E, sp vs H Q E → vs.length = ps.length)
    (body : ∀ (f : Addr) (cdv : Value) (A : Around) (outer : List Env) (s : Shared) (H : Hp) (vs : List V) (Q : VK) (E : XK), Room k (A.deeper (envOfC qual (defScope st) s.heap.objs.size f cdv)) → sp vs H Q E →
      ∃ t, PSs (cxOf CX0 P w K mg base N qual (defScope st) f cdv A outer s H E).nox (defBody st) t ∧ t { nx := fun _ H' => Q .non H', rt := Q } (start N vs) H) : Cm P w K mg base CX0 (k + 1) C m qual st ps sp := by
  obtain ⟨f, fd, F, M, hc⟩ := D.ex
  refine ⟨f, fd, F, M, hc, F.ok S len fun cdv A outer s H vs Q E hr h => ?_⟩
  obtain ⟨t, h1, h2⟩ := body f cdv A outer s H vs Q E hr h
  exact ⟨t, h1.nox, h2⟩
end
section
variable {X : Cx} {CX : CXT} {k j n d : Nat} {C : Addr} {x m qual : Str} {st : Stmt} {sp : Sp} {ps ks : List Str} {dvs : List V} {E : XK} {p pos apos : Pos} {e o : Expr} {es : List Expr} {kws : List Keyword} {ta : TE} {t tk : TA}
/-- C(e, ..): n values, then the defaults from the d-th on; n counts self too -/
theorem pe_ci (c : Ci X.prog X.w X.K X.mg X.base CX k x C qual st dvs ps sp) (b : Bd1 "__init__" qual st ps n d dvs.length) (hd : dvs ≠ []) (hn : n + (dvs.length - d) = ps.length) (hr : Room j X.A) (hk : k + 1 ≤ j) (hx : Passes CX X E) (hg : Gl X x) (ha : PA X (e :: es) t)
    (hdb : (x == ("__debug__" : Str)) = false := by decide) (he : starEach (e :: es) X.env = (false, eval e X.env) :: starEach es X.env := by rfl) (hpl : (backTo pos (starEach es X.env)).any (·.1) = false := by rfl) :
    PE X (.Call (.Name x p) (e :: es) [] pos) (tMake C sp (dvs.drop d) E t) := by
  obtain ⟨f, fd, F, M, hm, G⟩ := c.ex
  obtain ⟨ds, r, bb⟩ := F.binds1 n d hd hn b
  exact pe_make M G (hr.mono hk) hg hm bb r hx ha hdb he hpl
/-- o.m(e, ..) -/
theorem pe_cm {pl : Sem Bool} (c : Cm X.prog X.w X.K X.mg X.base CX k C m qual st ps sp) (b : Bd m qual st ps) (hr : Room j X.A) (hk : k ≤ j) (hx : Passes CX X E) (he : PE X o ta) (ha : PA X (e :: es) t)
    (hst : starEach (e :: es) X.env = (false, eval e X.env) :: starEach es X.env := by rfl) (hpl : (backTo pos (starEach es X.env)).any (·.1) = false := by rfl)
    (ht : eval (.Call (.Attribute o m apos) (e :: es) [] pos) X.env = (eval o X.env >>= fun ov => standAt apos.atName >>= fun _ => holding [ov] (getMethod ov m pl) >>= fun q => callWith pos q.1 q.2 (backTo pos (starEach (e :: es) X.env)) (backToKw pos (keywordEach [] X.env))) := by rfl) :
    PE X (.Call (.Attribute o m apos) (e :: es) [] pos) (tMeth C m sp [] E ta t) := by
  obtain ⟨f, fd, F, M, hc, G⟩ := c.ex
  exact pe_meth (pl := pl) he hc M G (hr.mono hk) (F.bindsN b) .nil hx ha hst hpl ht
/-- how keywords bind in a method, or a def, without defaults -/
structure Kbm (x qual : Str) (st : Stmt) (n : Nat) (ks ps : List Str) (g : {α : Type} → List α → List α → List α) : Prop where
  bind : ∀ (kV doc pm : Value) (an : Option Addr) (cdv ct : Value) (us ws : List Value), us.length = n → ws.length = ks.length →
    bindArgs (PySem.W.fnOf x qual (defArgs st) (defBody st) (defScope st) .none kV doc pm an cdv ct) ⟨us, ks.zip ws⟩ = pure (ps.zip (g us ws))
  rel : ∀ {vs zs : List V} {us ws : List Value}, vs.length = n → zs.length = ks.length → Vals vs us → Vals zs ws → Vals (g vs zs) (g us ws)
/-- o.m(k = v, ..) -/
theorem pe_cmK {pl : Sem Bool} {g : {α : Type} → List α → List α → List α} (c : Cm X.prog X.w X.K X.mg X.base CX k C m qual st ps sp) (b : Kbm m qual st 1 ks ps g) (hr : Room j X.A) (hk : k ≤ j) (hx : Passes CX X E) (he : PE X o ta) (hkw : PK X kws tk)
    (hall : (backToKw pos (keywordEach kws X.env)).all (·.1.isSome) = true := by rfl) (hks : (backToKw pos (keywordEach kws X.env)).filterMap (·.1) = ks := by rfl)
    (hpl : ((backTo pos (starEach [] X.env)).any (·.1) || (backToKw pos (keywordEach kws X.env)).any (·.1.isNone)) = false := by rfl)
    (ht : eval (.Call (.Attribute o m apos) [] kws pos) X.env = (eval o X.env >>= fun ov => standAt apos.atName >>= fun _ => holding [ov] (getMethod ov m pl) >>= fun q => callWith pos q.1 q.2 (backTo pos (starEach [] X.env)) (backToKw pos (keywordEach kws X.env))) := by rfl) :
    PE X (.Call (.Attribute o m apos) [] kws pos) (fun σ H Q => ta σ H fun x H1 => ∃ a dx fs, x = .ref a ∧ H1 a = some (.ins C dx fs) ∧ fs.lookup m = none ∧ tk σ H1 fun zs H2 => zs.length = ks.length ∧ sp (g [.ref a] zs) H2 Q E) := by
  obtain ⟨f, fd, F, M, hc, G⟩ := c.ex
  obtain ⟨kV, doc, pm, an, cdv, ct, rfl⟩ := FunD.none F
  refine ⟨fun pins s σ H Q I h => ?_⟩
  refine PySem.W.methodCall_KW (pl := pl) (thn (he.run pins s σ H _ I h) fun u s1 ⟨y, H1, I1, ry, a, dx, fs, ey, ea, l, q⟩ => ?_) ht
  subst ey
  obtain rfl : u = Value.ref a := ry
  refine getmeth_ok I1 ea hc M l ?_
  refine PySem.W.callWith_KW0 (first := [.ref a]) (h₀ := X.base) I.ok.mod.kin M.kp hall ?_ hpl
  refine thn (hkw.run pos pins s1 σ H1 _ I1 q) fun ws s2 ⟨zs, H2, I2, rz, l2, q2⟩ => ⟨I2.kIn, ?_⟩
  rw [hks]
  have r2 : Vals (g [V.ref a] zs) (g [Value.ref a] ws) := b.rel rfl l2 (.cons rfl .nil) rz
  refine wpAny_call (codeAny_mono (G.run X.A X.stack s2 H2 ⟨[.ref a], ks.zip ws⟩ (g [.ref a] ws) (g [.ref a] zs) Q E (hr.mono hk) I2.env0 (.of_eq (b.bind kV doc pm an cdv ct [.ref a] ws rfl (rz.length.symm.trans l2))) r2 q2) fun r s' hq => ?_)
  match r, hq with
  | .error e, hq => exact hx pins σ H2 s2 e s' I2 hq
  | .ok (.ret u), hq => exact I2.after hq
  | .ok .next, hq => exact False.elim hq
  | .ok .brk, hq => exact False.elim hq
  | .ok .cont, hq => exact False.elim hq
end
/-- the keywords take their places: one self, the keywords in the parameters' order -/
def g1 {α : Type} : List α → List α → List α := fun us ws => us ++ ws
theorem g1_rel {n m : Nat} {vs zs : List V} {us ws : List Value} (_ : vs.length = n) (_ : zs.length = m) (h : Vals vs us) (k : Vals zs ws) : Vals (g1 vs zs) (g1 us ws) := h.append k
/-- how C(.., k = v, ..) binds where __init__ has defaults -/
structure Kd (qual : Str) (st : Stmt) (dn n : Nat) (ks ps : List Str) (g : {α : Type} → List α → List α → List α → List α) : Prop where
  bind : ∀ (T : Addr) (kV doc pm : Value) (an : Option Addr) (cdv ct : Value) (us its ws : List Value), us.length = n → its.length = dn → ws.length = ks.length →
    ∃ k, bindArgs (PySem.W.fnOf "__init__" qual (defArgs st) (defBody st) (defScope st) (.ref T) kV doc pm an cdv ct) ⟨us, ks.zip ws⟩ = seqItems? (.ref T) >>= k ∧ k (some its.toArray) = pure (ps.zip (g us its ws))
  rel : ∀ {vs ds zs : List V} {us its ws : List Value}, Vals vs us → Vals ds its → Vals zs ws → Vals (g vs ds zs) (g us its ws)
section
variable {X : Cx} {CX : CXT} {k j n d : Nat} {C : Addr} {x m qual : Str} {st : Stmt} {sp : Sp} {ps ks : List Str} {dvs : List V} {E : XK} {p pos apos : Pos} {e o : Expr} {es : List Expr} {kws : List Keyword} {ta : TE} {t tk : TA}
theorem pe_ciK0 {g : {α : Type} → List α → List α → List α → List α} (c : Ci X.prog X.w X.K X.mg X.base CX k x C qual st dvs ps sp) (b : Kd qual st dvs.length 1 ks ps g) (hd : dvs ≠ []) (hr : Room j X.A) (hk : k + 1 ≤ j) (hx : Passes CX X E) (hg : Gl X x) (hkw : PK X kws tk)
    (hall : (backToKw pos (keywordEach kws X.env)).all (·.1.isSome) = true := by rfl) (hks : (backToKw pos (keywordEach kws X.env)).filterMap (·.1) = ks := by rfl) (hdb : (x == ("__debug__" : Str)) = false := by decide)
    (hpl : ((backTo pos (starEach [] X.env)).any (·.1) || (backToKw pos (keywordEach kws X.env)).any (·.1.isNone)) = false := by rfl) :
    PE X (.Call (.Name x p) [] kws pos) (tMakeK C 0 ks.length sp (fun vs zs => g vs dvs zs) E tNil tk) := by
  obtain ⟨f, fd, F, M, hm, G⟩ := c.ex
  obtain ⟨its, hb⟩ := F.kbindsD 1 ks g hd b.rel b.bind
  exact pe_makeK0 M G (hr.mono hk) hg hm hb hx hkw hall hks hdb hpl
theorem pe_ciK {g : {α : Type} → List α → List α → List α → List α} (c : Ci X.prog X.w X.K X.mg X.base CX k x C qual st dvs ps sp) (b : Kd qual st dvs.length (n + 1) ks ps g) (hd : dvs ≠ []) (hr : Room j X.A) (hk : k + 1 ≤ j) (hx : Passes CX X E) (hg : Gl X x) (ha : PA X (e :: es) t) (hkw : PK X kws tk)
    (hall : (backToKw pos (keywordEach kws X.env)).all (·.1.isSome) = true := by rfl) (hks : (backToKw pos (keywordEach kws X.env)).filterMap (·.1) = ks := by rfl) (hdb : (x == ("__debug__" : Str)) = false := by decide)
    (he : starEach (e :: es) X.env = (false, eval e X.env) :: starEach es X.env := by rfl) (hpl : ((backTo pos (starEach (e :: es) X.env)).any (·.1) || (backToKw pos (keywordEach kws X.env)).any (·.1.isNone)) = false := by rfl) :
    PE X (.Call (.Name x p) (e :: es) kws pos) (tMakeK C n ks.length sp (fun vs zs => g vs dvs zs) E t tk) := by
  obtain ⟨f, fd, F, M, hm, G⟩ := c.ex
  obtain ⟨its, hb⟩ := F.kbindsD (n + 1) ks g hd b.rel b.bind
  exact pe_makeK M G (hr.mono hk) hg hm hb hx ha hkw hall hks hdb he hpl
end
end MM
namespace MM
open PySem PySem.Spec PyProof.Rows L2
/-! ### range(a, b) of numbers of any size -/
theorem turn_long {P : Program} {w : World} {K : PySem.W.Frag} {tg : Expr} (it : Addr) (lo : Int) (n : Nat) : Turn P w K tg (Itr lo n) [it] it (fun i h => IsLongIter h it (lo + (i : Nat) * 1) ((n : Int) - (i : Nat)) 1) := by
  refine { mem := List.mem_singleton.mpr rfl, obj := fun i h st b hb => ?_, keep := fun i h h' st k => k it (List.mem_singleton.mpr rfl) _ st, item := ?_, done := ?_, self := fun _ _ _ _ _ st h => wpAny_pyIter_longiter st h }
  · cases List.mem_singleton.mp hb
    exact ⟨_, st, fun v z => nomatch (show Data.fields _ = Data.cell v from z)⟩
  · intro X hP hw hK hc i pins s σ H E I hf st hg
    subst hP; subst hw; subst hK
    obtain ⟨f0, f1, f2, f3, f4, f5⟩ := hf it (List.mem_singleton.mpr rfl)
    refine (Walks.longrange (prog := X.prog) (w := X.w) (I.ok.hd hc) it lo 1 n).item i s _ _ hg st fun v h' tk hv st' kk => ?_
    obtain ⟨t, rfl⟩ := hv
    have J : Inv X pins σ H { s with heap := h', toks := tk } := I.turned (fun b o hb e => kk b o (fun z => hb (List.mem_singleton.mp z)) e) f0 f1 f3 f4 f5
    refine ⟨_, rfl, go_of (s := { s with heap := h', toks := tk }) (n := "longrange_iterator") st' rfl rfl (by decide) ⟨.int (lo + i), H, J, ⟨t, ?_⟩, ⟨rfl, rfl⟩, st', fun b hb => (hf b hb).1⟩⟩
    rw [Int.mul_one]
  · intro X hP hw hK hc i pins s σ H E I hf st hg
    subst hP; subst hw; subst hK
    obtain ⟨f0, f1, f2, f3, f4, f5⟩ := hf it (List.mem_singleton.mpr rfl)
    have hl : n ≤ i := hg
    exact wpAny_pyNext_long_end (I.ok.hd hc) st (by omega) fun h' eb => ⟨rfl, I.turned (t' := s.toks) (fun b o hb e => eb b o hb e) f0 f1 f3 f4 f5⟩
section
variable {X : Cx} {tg : Expr}
theorem long_it {pins : List (Addr × Obj)} {σ : L2.St} {H : Hp} {s : Shared} {R : It → Hp → Prop} {E : Value → Shared → Prop} {lo hi : Int} {t u v : Tok} {tk : Nat} (I : Inv X pins σ H s) (q : R (Itr lo (hi - lo).toNat) H) :
    wpAny (model X.prog X.w) X.A (pyIter (.ref s.heap.objs.size)) (PIE X pins σ tg R) E { s with heap := s.heap.push { cls := .type "range", data := .fields #[.int lo t, .int hi u, .int 1 v] }, toks := tk } := by
  have J : Inv X pins σ H { s with heap := s.heap.push { cls := .type "range", data := .fields #[.int lo t, .int hi u, .int 1 v] }, toks := tk } := I.kept fun b o e => Heap.get?_push_of_some _ e
  have e0 : lo + ((0 : Nat) : Int) * 1 = lo := by simp
  have e1 : (((hi - lo).toNat : Nat) : Int) - ((0 : Nat) : Int) = Builtin.Range.rangeSize lo hi 1 := by
    rw [rangeSize_one]
    split <;> omega
  cases hsm : Builtin.Range.small lo hi 1 with
  | true =>
    refine wpAny_pyIter_range (IsRange.new ..) hsm ⟨_, [_], _, _, H, rfl, J.kept (t' := tk) fun b o e => Heap.get?_push_of_some _ e, turn_range _ lo (hi - lo).toNat, ?_, fun b hb => ?_, q⟩
    · show IsRangeIter _ _ (lo + ((0 : Nat) : Int) * 1) ((((hi - lo).toNat : Nat) : Int) - ((0 : Nat) : Int)) 1
      rw [e0, e1]
      exact Heap.get?_push_size _ rfl
    · cases List.mem_singleton.mp hb
      exact J.fpOk (Nat.le_refl _) (J.hok.fresh (Nat.le_refl _))
  | false =>
    refine wpAny_pyIter_longrange (IsRange.new ..) hsm ⟨_, [_], _, _, H, rfl, J.kept (t' := tk) fun b o e => Heap.get?_push_of_some _ e, turn_long _ lo (hi - lo).toNat, ?_, fun b hb => ?_, q⟩
    · show IsLongIter _ _ (lo + ((0 : Nat) : Int) * 1) ((((hi - lo).toNat : Nat) : Int) - ((0 : Nat) : Int)) 1
      rw [e0, e1]
      exact Heap.get?_push_size _ rfl
    · cases List.mem_singleton.mp hb
      exact J.fpOk (Nat.le_refl _) (J.hok.fresh (Nat.le_refl _))
def iRngA (ta : TA) : TI := fun σ H R => ta σ H fun vs H1 => ∃ i j : Int, vs = [.int i, .int j] ∧ R (Itr i (j - i).toNat) H1
theorem pi_rangeA {a b : Expr} {ta : TA} {p pos : Pos} (hg : Gl X "range") (hm : X.mg "range" = none) (ha : PA X [a, b] ta) (hs : starEach [a, b] X.env = [(false, eval a X.env), (false, eval b X.env)] := by rfl) (hs2 : starEach [b] X.env = [(false, eval b X.env)] := by rfl) :
    PI X tg (.Call (.Name "range" p) [a, b] [] pos) (iRngA ta) := by
  refine ⟨fun pins s σ H R I h => Call_ (ld_blt I hg hm boot_range (PyProof.Rows.callWith_type1 (thn (ha.run pos pins s σ H _ I h) fun us s1 ⟨vs, H1, I1, r1, q1⟩ => ?_) (by rw [hs, hs2]) (by rw [hs2]; rfl)))⟩
  obtain ⟨i, j, e, q⟩ := q1
  subst e
  obtain ⟨u1, u2, rfl, ⟨t, rfl⟩, ⟨t', rfl⟩⟩ := vals2 r1
  exact call_range_2 (long_it I1 q)
end
end MM
namespace MM
open PySem PySem.Spec PyProof.Rows L2
section
variable {K : PySem.W.Frag} {h : Heap} {mg : Str → Option Value} {x m qual : Str} {st : Stmt} {f C T : Addr} {oc kV doc pm cdv ct cT : Value} {od an dT : Option Addr} {osl sT : Array (Option Value)} {nT : Nat}
theorem df_mk (X : K.In h) (G : h.Ns mainGlobals mg) (a : PySem.W.nsIn K mainGlobals x = some (some (.ref f))) (l : K.lookup f = some ⟨oc, od, .func (PySem.W.fnOf x x (defArgs st) (defBody st) (defScope st) .none kV doc pm an cdv ct), osl⟩)
    (c : PySem.W.codeIn K cdv x = true) (k : PySem.W.keepIn K (.ref f) = true) : Df K mg x st [] :=
  ⟨f, _, ⟨⟨oc, od, .none, kV, doc, pm, an, cdv, ct, osl, rfl, l, c, .inl ⟨rfl, rfl⟩, .inl rfl⟩, k⟩, PySem.W.mg_of X G a⟩
theorem dm_mk (cl : Cls K C) (a : PySem.W.findIn K (.ref C) m = some (some (.ref f))) (i : PySem.W.isFn K (.ref f) = true) (l : K.lookup f = some ⟨oc, od, .func (PySem.W.fnOf m qual (defArgs st) (defBody st) (defScope st) .none kV doc pm an cdv ct), osl⟩)
    (c : PySem.W.codeIn K cdv qual = true) (k : PySem.W.keepIn K (.ref f) = true) : Dm K C m qual st :=
  ⟨f, _, ⟨⟨oc, od, .none, kV, doc, pm, an, cdv, ct, osl, rfl, l, c, .inl ⟨rfl, rfl⟩, .inl rfl⟩, k⟩, ⟨a, i, k⟩, cl⟩
theorem di_mk {its : List Value} {dvs : List V} (hC : mg x = some (.ref C)) (a : PySem.W.findIn K (.ref C) "__init__" = some (some (.ref f))) (i : PySem.W.isFn K (.ref f) = true)
    (l : K.lookup f = some ⟨oc, od, .func (PySem.W.fnOf "__init__" qual (defArgs st) (defBody st) (defScope st) (.ref T) kV doc pm an cdv ct), osl⟩) (c : PySem.W.codeIn K cdv qual = true) (k : PySem.W.keepIn K (.ref f) = true)
    (mk : PySem.W.makesIn K C = true) (kc : PySem.W.keepIn K (.ref C) = true) {oT : Obj} (lT : K.lookup T = some oT) (eT : oT.data = .seq its.toArray nT) (r : Vals dvs its) (ne : dvs ≠ []) : Di K mg x C qual st dvs :=
  ⟨f, _, ⟨⟨oc, od, .ref T, kV, doc, pm, an, cdv, ct, osl, rfl, l, c, .inr ⟨ne, T, _, its, nT, rfl, lT, eT, r⟩, .inl rfl⟩, k⟩, ⟨mk, a, i, kc⟩, hC⟩
theorem kit_no {t : Value} (iC : PySem.W.isClsIn K C = true) (tC : PySem.W.typeIn K (.ref C) = some (.type "type")) (ht : (t == Value.ref C) = false) (sI : PySem.W.subIn K t (.ref C) = some false) : PySem.W.kitOne K t (.ref C) = some false := by
  unfold PySem.W.kitOne PySem.W.kitCls
  have iC' : (PySem.W.clsIn K C).isSome = true := iC
  rw [ht, if_neg Bool.false_ne_true]
  show (if ((PySem.W.clsIn K C).isSome && PySem.W.typeIn K (.ref C) == some (.type "type")) = true then PySem.W.subIn K t (.ref C) else none) = some false
  rw [iC', tC, if_pos (by simp)]
  exact sI
theorem fund_inj {params : Arguments} {body : List Stmt} {scope : Scope} {dvs : List V} {kws : List (Str × V)} {fd fd' : FuncData} (F : FunD K x qual params body scope dvs kws f fd) (F' : FunD K x qual params body scope dvs kws f fd') : fd = fd' := by
  obtain ⟨oc, od, dV, kV, doc, pm, an, cdv, ct, osl, e, lk, _⟩ := F.ex
  obtain ⟨oc', od', dV', kV', doc', pm', an', cdv', ct', osl', e', lk', _⟩ := F'.ex
  rw [lk] at lk'
  injection lk' with z
  injection z with z1 z2 z3 z4
  injection z3
end
/-- from the law's promise to what the end of the walk asks -/
theorem fin_of {P : Program} {w : World} {K : PySem.W.Frag} {mg : Str → Option Value} {st : Stmt} {k : Nat} {x : Str} {sp : Sp} {fa : Addr} (hfa : mg "law" = some (.ref fa)) (D : Df K mg "law" st []) (b : Bd "law" "law" st [x])
    (h : ∀ base : Heap, Ca P w K mg base CX0 k "law" st [] [x] sp) :
    ∃ fd : FuncData, (∀ (s : Shared) (u : Value), BindsTo s fd ⟨[u], []⟩ [(x, u)]) ∧ ∀ base : Heap, K.In base → base.Ns mainGlobals mg → FnOk P w K mg base CX0 k fa fd [x] sp := by
  obtain ⟨f, fd, F, hm⟩ := D.ex
  have e := hfa.symm.trans hm
  cases e
  refine ⟨fd, fun s u => ?_, fun base _ _ => ?_⟩
  · obtain ⟨kV, doc, pm, an, cdv, ct, rfl⟩ := FunD.none F
    exact .of_eq (b kV doc pm an cdv ct [u] rfl)
  · obtain ⟨f', fd', F', hm', G⟩ := (h base).ex
    have e' := hm.symm.trans hm'
    cases e'
    have e2 := fund_inj F F'
    subst e2
    exact G
end MM
namespace MM
open PySem PySem.Spec PyProof.Rows L2
/-! ### an except clause with a tuple of classes -/
theorem for_true {M : Model} {A : Around} {E : Value → Shared → Prop} {s : Shared} {Q : PUnit → Shared → Prop} {f : Value → PUnit → Sem (ForInStep PUnit)} : ∀ (cs : List Value),
    (∀ c ∈ cs, ∀ Q' : ForInStep PUnit → Shared → Prop, Q' (.yield .unit) s → wpAny M A (f c .unit) Q' E s) → Q .unit s → wpAny M A (forIn cs PUnit.unit f) Q E s
  | [], _, q => by
    rw [List.forIn_nil]
    exact wpAny_pure q
  | c :: cs, h, q => by
    rw [List.forIn_cons]
    exact wpAny_bind (h c List.mem_cons_self _ (for_true cs (fun d hd => h d (List.mem_cons_of_mem _ hd)) q))
theorem for_first {M : Model} {A : Around} {E : Value → Shared → Prop} {s : Shared} {Q : Option Bool × Unit → Shared → Prop} {f : Value → Option Bool × Unit → Sem (ForInStep (Option Bool × Unit))} {B : Value → Bool} : ∀ (cs : List Value),
    (∀ c ∈ cs, ∀ Q' : ForInStep (Option Bool × Unit) → Shared → Prop, Q' (if B c then .done (some true, ()) else .yield (none, ())) s → wpAny M A (f c (none, ())) Q' E s) →
    Q (if cs.any B then (some true, ()) else (none, ())) s → wpAny M A (forIn cs ((none, ()) : Option Bool × Unit) f) Q E s
  | [], _, q => by
    rw [List.forIn_nil]
    exact wpAny_pure q
  | c :: cs, h, q => by
    rw [List.forIn_cons]
    refine wpAny_bind (h c List.mem_cons_self _ ?_)
    cases hb : B c with
    | true =>
      rw [List.any_cons, hb, Bool.true_or] at q
      exact wpAny_pure q
    | false =>
      rw [List.any_cons, hb, Bool.false_or] at q
      exact for_first cs (fun d hd => h d (List.mem_cons_of_mem _ hd)) q
theorem exm_tups {M : Model} {K : PySem.W.Frag} {cls : Value} {cs : List Value} {tp e : Addr} {h : Heap} {o : Obj} {n : Nat} {B : Value → Bool} (X : K.In h) (LT : PySem.W.Looks M h (typeOf (.ref e)) cls) (hp : h.get? tp = some o) (hc : o.cls = .type "tuple") (hd : o.data = .seq cs.toArray n)
    (hx : ∀ c ∈ cs, PySem.W.exmOne K cls c = some (B c)) : PySem.W.Looks M h (excMatches (.ref e) (.ref tp)) (cs.any B) := by
  intro A Q E s k q
  have LT0 : PySem.W.Looks M h (isInstance (.ref tp) (.type "tuple")) true := by
    refine PySem.W.Looks.andThen (a := .type "tuple") (fun A Q E s k q => wpAny_typeOf_ref (k _ _ hp) (by rw [hc]; exact q)) (PySem.W.Looks.of_pure isSubtype_tuple_tuple)
  unfold excMatches
  refine wpAny_bind ((LT0.keeps k).here ?_)
  dsimp only
  rw [if_pos rfl]
  refine wpAny_bind (wpAny_seqItems (k _ _ hp) hd (wpAny_bind (wpAny_pure ?_)))
  show wpAny M A (forIn cs PUnit.unit _ >>= _) _ _ _
  refine wpAny_bind (for_true cs (fun c hcm Q' q' => ?_) ?_)
  · refine wpAny_bind (((PySem.W.exm_cls (M := M) X (hx c hcm)).1.keeps k).here ?_)
    rw [if_neg (by decide)]
    exact wpAny_pure q'
  · refine wpAny_bind ((LT.keeps k).here (wpAny_bind (for_first (B := B) cs (fun c hcm Q' q' => ?_) ?_)))
    · refine wpAny_bind (((PySem.W.exm_cls (M := M) X (hx c hcm)).2.keeps k).here ?_)
      cases hb : B c with
      | true =>
        rw [hb] at q'
        rw [if_pos rfl]
        exact wpAny_pure q'
      | false =>
        rw [hb] at q'
        rw [if_neg (by decide)]
        exact wpAny_pure q'
    · cases hb : cs.any B with
      | true =>
        rw [hb] at q
        exact wpAny_pure q
      | false =>
        rw [hb] at q
        exact wpAny_pure q
/-! ### a caught exception that is kept -/
/-- at a: an exception of the class cls, its own dict at d -/
def KX (a : Addr) (cls : Value) (d : Option Addr) : HO := .ext fun h => ∃ (oe : Obj) (vs : Array Value), h.get? a = some oe ∧ Zc cls d oe ∧ oe.data = .fields vs
theorem kx_ok {P : Program} {w : World} {H : Hp} {h : Heap} {a : Addr} {cls : Value} {d : Option Addr} {oe : Obj} {vs : Array Value} (e : h.get? a = some oe) (z : Zc cls d oe) (hd : oe.data = .fields vs) : ObjOk P w H h a (KX a cls d) :=
  ⟨⟨oe, vs, e, z, hd⟩, ⟨oe, e⟩, fun h1 h2 ⟨o, v, e1, z1, d1⟩ k => ⟨o, v, k _ e1, z1, d1⟩⟩
section
variable {X : Cx} {pins : List (Addr × Obj)} {σ : L2.St} {H : Hp} {s : Shared} {a : Addr} {oe : Obj} {vs : Array Value} {cls : Value} {d : Option Addr}
theorem Inv.track (I : Inv X pins σ H s) (ha : s.heap.get? a = some oe) (hz : Zc cls d oe) (hd : oe.data = .fields vs) (na : H a = none) (n0 : X.s_0.heap.get? a = none) (nL : a ≠ X.env.locals) (nC : ∀ x c, X.env.cells.lookup x = some c → c ≠ a)
    (nP : ∀ p ∈ X.pn ++ pins, p.1 ≠ a) : Inv X pins σ (L2.upd H a (KX a cls d)) s := by
  have neA : ∀ {b : Addr} {o : HO}, H b = some o → b ≠ a := fun e => ne_of_none e na
  have ne0 : ∀ {b : Addr} {o : Obj}, X.s_0.heap.get? b = some o → b ≠ a := fun e z => by
    rw [z, n0] at e
    cases e
  refine ⟨I.ok, I.os, I.bare, ⟨I.base.keep, I.base.slot, fun b o e n hx => ?_, I.base.there, fun b xs e => ?_, fun b o u e => ?_, fun b ps e => ?_⟩, I.loc, I.cell, ?_, fun x c e => ?_, fun p hp => ?_, fun b u e => ?_, I.len⟩
  · rw [upd_ne (ne0 e)]
    exact I.base.free b o e n hx
  · have q := I.base.tups b xs e
    rw [upd_ne (neA q)]
    exact q
  · have q := I.base.frzs b o u e
    rw [upd_ne (neA q)]
    exact q
  · obtain ⟨m, q⟩ := I.base.tbls b ps e
    exact ⟨m, by rw [upd_ne (neA q)]; exact q⟩
  · rw [upd_ne nL.symm]
    exact I.free
  · rw [upd_ne (nC x c e)]
    exact I.freeC x c e
  · obtain ⟨q1, q2, q3⟩ := I.pin p hp
    exact ⟨q1, by rw [upd_ne (nP p hp)]; exact q2, q3⟩
  · by_cases hb : b = a
    · subst hb
      rw [upd_same] at e
      cases e
      exact kx_ok ha hz hd
    · rw [upd_ne hb] at e
      exact (I.hok b u e).stay (fun c v _ q => q) (fun c q => by rw [upd_ne (neA q)]; exact q) fun c xs q => by rw [upd_ne (neA q)]; exact q
end
theorem flying_more {B h h' : Heap} {l : List Env} {e : Addr} {Z : Obj → Prop} (x : HandSPX.FlyingZ B l e Z h) (k : ∀ b o, h.get? b = some o → h'.get? b = some o) : HandSPX.FlyingZ B l e Z h' := by
  obtain ⟨f1, f2, f3, oe, vs, T, oT, ts, he, hz, hd, h1, hnT, hTe, hT, hdT, h3⟩ := x
  exact ⟨fun b o q => k b o (f1 b o q), f2, f3.of_keeps fun b o hb _ => ⟨o, k b o hb, rfl⟩, oe, vs, T, oT, ts, k _ _ he, hz, hd, h1, hnT, hTe, k _ _ hT, hdT, h3⟩
/-- the names of a tuple of classes -/
inductive Nms (X : Cx) : List Expr → List Value → Prop
  | nil : Nms X [] []
  | cons {x : Str} {p : Pos} {c : Value} {es : List Expr} {cs : List Value} (g : Gl X x) (d : (x == ("__debug__" : Str)) = false) (m : X.mg x = some c) (r : Nms X es cs) : Nms X (.Name x p :: es) (c :: cs)
/-- what try .. except (..) as n: m = n wishes of an exception of the body: i is n's slot, j m's -/
def wKeep (K : PySem.W.Frag) (cs : List Value) (i j : Nat) (D : Ends) : WX := fun cls d σ H =>
  (∃ B : Value → Bool, (∀ c ∈ cs, PySem.W.exmOne K cls c = some (B c)) ∧ cs.any B = true) ∧ ∀ a, H a = none → D.nx (((σ.set i (some (.ref a))).set j (some (.ref a))).set i none) (L2.upd H a (KX a cls d))
section
variable {X : Cx} {cs : List Value} {es : List Expr} {n m : Str} {i j : Nat} {body : List Stmt} {kt : Nat} {tpos np mp apos pos pos' : Pos} {tb : WX → TS}
theorem nms_run {Y : Cx} {pins : List (Addr × Obj)} {σ : L2.St} {H : Hp} {s : Shared} (I : Inv Y pins σ H s) {es : List Expr} {cs : List Value} (h : Nms Y es cs) : ∀ {Q : List Value → Shared → Prop} {E : Value → Shared → Prop} {pos : Pos}, Q cs s →
    wpAny (model Y.prog Y.w) Y.A (spliced (backTo pos (starEach es Y.env))) Q E s := by
  induction h with
  | nil => exact fun q => wpAny_items_nil q
  | cons g d m r ih => exact fun q => wpAny_items_cons (ld_glob I g m (ih q) d)
theorem Nms.to {X Y : Cx} (he : Y.env = X.env) (hm : Y.mg = X.mg) {es : List Expr} {cs : List Value} (h : Nms X es cs) : Nms Y es cs := by
  induction h with
  | nil => exact .nil
  | cons g d m r ih => exact .cons (by unfold Gl; rw [he]; exact g) d (by rw [hm]; exact m) ih
/-- try: body / except (..) as n: m = n; nothing else leaves the body -/
theorem ps_try_keep (hs : X.stack = X.env :: X.outer) (hf : X.env.frame = some X.env.locals) (hex : X.ex = []) (hN : X.N.Nodup) (hi : X.N[i]? = some n) (hln : X.env.kindOf n = some .local) (hj : X.N[j]? = some m) (hlm : X.env.kindOf m = some .local) (hc : Nms X es cs) (hz : cs.length ≤ 100)
    (hdb : (n == ("__debug__" : Str)) = false := by decide) (hcd : (n == ("__classdict__" : Str)) = false := by decide)
    (hb : ∀ (W : WX) (pn : List (Addr × Obj)) (xe : Value → Shared → Prop), Takes (X.tr pn xe) W → PassesOwn (model X.prog X.w) X.A X.env xe → PSs (X.tr pn xe) body (tb W))
    (hsw : swapsWith (.Name n np) (some (.Name m mp)) apos.line X.env = pure false := by rfl) :
    PS X (.Try body [.ExceptHandler (some (.Tuple es kt tpos)) (some n) [.Assign [.Name m mp] (.Name n np) apos] pos'] [] [] pos) (fun D σ H => tb (wKeep X.K cs i j D) D σ H) := by
  refine ⟨fun pins s σ H D I h => ?_⟩
  have ok := I.ok
  have hfr : X.A.frames = some (X.env :: X.outer) := by rw [ok.frames, hs]
  refine wpAny_Try_except ?_
  refine wpAny_mono ((hb (wKeep X.K cs i j D) (X.pn ++ pins) (fun e s₁ => wpAny (model X.prog X.w) X.A (noteFrame e X.env) (fun _ s₂ => wpAny (model X.prog X.w) X.A (setFlight e none) (fun _ s₃ =>
    wpAny (model X.prog X.w) X.A (handleBy e X.env [.ExceptHandler (some (.Tuple es kt tpos)) (some n) [.Assign [.Name m mp] (.Name n np) apos] pos']) (SP X pins D) X.xe s₃) X.xe s₂) X.xe s₁) (fun u s' xx => ?_) PassesOwn.looking).run [] s σ H D (I.toTry _) h) (fun f s1 hsp => ?_) (fun e s1 he => he)
  · obtain ⟨a, B, sI, pins', σ', H', cls, d, rfl, J', nb, up, sky, na, os, ag, ⟨Bc, hB, hany⟩, wish⟩ := xx
    have J : Inv X pins σ' H' sI := J'.ofTry ok
    have sky' : Sky B (X.env :: X.outer) a (Zc cls d) X.env.locals s'.heap := by rw [← hs]; exact sky
    show wpAny (model X.prog X.w) X.A (noteFrame (.ref a) X.env) _ _ _
    refine Sky.land Zc.steady hfr hf sky' fun h3 fl3 up3 => ?_
    have J3 : Inv X pins σ' H' { s' with heap := h3 } := J.landed nb fl3.1 (up.trans up3) os ag
    obtain ⟨oe3, vs3, he3, hz3, hd3⟩ := fl3.there
    have nfr : a ∉ frs (X.env :: X.outer) := fun hm => by
      obtain ⟨_, o', e', hnf⟩ := fl3.2.2.1.mem hm
      rw [he3] at e'
      cases e'
      exact hnf _ hd3
    have nL : a ≠ X.env.locals := fun z => nfr (List.mem_filterMap.mpr ⟨X.env, List.mem_cons_self, by rw [hf, z]⟩)
    have nF : a ∉ X.fs := fun hm => by
      obtain ⟨e, he, q⟩ := List.mem_filterMap.mp hm
      exact nfr (List.mem_filterMap.mpr ⟨e, List.mem_cons_of_mem _ he, q⟩)
    have nI : sI.heap.get? a = none := by
      cases q : sI.heap.get? a with
      | none => rfl
      | some o =>
        have z := nb a o q (by rw [hs]; exact nfr)
        rw [fl3.2.1] at z
        cases z
    have n0 : X.s_0.heap.get? a = none := by
      cases q : X.s_0.heap.get? a with
      | none => rfl
      | some o =>
        obtain ⟨o', z⟩ := J.base.there a o q (by rw [hex]; exact fun y => nomatch y)
        rw [nI] at z
        cases z
    have nC : ∀ x c, X.env.cells.lookup x = some c → c ≠ a := fun x c e z => by
      obtain ⟨v, o, ho, _⟩ := J.cell x c e
      rw [z, nI] at ho
      cases ho
    have nP : ∀ p ∈ X.pn ++ pins, p.1 ≠ a := fun p hp z => by
      have q := (J.pin p hp).1
      rw [z, nI] at q
      cases q
    have S3 := J3.suite he3 hd3 na nL nF
    refine wpAny_handleBy_cons (codeAny_handlers_test ?_) (by intro q; cases q)
    refine wpAny_Tuple (nms_run (Y := X.suite a ((a, oe3) :: (X.pn ++ pins))) S3 (Nms.to (X := X) (Y := X.suite a ((a, oe3) :: (X.pn ++ pins))) rfl rfl hc) ⟨Nat.le_trans hz (by decide), ?_⟩)
    have kp : ∀ b o, h3.get? b = some o → (h3.push { cls := .type "tuple", data := .seq cs.toArray }).get? b = some o := fun b o e => Heap.get?_push_of_some _ e
    have LT : PySem.W.Looks (model X.prog X.w) (h3.push { cls := .type "tuple", data := .seq cs.toArray }) (typeOf (.ref a)) cls := fun A Q E s k q => wpAny_typeOf_ref (k _ _ (kp _ _ he3)) (by rw [hz3.1]; exact q)
    have LM := exm_tups (M := model X.prog X.w) (J3.kIn.keeps kp) LT (Heap.get?_push_size h3 rfl) rfl rfl hB
    rw [hany] at LM
    refine LM.here ?_
    refine codeAny_handlers_suite_as ?_
    have fl3' := flying_more fl3 kp
    refine HandSPX.lands_againZ fl3' fun h4 fl4 up4 => ?_
    have upp : h3.UpToSlots (h3.push { cls := .type "tuple", data := .seq cs.toArray }) := fun b o hb _ => ⟨o.slots, kp b o hb⟩
    have J4 : Inv X pins σ' H' { s' with heap := h4 } := J.landed nb fl4.1 (((up.trans up3).trans upp).trans up4) os ag
    obtain ⟨oe4, vs4, he4, hz4, hd4⟩ := fl4.there
    have S4 := J4.suite he4 hd4 na nL nF
    refine store_ok (X := X.suite a ((a, oe4) :: (X.pn ++ pins))) (v := .ref a) S4 hN hi (.inl hln) rfl (fun s5 S5 => ?_) (.inr hln)
    have rd : PSs (X.suite a ((a, oe4) :: (X.pn ++ pins))) [.Assign [.Name m mp] (.Name n np) apos] (tAsg (tVar i) (gName j)) := pss_one (ps_set hN hj (.inl hlm) (pe_var hi (.inl hln) hdb hcd) hsw (.inr hlm))
    refine wpAny_mono (rd.run [] s5 _ H' { nx := fun σ6 H6 => σ6 = (σ'.set i (some (.ref a))).set j (some (.ref a)) ∧ H6 = H', rt := fun _ _ => False } S5 ⟨_, ?_, rfl, rfl⟩) (fun f s6 hsp => ?_) (fun _ _ z => False.elim z)
    · exact List.getElem?_set_self (by rw [J.len]; exact (List.getElem?_eq_some_iff.mp hi).1)
    · cases f with
      | next =>
        obtain ⟨σ6, H6, S6, rfl, rfl⟩ := hsp
        obtain ⟨p1, p2, _⟩ := S6.pin (a, oe4) (List.mem_append_left _ List.mem_cons_self)
        have J6 := Inv.track (S6.unsuite ok) p1 hz4 hd4 na n0 nL nC nP
        exact gone_ok J6 hN hi hln fun s7 J7 => ⟨_, _, J7, wish a na⟩
      | brk =>
        obtain ⟨_, _, _, z⟩ := hsp
        exact z.elim
      | cont =>
        obtain ⟨_, _, _, z⟩ := hsp
        exact z.elim
      | ret u =>
        obtain ⟨_, _, _, _, _, z⟩ := hsp
        exact z.elim
  · cases f with
    | next =>
      obtain ⟨σ1, H1, J1, q⟩ := hsp
      exact wpAny_execs_nil ⟨σ1, H1, J1.ofTry ok, q⟩
    | brk =>
      obtain ⟨σ1, H1, J1, q⟩ := hsp
      exact ⟨σ1, H1, J1.ofTry ok, q⟩
    | cont =>
      obtain ⟨σ1, H1, J1, q⟩ := hsp
      exact ⟨σ1, H1, J1.ofTry ok, q⟩
    | ret u =>
      obtain ⟨v1, σ1, H1, J1, r1, q⟩ := hsp
      exact ⟨v1, σ1, H1, J1.ofTry ok, r1, q⟩
end
end MM
namespace MM
open PySem PySem.Spec PySem.Calls PyProof.Rows L2
/-! ### a kept exception is asked for its class -/
/-- what the class D says, so that its instances may be asked -/
structure XcF (K : PySem.W.Frag) (D : Addr) : Prop where
  ga : PySem.W.findIn K (.ref D) "__getattribute__" = some (some (.builtin "BaseException.__getattribute__"))
  gg : PySem.W.findIn K (.ref D) "__getattr__" = some none
  sub : PySem.W.subIn K (.ref D) (.type "BaseException") = some true
  hd : PySem.W.hasDictIn K D = true
  ca : PySem.W.findIn K (.ref D) "__class__" = some (some (.builtin "object.__class__"))
  gn : PySem.W.specialIn K (.builtin "object.__class__") "__get__" = some (some (.builtin "getset_descriptor.__get__"))
  tk : PySem.W.takesIn K (.builtin "object.__class__") = some true
  mo : PySem.W.mroIn K D (.type "object") = some true
section
open PySem.W
variable {prog : Program} {w : World} {A : Around} {E : Value → Shared → Prop} {s : Shared} {K : Frag} {x D : Addr} {ox : Obj} {od : Option Obj}
theorem found_class (C : XcF K D) : findObj K D od "__class__" = some (.bind (.builtin "getset_descriptor.__get__") (.builtin "object.__class__")) := by
  obtain ⟨cd, hc, _⟩ := any_some C.hd
  unfold findObj
  rw [hc, Option.bind_some, C.ca, Option.bind_some]
  simp [C.gn, C.tk]
theorem class_exc {Q : Option Value → Shared → Prop} (C : XcF K D) (X : K.In s.heap) (I : InstAt s.heap x ox D od) (h : Q (some (.ref D)) { s with toks := s.toks + 1 }) : wpAny (model prog w) A (getAttr? (.ref x) "__class__") Q E s := by
  obtain ⟨hp, g, d, t, os⟩ := s
  have l0 := I.type (M := model prog w)
  have l1 := looks_findIn (M := model prog w) X C.ga
  have l2 := looks_findIn (M := model prog w) X C.gg
  have l3 := looks_find (M := model prog w) X I (found_class C)
  have isB : Looks (model prog w) hp (isInstance (.ref x) (.type "BaseException")) true := l0.andThen (looks_subIn X C.sub)
  have n2 : (Value.builtin "BaseException.__getattribute__" == Value.builtin "object.__getattribute__") = false := by decide +kernel
  unfold getAttr? getAttrBy? getAttrBy
  refine wpAny_bind (wpAny_mkText (wpAny_bind (wpAny_attempt (wpAny_holding (wpAny_bind (l0.at (wpAny_bind (l1.at (?_ : wpAny _ _ (if (onTheHeap (Value.ref D) && Value.builtin "BaseException.__getattribute__" == Value.builtin "object.__getattribute__") = true then _ else _) _ _ _)))))))))
  rw [show (onTheHeap (Value.ref D) && Value.builtin "BaseException.__getattribute__" == Value.builtin "object.__getattribute__") = false by rw [n2]; rfl, if_neg Bool.false_ne_true]
  unfold getAttrByItsOwn hookBefore
  refine wpAny_bind ?_
  rw [if_pos (show onTheHeap (Value.ref D) = true from rfl)]
  refine l2.at (wpAny_bind (wpAny_attempt (wpAny_holding ?_)))
  unfold callGetattribute
  rw [show (false && onTheHeap (Value.builtin "BaseException.__getattribute__")) = false from rfl, if_neg Bool.false_ne_true]
  unfold boundAndCalled
  rw [PySem.F.excAttr_ValueError.ga.bind (.ref x)]
  refine wpAny_bind (wpAny_pure (?_ : wpAny _ _ (call (.builtin "BaseException.__getattribute__") [.ref x, .str "__class__" t]) _ _ _))
  refine wpAny_call (codeAny_call_builtin PySem.F.excAttr_ValueError.ga.plain PySem.F.entry_bexc_ga (@check_slot (model prog w) _ _ ⟨hp, g, d, t + 1, os⟩ "BaseException.__getattribute__" "BaseException" "__getattribute__" (.ref x) [.str "__class__" t] [] _ (by decide +kernel) (by decide +kernel) isB (PySem.F.args_bexc_ga (.ref x) (.str "__class__" t)) ?_))
  unfold Builtin.«object.__getattribute__»
  refine wpAny_bind (wpAny_of_eq (a := ((Value.ref x : Value), [Value.str "__class__" t])) (by first | rfl | (simp only [slotArgs]; rfl)) (wpAny_bind (wpAny_pure (wpAny_bind (l0.at (wpAny_bind (l3.at
    (?_ : wpAny _ _ (holding [Value.builtin "object.__class__"] (call (.builtin "getset_descriptor.__get__") [.builtin "object.__class__", .ref x, .ref D]) >>= ret) _ _ _))))))))
  refine wpAny_bind (wpAny_holding (wpAny_call (class_get (s := ⟨hp, g, d, t + 1, os⟩) (ox := ox) (od := od) X I C.mo (wpAny_pure (?_ : wpAny _ _ (handedOut (.ref D)) _ _ _)))))
  rw [handedOut_of (v := .ref D) rfl]
  first
    | exact wpAny_pure (wpAny_pure h)
    | exact wpAny_pure h
    | exact wpAny_pure (wpAny_bind (wpAny_pure (wpAny_pure h)))
theorem kitx_kept (C : XcF K D) : KitX K (.ref x) (.ref D) (fun h => ∃ (ox : Obj) (od : Option Obj), InstAt h x ox D od) := by
  obtain ⟨cd, hc, _⟩ := any_some C.hd
  unfold clsIn at hc
  split at hc
  · rename_i c' d' cd' sl' ho
    refine { ty := fun _ _ _ ⟨_, _, I⟩ => I.type, it := fun _ _ X _ A' Q' E' s' k q => ?_, ne := fun h tp dd its n sl X htp => Bool.eq_false_iff.mpr fun q => ?_, ca := fun X ⟨_, _, I⟩ k => class_exc C X I k }
    · unfold isType loadHead
      exact wpAny_bind (wpAny_loadPart (k _ _ (X _ _ ho)) (wpAny_pure q))
    · have e : D = tp := Value.ref.inj (beq_iff_eq.mp q)
      subst e
      cases (X _ _ ho).symm.trans htp
  · cases hc
end
section
variable {X : Cx} {a D : Addr} {d : Option Addr} {oD : Addr}
theorem kept_inst {pins : List (Addr × Obj)} {σ : L2.St} {H : Hp} {s : Shared} {fs : List (Str × V)} (I : Inv X pins σ H s) (ha : H a = some (KX a (.ref D) (some oD))) (hd : H oD = some (.xd fs)) :
    ∃ (ox : Obj) (od : Obj) (mA : Str → Option Value), PySem.W.InstAt s.heap a ox D (some od) ∧ s.heap.Ns1 oD mA ∧ (∀ f, RelO (fs.lookup f) (mA f)) ∧ ∀ n, PySem.W.lookIn n od = some (mA n) := by
  have x1 : ObjOk X.prog X.w H s.heap a (KX a (.ref D) (some oD)) := I.hok a _ ha
  obtain ⟨⟨ox, vs, e, z, dd⟩, _, _⟩ := x1
  have x2 : ObjOk X.prog X.w H s.heap oD (.xd fs) := I.hok oD _ hd
  obtain ⟨mA, hns, hr⟩ := x2
  obtain ⟨od, ho, hl⟩ := lookIn_ns hns
  exact ⟨ox, od, mA, ⟨e, z.1, by unfold PySem.W.notCls; rw [dd], by rw [z.2]; exact ho⟩, hns, hr, hl⟩
/-- isinstance(x, c), x a kept exception -/
def rIsK (K : PySem.W.Frag) (D : Addr) : List V → Hp → VK → Prop := fun xs H Q => ∃ (a oD : Addr) (fs : List (Str × V)) (c : V) (u : Value) (b : Bool), xs = [.ref a, c] ∧ H a = some (KX a (.ref D) (some oD)) ∧ H oD = some (.xd fs) ∧ ClsV c u ∧ PySem.W.kitOne K (.ref D) u = some b ∧ Q (.bl b) H
theorem call_isK (C : XcF X.K D) : CallR X (.builtin "isinstance") (rIsK X.K D) := by
  intro pins s σ H xs us Q I r h
  obtain ⟨a, oD, fs, c, u, b, rfl, ha, hd, hc, e, q⟩ := h
  obtain ⟨u1, u2, rfl, r1, r2⟩ := vals2 r
  cases (show u1 = Value.ref a from r1)
  have ec := hc.eq r2
  subst ec
  obtain ⟨ox, od, _, J, _⟩ := kept_inst I ha hd
  exact PySem.W.kia_one (kitx_kept C) I.kIn ⟨ox, _, J⟩ e (fun z => nomatch z) fun tk => ⟨.bl b, H, I.kept (t' := tk) fun _ _ z => z, rfl, q⟩
/-- x.f, x a kept exception -/
def tKf (D : Addr) (f : Str) (te : TE) : TE := fun σ H Q => te σ H fun x H1 => ∃ (a oD : Addr) (fs : List (Str × V)) (v : V), x = .ref a ∧ H1 a = some (KX a (.ref D) (some oD)) ∧ H1 oD = some (.xd fs) ∧ fs.lookup f = some v ∧ Q v H1
theorem pe_kf {e : Expr} {te : TE} {pos : Pos} {n : Str} (C : XcF X.K D) (hno : PySem.W.findIn X.K (.ref D) n = some none) (he : PE X e te) (hb : attributeBase e n X.env (eval e X.env) = eval e X.env := by rfl) : PE X (.Attribute e n pos) (tKf D n te) := by
  refine ⟨fun pins s σ H Q I h => attr_of hb (thn (he.run pins s σ H _ I h) fun u s1 hh => ?_)⟩
  obtain ⟨x, H1, I1, rx, a, oD, fs, v, rfl, ha, hd, l, q⟩ := hh
  cases (show u = Value.ref a from rx)
  obtain ⟨ox, od, mA, J, _, hr, hl⟩ := kept_inst I1 ha hd
  obtain ⟨u1, hu, ru⟩ := RelO.some_of (v := v) (o := mA n) (by rw [← l]; exact hr n)
  exact HandSPX.exc_get I1.kIn J C.ga C.gg C.sub (PySem.W.findObj_own C.hd hno rfl (by rw [hl, hu])) (handed_of ru) ⟨v, H1, I1.tok _, ru, q⟩
end
end MM
namespace MM
open PySem PySem.Spec PyProof.Rows L2
section
variable {K : PySem.W.Frag} {h : Heap} {mg : Str → Option Value} {x m qual : Str} {st : Stmt} {f C D CN : Addr} {b : Bool} {oc kV doc pm cdv ct : Value} {od an : Option Addr} {osl : Array (Option Value)}
/-- another class of errors, beside the class CN -/
structure Oc (K : PySem.W.Frag) (mg : Str → Option Value) (CN : Addr) (x : Str) (D : Addr) (b : Bool) : Prop where
  m : mg x = some (.ref D)
  i : PySem.W.isClsIn K D = true
  t : PySem.W.typeIn K (.ref D) = some (.type "type")
  e : PySem.W.subIn K (.ref D) (.type "BaseException") = some true
  s : PySem.W.subIn K (.ref CN) (.ref D) = some b
theorem Oc.cls (o : Oc K mg CN x D b) : PySem.W.kitCls K (.ref CN) (.ref D) = some b := by
  have iC' : (PySem.W.clsIn K D).isSome = true := o.i
  show (if ((PySem.W.clsIn K D).isSome && PySem.W.typeIn K (.ref D) == some (.type "type")) = true then PySem.W.subIn K (.ref CN) (.ref D) else none) = some b
  rw [iC', o.t, if_pos (by simp)]
  exact o.s
theorem Oc.kit (o : Oc K mg CN x D b) (hn : CN = D → b = true) : PySem.W.kitOne K (.ref CN) (.ref D) = some b := by
  unfold PySem.W.kitOne
  by_cases he : CN = D
  · rw [if_pos (by rw [he]; simp), hn he]
  · rw [if_neg (by simp [he])]
    exact o.cls
theorem Oc.exm (o : Oc K mg CN x D b) : PySem.W.exmOne K (.ref CN) (.ref D) = some b := by
  unfold PySem.W.exmOne
  rw [o.e, if_pos (by simp)]
  exact o.cls
theorem kit_typ {T : String} (m : PySem.W.kitMeta T = true) (s : PySem.W.subIn K (.ref CN) (.type T) = some b) : PySem.W.kitOne K (.ref CN) (.type T) = some b := by
  unfold PySem.W.kitOne
  rw [if_neg (by simp)]
  show (if PySem.W.kitMeta T = true then PySem.W.subIn K (.ref CN) (.type T) else none) = some b
  rw [if_pos m]
  exact s
end
end MM
namespace MM
open PySem PySem.Spec PySem.Calls PyProof.Rows L2
/-! ### own classes of errors right over a built-in one, their __init__ walked as a def -/
/-- what the written part says of the class at C, which stands right over the built-in B -/
structure OxG (K : PySem.W.Frag) (C : Addr) (B newId initId : String) (bm : List Value) : Prop where
  bf : ExcBaseFacts B newId initId bm
  sf : StoreFacts B bm "object.__setattr__" "object"
  tl : PySem.W.excTail bm bm = true
  cls : ∃ nm q N bs sn sub ab col dd k0 k1 k2 k3 k5, K.lookup C = some (excClassObj nm q C N bs bm true sn sub ab col dd k0 k1 k2 k3 k5 newId)
  sa : PySem.W.findIn K (.ref C) "__setattr__" = some (some (.builtin "object.__setattr__"))
  exC : PySem.W.subIn K (.ref C) (.type "BaseException") = some true
  tyC : PySem.W.typeIn K (.ref C) = some (.type "type")
  kC : PySem.W.keepIn K (.ref C) = true
section
variable {K : PySem.W.Frag} {C : Addr} {B newId initId : String} {bm : List Value}
theorem OxG.dat (T : OxG K C B newId initId bm) : ∃ cd, PySem.W.clsIn K C = some cd ∧ cd.mro = .ref C :: bm ∧ cd.hasDict = true := by
  obtain ⟨nm, q, N, bs, sn, sub, ab, col, dd, k0, k1, k2, k3, k5, hC⟩ := T.cls
  exact ⟨_, (by unfold PySem.W.clsIn; rw [hC] <;> rfl), rfl, rfl⟩
theorem OxG.over (T : OxG K C B newId initId bm) : PySem.W.excOver K C bm = true := by
  obtain ⟨cd, hc, hm, _⟩ := T.dat
  unfold PySem.W.excOver
  rw [hc]
  show (match cd.mro with | .ref C' :: b => C' == C && PySem.W.excTail bm b | _ => false) = true
  rw [hm]
  show (C == C && PySem.W.excTail bm bm) = true
  rw [T.tl]
  simp
theorem OxG.taker (T : OxG K C B newId initId bm) {f : Str} (hno : PySem.W.findIn K (.ref C) f = some none) : PySem.W.takerIn K C f = some none := by
  unfold PySem.W.takerIn
  rw [hno]
  rfl
end
section
variable {X : Cx} {pins : List (Addr × Obj)} {σ : L2.St} {H : Hp} {s : Shared} {a C dx : Addr} {f : Str} {y : V} {u : Value} {fs : List (Str × V)} {Q : Unit → Shared → Prop} {E : Value → Shared → Prop} {A : Around} {B newId initId : String} {bm : List Value}
/-- the first field -/
theorem gx_new (T : OxG X.K C B newId initId bm) (I : Inv X pins σ H s) (e : H a = some (exo a C none)) (hno : PySem.W.findIn X.K (.ref C) f = some none) (ry : RelV y u)
    (h : ∀ dx s', H dx = none → dx ≠ a → Inv X pins σ (L2.upd (L2.upd H dx (exd dx [(f, y)])) a (exo a C (some dx))) s' → Q () s') : wpAny (model X.prog X.w) A (setAttr (.ref a) f u) Q E s := by
  obtain ⟨cd, hcd, hmr, hhd⟩ := T.dat
  obtain ⟨t1, ho⟩ := exo_at I.hok e
  obtain ⟨hp, g, dn, t, os⟩ := s
  have key : ∀ (h' : Heap) (tk' : Nat), (∀ b o, b ≠ a → hp.get? b = some o → h'.get? b = some o) → h'.get? a = some ({ cls := .ref C, dict := some hp.objs.size, data := .fields #[.ref t1, .none, .none, .none, .bool false, .none] } : Obj) →
      h'.Ns1 hp.objs.size (fun z => if z = f then some u else none) → Q () ⟨h', g, dn, tk', os⟩ := by
    intro h' tk' k hx hn
    have nlt : ∀ {b : Addr} {o : Obj}, hp.get? b = some o → b ≠ hp.objs.size := fun q => Nat.ne_of_lt (Heap.lt_size q)
    have hnd : H hp.objs.size = none := I.hok.fresh (Nat.le_refl _)
    have dne : hp.objs.size ≠ a := (nlt ho).symm
    have na : ∀ {b : Addr}, H b = none → b ≠ a := fun n z => by
      subst z
      cases e.symm.trans n
    refine h hp.objs.size _ hnd dne (I.un (t' := tk') ⟨fun b o q n _ _ => k b o (na n) q, fun b o q n _ _ => ⟨o.slots, k b o (na n) q⟩, fun b o q n _ => ?_, fun b o q _ => ?_, fun b xs q => ?_, fun b o v q => ?_, fun b ps q => ⟨#[], ?_⟩⟩ fun b o q => ?_)
    · rw [upd_ne (na n), upd_ne (nlt q)]
      exact n
    · by_cases hb : b = a
      · exact ⟨_, by rw [hb]; exact hx⟩
      · exact ⟨o, k b o hb q⟩
    · rw [upd_ne (at_ne e q exo_tup), upd_ne (ne_of_none q hnd)]
      exact q
    · rw [upd_ne (at_ne e q exo_frz), upd_ne (ne_of_none q hnd)]
      exact q
    · rw [upd_ne (at_ne e q exo_tbl), upd_ne (ne_of_none q hnd), q]
      simp
    · by_cases hb : b = a
      · subst hb
        cases upd_same.symm.trans q
        exact exo_ok hx
      rw [upd_ne hb] at q
      by_cases hd : b = hp.objs.size
      · subst hd
        cases upd_same.symm.trans q
        exact exd_ok hn (relO_put (fs := []) ry fun g => True.intro)
      rw [upd_ne hd] at q
      refine (I.hok b o q).stay (fun c v hc z => k c v ?_ z) (fun c hc => ?_) (fun c xs hc => ?_)
      · rcases hc with hc | hc
        · exact fun z => hb (hc ▸ z)
        · exact at_ne e hc exo_own
      · rw [upd_ne (at_ne e hc exo_own), upd_ne (ne_of_none hc hnd)]
        exact hc
      · rw [upd_ne (at_ne e hc exo_tup), upd_ne (ne_of_none hc hnd)]
        exact hc
  have J : PySem.W.InstAt hp a ({ cls := .ref C, dict := none, data := .fields #[.ref t1, .none, .none, .none, .bool false, .none] } : Obj) C none := ⟨ho, rfl, rfl, trivial⟩
  refine PySem.W.set_plain I.kIn J T.sa (PySem.W.osa_openX T.sf I.kIn J T.over (T.taker hno) fun b => ?_)
  have hs : a ≠ hp.objs.size := Nat.ne_of_lt (Heap.lt_size ho)
  refine wpAny_bind (wpAny_pure (wpAny_bind (PySem.W.instanceDict_exc (t := t1) (c2 := .none) ho (PySem.W.looks_clsIn I.kIn hcd) hhd ?_)))
  refine PySem.HandSPX.store_in_new ?_ fun h' tk' hn' hsb => ?_
  · exact ⟨_, #[], _, (Heap.get?_update_ne _ _ _ _ hs.symm).trans (Heap.get?_push_at rfl rfl), rfl, fun e he => absurd he (by simp), fun _ => rfl⟩
  · refine key h' _ (fun b o hb hq => ?_) ?_ hn'
    · exact (hsb.2 b (Nat.ne_of_lt (Heap.lt_size hq))).trans ((Heap.get?_update_ne _ _ _ _ hb).trans (Heap.get?_push_of_some _ hq))
    · exact (hsb.2 a hs).trans (Heap.get?_update_self _ (Heap.get?_push_of_some _ ho) rfl)
/-- a further field -/
theorem gx_old (T : OxG X.K C B newId initId bm) (I : Inv X pins σ H s) (e : H a = some (exo a C (some dx))) (ed : H dx = some (exd dx fs)) (hl : fs.length ≤ 900) (hno : PySem.W.findIn X.K (.ref C) f = some none) (ry : RelV y u)
    (h : ∀ s', Inv X pins σ (L2.upd H dx (exd dx ((f, y) :: fs))) s' → Q () s') : wpAny (model X.prog X.w) A (setAttr (.ref a) f u) Q E s := by
  obtain ⟨t1, ho⟩ := exo_at I.hok e
  obtain ⟨mA, hns, rel⟩ := exd_at I.hok ed
  obtain ⟨hp, g, dn, t, os⟩ := s
  obtain ⟨oD, _, _, hoD, _, _⟩ := hns.count (within_of rel)
  have J : PySem.W.InstAt hp a ({ cls := .ref C, dict := some dx, data := .fields #[.ref t1, .none, .none, .none, .bool false, .none] } : Obj) C (some oD) := ⟨ho, rfl, rfl, hoD⟩
  refine PySem.W.set_plain I.kIn J T.sa (PySem.W.osa_openX T.sf I.kIn J T.over (T.taker hno) fun b => ?_)
  refine wpAny_bind (wpAny_pure (wpAny_bind ?_))
  show wpAny _ _ (instanceDict a true) _ _ _
  unfold instanceDict
  refine wpAny_bind (wpAny_loadPart ho ?_)
  obtain ⟨cd, hcd, hmr, hhd⟩ := T.dat
  dsimp only
  refine wpAny_bind ((PySem.W.looks_clsIn I.kIn hcd).at ?_)
  rw [hhd]
  refine wpAny_pure ?_
  refine PySem.OEX.store_in_old hns (within_of rel) (by rw [List.length_map]; omega) fun h' tk' hn hsb => ?_
  have hd : ∃ o, h'.get? dx = some o := by
    obtain ⟨o, _, _, e', _⟩ := hn
    exact ⟨o, e'⟩
  exact h _ (I.write (t' := tk') (x := dx) (e := dx) (o := exd dx ((f, y) :: fs)) (by rw [ed]; exact True.intro) (.inl rfl) (fun b o hb q => (hsb.2 b hb).trans q) hd (exd_ok hn (relO_put ry rel)))
/-- B.__init__(self, ..) -/
theorem gx_init {us : List Value} {Q : Value → Shared → Prop} (T : OxG X.K C B newId initId bm) (I : Inv X pins σ H s) (e : H a = some (exo a C none)) (hl : us.length ≤ sizeLine) (h : ∀ s', Inv X pins σ H s' → Q .none s') : wpAny (model X.prog X.w) A (call (.builtin initId) (.ref a :: us)) Q E s := by
  obtain ⟨nm, q, N, bs, sn, sub, ab, col, dd, k0, k1, k2, k3, k5, hC⟩ := T.cls
  obtain ⟨t1, ho⟩ := exo_at I.hok e
  obtain ⟨hp, g, dn, t, os⟩ := s
  refine wpAny_call (PySem.HandSPX.init_base T.bf (fun _ => rfl) (I.kIn _ _ hC) ho hl fun h' t2 k hx => h _ ?_)
  have J := I.write (t' := t) (x := a) (e := a) (o := exo a C none) (by rw [e]; exact True.intro) (.inl rfl) k ⟨_, hx⟩ (exo_ok hx)
  rwa [show L2.upd H a (exo a C none) = H from funext fun b => by
    by_cases hb : b = a
    · rw [hb, upd_same, e]
    · rw [upd_ne hb]] at J
end
/-! ### the rules -/
/-- B.__init__(self, ..) -/
def tBi (K : PySem.W.Frag) (B newId initId : String) (bm : List Value) (ta : TA) : TE := fun σ H Q => ta σ H fun vs H1 => ∃ (a C : Addr) (ws : List V), vs = .ref a :: ws ∧ ws.length ≤ 1000 ∧ OxG K C B newId initId bm ∧ H1 a = some (exo a C none) ∧ Q .non H1
/-- self.f = e -/
def tGs (K : PySem.W.Frag) (B newId initId : String) (bm : List Value) (f : Str) (to te : TE) : TS := fun D σ H => te σ H fun y H1 => to σ H1 fun x H2 => ∃ a C : Addr, x = .ref a ∧ OxG K C B newId initId bm ∧ PySem.W.findIn K (.ref C) f = some none ∧
  ((H2 a = some (exo a C none) ∧ ∀ dx, H2 dx = none → dx ≠ a → D.nx σ (L2.upd (L2.upd H2 dx (exd dx [(f, y)])) a (exo a C (some dx)))) ∨
    ∃ (dx : Addr) (fs : List (Str × V)), H2 a = some (exo a C (some dx)) ∧ H2 dx = some (exd dx fs) ∧ fs.length ≤ 900 ∧ D.nx σ (L2.upd H2 dx (exd dx ((f, y) :: fs))))
section
variable {X : Cx} {o e : Expr} {es : List Expr} {to te : TE} {ta : TA} {f : Str} {p p' p1 p2 pos : Pos} {B newId initId : String} {bm : List Value} {bn : Str}
theorem pe_bini {pl : Sem Bool} (hg : Gl X bn) (hm : X.mg bn = none) (hbt : bootBuiltins bn = some (.type B)) (hty : typeOf (.type B) = pure (.type "type")) (vV : PySem.W.findCls X.K (.type B) (.type "type") "__init__" = some (.val (.builtin initId))) (ha : PA X (e :: es) ta)
    (hn : bn ≠ "__name__" := by decide) (hdb : (bn == ("__debug__" : Str)) = false := by decide) (hst : Manifest.isStub B = false := by decide +kernel) (hha : PySem.W.handedIn (.builtin initId) = true := by decide +kernel)
    (hc : eval (.Call (.Attribute (.Name bn p1) "__init__" p2) (e :: es) [] pos) X.env = (do
      let v0 ← eval (.Name bn p1) X.env
      standAt p2.atName
      let (f, first) ← holding [v0] (getMethod v0 "__init__" pl)
      callWith pos f first (backTo pos (starEach (e :: es) X.env)) (backToKw pos (keywordEach [] X.env))) := by rfl)
    (he : starEach (e :: es) X.env = (false, eval e X.env) :: starEach es X.env := by rfl) (hpl : (backTo pos (starEach es X.env)).any (·.1) = false := by rfl) :
    PE X (.Call (.Attribute (.Name bn p1) "__init__" p2) (e :: es) [] pos) (tBi X.K B newId initId bm ta) := by
  refine ⟨fun pins s σ H Q I h => ?_⟩
  refine PySem.W.methodCall_KW (ld_blt I hg hm hbt ?_ hn hdb) hc
  obtain ⟨m, fr⟩ := I.fr
  refine PySem.W.method_type fr I.ok.mod.kin hty hst vV hha ?_
  show wpAny _ _ (callWith pos (Value.builtin initId) [] (backTo pos (starEach (e :: es) X.env)) []) _ _ _
  refine PyProof.Rows.callWith_method1 (thn (ha.run pos pins _ σ H _ (I.tok _) h) fun us s1 hh => ?_) he hpl
  obtain ⟨vs, H1, I1, r1, a, C, ws, rfl, hl, T, ea, q⟩ := hh
  cases r1 with
  | @cons _ u0 _ ur ra rr =>
    cases (show u0 = Value.ref a from ra)
    exact gx_init T I1 ea (by rw [← Paired.length rr, sizeLine_eq]; omega) fun s' J => ⟨.non, H1, J, rfl, q⟩
theorem ps_gst (ho : PE X o to) (he : PE X e te) (hs : swapsWith e (some (.Attribute o f p')) pos.line X.env = pure false := by rfl) : PS X (.Assign [.Attribute o f p'] e pos) (tGs X.K B newId initId bm f to te) := by
  refine ⟨fun pins s σ H D I h => ?_⟩
  refine plainObj_wpAny_Assign_Attribute (thn (he.run pins s σ H _ I h) fun v s1 ⟨y, H1, I1, r1, q1⟩ => thn (ho.run pins s1 σ H1 _ I1 q1) fun u s2 hh => ?_) hs
  obtain ⟨x, H2, I2, r2, a, C, rfl, T, hno, q⟩ := hh
  cases (show u = Value.ref a from r2)
  rcases q with ⟨ea, q⟩ | ⟨dx, fs, ea, ed, hl, q⟩
  · exact gx_new T I2 ea hno r1 fun dx s' n ne J => ⟨σ, _, J, q dx n ne⟩
  · exact gx_old T I2 ea ed hl hno r1 fun s' J => ⟨σ, _, J, q⟩
/-- C(e, ..), C's own __init__ keeping sp -/
theorem pmk_g {CX : CXT} {x : Str} {C fI : Addr} {k : Nat} {fd : FuncData} {ps : List Str} {sp : Sp} {ds : List Value} {dvs : List V} (T : OxG X.K C B newId initId bm) (iC : PySem.W.findIn X.K (.ref C) "__init__" = some (some (.ref fI))) (tI : PySem.W.typeIn X.K (.ref fI) = some (.type "function"))
    (F1 : FnOk X.prog X.w X.K X.mg X.base CX k fI fd ps sp) (hr : Room (k + 1) X.A) (hb : Binds X.K fd ps ds) (hd : Vals dvs ds) (hx : Passes CX X (fun _ _ _ => False)) (hg : Gl X x) (hm : X.mg x = some (.ref C)) (ha : PA X (e :: es) ta)
    (hdb : (x == ("__debug__" : Str)) = false := by decide) (he : starEach (e :: es) X.env = (false, eval e X.env) :: starEach es X.env := by rfl) (hpl : (backTo pos (starEach es X.env)).any (·.1) = false := by rfl) : PMk X (.Call (.Name x p) (e :: es) [] pos) (tMkO C sp dvs ta) := by
  intro pins s σ H Q I h
  obtain ⟨nm, q, N, bs, sn, sub, ab, col, dd, k0, k1, k2, k3, k5, hC⟩ := T.cls
  refine wpAny_Call_Name_kw (ld_glob I hg hm ?_ hdb)
  refine PySem.W.callWith_K (h₀ := X.base) I.ok.mod.kin T.kC (thn (ha.run pos pins s σ H _ I h) fun us s1 hh => ?_) he hpl
  obtain ⟨vs, H1, I1, r1, hz, q1⟩ := hh
  refine ⟨I1.kIn, ?_⟩
  show wpAny _ _ (call (.ref C) us) _ _ _
  obtain ⟨hp, g, dr, tk, os⟩ := s1
  have le1 : hp.objs.size ≤ hp.objs.size + 1 := Nat.le_succ _
  have hq := q1 (hp.objs.size + 1) (I1.hok.fresh le1)
  have grow : ∀ b o', hp.get? b = some o' → ((hp.push (PySem.W.kdv_tup us)).push (PySem.HandSPX.excO C hp.objs.size)).get? b = some o' := fun b o' z => Heap.get?_push_of_some _ (Heap.get?_push_of_some _ z)
  have got : ((hp.push (PySem.W.kdv_tup us)).push (PySem.HandSPX.excO C hp.objs.size)).get? (hp.objs.size + 1) = some (PySem.HandSPX.excO C hp.objs.size) := by heap_get
  have I2 := I1.laid (t' := tk) (a := hp.objs.size + 1) (o := exo (hp.objs.size + 1) C none) (h' := (hp.push (PySem.W.kdv_tup us)).push (PySem.HandSPX.excO C hp.objs.size)) grow le1 (exo_ok got)
  have r2 : Vals (V.ref (hp.objs.size + 1) :: (vs ++ dvs)) (Value.ref (hp.objs.size + 1) :: (us ++ ds)) := .cons rfl (r1.append hd)
  have hl : (Value.ref (hp.objs.size + 1) :: us ++ ds).length = ps.length := r2.length.symm.trans (F1.len _ _ _ _ hq)
  have hus : us.length ≤ sizeLine := by rw [← Paired.length r1, sizeLine_eq]; omega
  refine wpAny_call (PySem.HandSPX.call_own T.bf (fun _ => rfl) (I1.kIn _ _ hC) (PySem.W.looks_findIn I1.kIn iC) (fun self => PySem.W.bind_fn I1.kIn self tI) hus (codeAny_mono (F1.run _ X.stack _ _ ⟨Value.ref (hp.objs.size + 1) :: us, []⟩ (Value.ref (hp.objs.size + 1) :: (us ++ ds)) _ _ (fun _ _ _ => False)
    (hr.make C us []) (I2.env0.make C us []) (hb _ (Value.ref (hp.objs.size + 1) :: us) I2.kIn hl) r2 hq) fun r s' hq' => ?_))
  match r, hq' with
  | .error er, hq' => exact hx pins σ _ _ er s' I2 hq'
  | .ok .next, hq' => exact hq'.elim
  | .ok .brk, hq' => exact hq'.elim
  | .ok .cont, hq' => exact hq'.elim
  | .ok (.ret u), hq' =>
    obtain ⟨v, H2, os2, bare2, un2, hok2, rv, rfl, d, fs, ea, ed, hd1, q2⟩ := hq'
    obtain ⟨h2, g2, d2, t2, os'⟩ := s'
    exact ⟨rv, mk_end (raises_own T.exC T.tyC) I1 le1 grow un2 hok2 os2 bare2 ea ed hd1 q2⟩
end
end MM
namespace MM
open PySem PySem.Spec PySem.Calls PyProof.Rows L2
/-! ### str(x) of an instance with its own __str__ -/
def rStrO (C : Addr) (sp : Sp) (E : XK) : List V → Hp → VK → Prop := fun xs H Q => ∃ (a dx : Addr) (fs : List (Str × V)), xs = [.ref a] ∧ H a = some (.ins C dx fs) ∧ sp [.ref a] H (fun v H' => ∃ x : Str, v = .str x ∧ Q (.str x) H') E
section
variable {X : Cx} {CX : CXT} {k : Nat} {C f : Addr} {fd : FuncData} {ps : List Str} {sp : Sp} {E : XK}
theorem call_strO (F : FnOk X.prog X.w X.K X.mg X.base CX k f fd ps sp) (hs : PySem.W.findIn X.K (.ref C) "__str__" = some (some (.ref f))) (hf : PySem.W.isFn X.K (.ref f) = true) (hb : Binds X.K fd ps []) (hx : Passes CX X E) (hr : Room (k + 2) X.A) : CallR X (.type "str") (rStrO C sp E) := by
  intro pins s σ H xs us Q I r h
  obtain ⟨a, dx, fs, rfl, ha, hq⟩ := h
  obtain ⟨u, rfl, r1⟩ := vals1 r
  cases (show u = Value.ref a from r1)
  obtain ⟨mA, J, _⟩ := ins_get I.hok ha
  obtain ⟨od, J, _⟩ := J.look
  have hr1 : Room (k + 1) X.A.in1 := hr.in1
  have hr2 : Room k X.A.in1.in1 := hr1.in1
  have hl : ([Value.ref a] ++ []).length = ps.length := (show ([V.ref a] : List V).length = _ from F.len _ _ _ _ hq)
  refine PySem.W.kso_call hr2.units0 I.kIn J hs hf (wpAny_call (codeAny_mono (F.run X.A.in1.in1 X.stack s H ⟨[.ref a], []⟩ [.ref a] [.ref a] _ E hr2 I.env0.in1.in1 (hb s [.ref a] I.kIn hl) (.cons rfl .nil) hq) fun res s' hres => ?_))
  match res, hres with
  | .error er, hres => exact hx pins σ H s er s' I hres
  | .ok .next, hres => exact hres.elim
  | .ok .brk, hres => exact hres.elim
  | .ok .cont, hres => exact hres.elim
  | .ok (.ret u), hres =>
    obtain ⟨z, H', I', rz, x, rfl, q⟩ := I.after hres
    obtain ⟨t, rfl⟩ := rz
    exact ⟨.str x, H', I', ⟨t, rfl⟩, q⟩
/-- x == y by x's own __eq__, whatever y is -/
def rEqO (K : PySem.W.Frag) (C : Addr) (sp : Sp) (E : XK) : R2 := fun x y H Q => ∃ (a dx : Addr) (fs : List (Str × V)) (t : Value), x = .ref a ∧ H a = some (.ins C dx fs) ∧ TyX K H y t ∧ PySem.W.notFirst K C t = true ∧ sp [.ref a, y] H (fun v H' => ∃ b : Bool, v = .bl b ∧ Q (.bl b) H') E
theorem op_eqO (F : FnOk X.prog X.w X.K X.mg X.base CX k f fd ps sp) (hs : PySem.W.findIn X.K (.ref C) "__eq__" = some (some (.ref f))) (hf : PySem.W.isFn X.K (.ref f) = true) (hb : Binds X.K fd ps []) (hx : Passes CX X E) (hr : Room k X.A) : OpR X (compareOp .Eq) (rEqO X.K C sp E) := by
  intro pins s σ H x y v u Q I rx ry h
  obtain ⟨a, dx, fs, t, rfl, ha, ty, nf, hq⟩ := h
  cases (show v = Value.ref a from rx)
  obtain ⟨mA, J, _⟩ := ins_get I.hok ha
  obtain ⟨od, J, _⟩ := J.look
  obtain ⟨P, kx, hP, _⟩ := kit_of I ry ty
  obtain ⟨m, fr⟩ := I.fr
  have hl : ([Value.ref a, u] ++ []).length = ps.length := (show ([V.ref a, y] : List V).length = _ from F.len _ _ _ _ hq)
  show wpAny (model X.prog X.w) X.A (richCompare .Eq (.ref a) u) _ _ s
  refine PySem.W.cmp_K (op := .Eq) hr.units0 fr I.ok.mod.kin J (kx.ty _ _ I.kIn hP) nf hs hf (wpAny_call (codeAny_mono (F.run X.A X.stack s H ⟨[.ref a, u], []⟩ [.ref a, u] [.ref a, y] _ E hr I.env0 (hb s [.ref a, u] I.kIn hl) (.cons rfl (.cons ry .nil)) hq) fun res s' hres => ?_))
  match res, hres with
  | .error er, hres => exact hx pins σ H s er s' I hres
  | .ok .next, hres => exact hres.elim
  | .ok .brk, hres => exact hres.elim
  | .ok .cont, hres => exact hres.elim
  | .ok (.ret z0), hres =>
    obtain ⟨z, H', I', rz, b, rfl, q⟩ := I.after hres
    cases (show z0 = Value.bool b from rz)
    exact ⟨.bl b, H', I', rfl, q⟩
end
end MM
namespace MM
open PySem PySem.Spec PyProof.Rows L2
/-! ### sep.join(reversed(xs)) -/
theorem strs_of : ∀ {zs : List Str} {l : List Value}, Vals (zs.map V.str) l → StrsAre l zs
  | [], _, h => by
    cases h
    exact .nil
  | z :: zs, _, h => by
    cases h with
    | cons a r =>
      obtain ⟨t, rfl⟩ := a
      exact .cons z t (strs_of r)
section
variable {prog : Program} {w : World} {A : Around} {E : Value → Shared → Prop} {s : Shared}
theorem join_rev {x : Str} {t : Tok} {ys : List Str} {it l : Addr} {items : Array Value} {Q : Value → Shared → Prop} (hh : A.handled = none) (hit : s.heap.IsRevIter it l ((items.size : Int) - 1)) (hl : s.heap.IsList l items) (hne : l ≠ it) (hn : items.size ≤ sizeLine)
    (hP : ∀ acc : Array Value, ItemsOf (fun i v => items[items.size - 1 - i]? = some v) acc items.size → StrsAre acc.toList ys) (hok : (ys.map (·.length)).sum + ys.length * x.length ≤ 16777216)
    (hq : ∀ (h' : Heap) (t' : Tok) (k : Nat), (∀ b o, b ≠ it → s.heap.get? b = some o → h'.get? b = some o) → Q (.str (Txt.join x ys) t') { s with heap := h', toks := k }) :
    wpAny (model prog w) A (call (.builtin "str.join") [.str x t, .ref it]) Q E s := by
  refine wpAny_call (codeAny_call_builtin F.slot_str_join.plain F.entry_str_join (F.slot_str_join.check _ _ _ _ _ _ _ _ (typeIs_str _ _ _) (F.args_str_join_2 _ _) ?_))
  rw [join_tree_other]
  refine wpAny_bind (wpAny_typeOf (Heap.IsRevIter.typeIs hit) ?_)
  show wpAny _ A.in1 ((pyIter (.ref it)).tryCatch _ >>= fun i0 => collect i0 >>= fun c0 => joinTail x c0) _ _ s
  refine wpAny_bind (wpAny_tryCatch (wpAny_pyIter_revIter hit ?_))
  refine wpAny_bind (RT.collect_rev (A := A.in1) hh hit hl hne hn fun h' tk acc hk hacc => ?_)
  obtain ⟨l0, h0, e0⟩ := strsAre_values (hP acc hacc)
  subst e0
  rw [h0]
  have fit := joinOk_of hok
  unfold JoinOk at fit
  rw [Bool.not_eq_true'] at fit
  have g : Gives (joinTail x (strValues l0)) (joinMade x l0) := by
    have g0 := gives_joinTail x l0 fit
    rcases l0 with _ | ⟨p, _ | ⟨q, r⟩⟩ <;> exact g0
  exact g prog w A (wants Q E) _ (post_join l0 ⟨joinFit_length fit, fun t' k => hq h' t' k hk⟩)
end
section
variable {X : Cx}
def tJoinRev (K : PySem.W.Frag) (to te : TE) : TE := fun σ H Q => to σ H fun x H1 => (∃ a, x = .str a) ∧ te σ H1 fun v H2 => ∃ (a : Str) (q : Addr) (ys : List Str), x = .str a ∧ v = .ref q ∧ SqL K H2 q (ys.map V.str) ∧ (ys.reverse.map (·.length)).sum + ys.reverse.length * a.length ≤ 16777216 ∧ Q (.str (Txt.join a ys.reverse)) H2
theorem pe_joinRev {o e : Expr} {to te : TE} {apos pos p pos2 : Pos} (hc : X.calm = true) (ho : PE X o to) (hg : Gl X "reversed") (hm : X.mg "reversed" = none) (he : PE X e te)
    (hs1 : starEach [.Call (.Name "reversed" p) [e] [] pos2] X.env = [(false, eval (.Call (.Name "reversed" p) [e] [] pos2) X.env)] := by rfl) (hs : starEach [e] X.env = (false, eval e X.env) :: starEach [] X.env := by rfl)
    (hbase : attributeBase o "join" X.env (eval o X.env) = eval o X.env := by rfl) (hline : (apos.endLine == pos.line) = true := by rfl) :
    PE X (.Call (.Attribute o "join" apos) [.Call (.Name "reversed" p) [e] [] pos2] [] pos) (tJoinRev X.K to te) := by
  refine ⟨fun pins s σ H Q I h => ?_⟩
  refine PySem.Call_method1 hbase hs1 hline (thn (ho.run pins s σ H _ I h) fun v s1 hh => ?_)
  obtain ⟨x, H1, I1, r1, ⟨a, rfl⟩, q1⟩ := hh
  obtain ⟨t, rfl⟩ := _root_.id r1
  refine ⟨"str", _, F.plainAttrs_str, F.slot_str_join, F.type_str_join, typeIs_str _ _ _, (fun _ e => nomatch e), Calls.callWith_builtin rfl (Calls.evalArgs_plain (Calls.spliced_cons ?_))⟩
  refine Call_ (ld_blt I1 hg hm PyProof.Rows.boot_reversed (PyProof.Rows.callWith_type1 (args_cons (thn (he.run pins s1 σ H1 _ I1 q1) fun u s2 hh => args_nil ?_) hs) hs rfl))
  obtain ⟨v, H2, I2, r2, a', q, ys, ea, rfl, hq, hz, q2⟩ := hh
  cases ea
  cases (show u = Value.ref q from r2)
  obtain ⟨its, rv, p', hsz⟩ := I2.list hq
  refine call_reversed_list p'.isList ?_
  have grow : ∀ b o, s2.heap.get? b = some o → (s2.heap.push (revObj q ((its.toArray.size : Int) - 1))).get? b = some o := fun b o z => Heap.get?_push_of_some _ z
  have I3 : Inv X pins σ H2 { s2 with heap := s2.heap.push (revObj q ((its.toArray.size : Int) - 1)) } := I2.kept (t' := s2.toks) grow
  obtain ⟨f0, f1, f2, f3, f4, f5⟩ := I2.fpOk (H' := H2) (b := s2.heap.objs.size) (Nat.le_refl _) (I2.hok.fresh (Nat.le_refl _))
  have hl := p'.isList
  obtain ⟨ol, hol, _⟩ := _root_.id hl
  have hne : q ≠ s2.heap.objs.size := Nat.ne_of_lt (Heap.lt_size hol)
  have hn : its.toArray.size ≤ sizeLine := by rw [List.size_toArray, ← rv.length]; exact hsz
  refine Calls.spliced_nil ?_
  refine join_rev (s := { s2 with heap := s2.heap.push (revObj q ((its.toArray.size : Int) - 1)) }) (ys := ys.reverse) (I2.ok.hd hc) ⟨_, Heap.get?_push_size _ rfl, rfl, rfl⟩ (hl.push _) hne hn (fun acc hacc => strs_of ?_) hz fun h' t' k hk => ?_
  · rw [List.map_reverse]
    exact RT.vals_rev rv hacc
  · exact ⟨.str _, H2, I3.turned (t' := k) (fun b o hb z => hk b o hb z) f0 f1 f3 f4 f5, ⟨t', rfl⟩, q2⟩
end
end MM
namespace MM
open PySem PySem.Spec PySem.Calls PyProof.Rows L2
section
variable {X : Cx} {CX : CXT} {k j : Nat} {C : Addr} {qual : Str} {st : Stmt} {ps : List Str} {sp : Sp} {E : XK}
/-- x == y by the __eq__ of x's class -/
theorem op_eqC (c : Cm X.prog X.w X.K X.mg X.base CX k C "__eq__" qual st ps sp) (b : Bd "__eq__" qual st ps) (hx : Passes CX X E) (hr : Room j X.A) (hk : k ≤ j) : OpR X (compareOp .Eq) (rEqO X.K C sp E) := by
  obtain ⟨f, fd, F, M, hc, G⟩ := c.ex
  exact op_eqO G M.1 M.2 (F.bindsN b) hx (hr.mono hk)
theorem nf_self {K : PySem.W.Frag} {C : Addr} : PySem.W.notFirst K C (.ref C) = true := by
  unfold PySem.W.notFirst
  simp
end
end MM
namespace MM
open PySem PySem.Spec PyProof.Rows L2
theorem no' {A B : Prop} {b : Bool} (hb : b = false) (h : B) : if b = true then A else B := by
  subst hb
  exact iteF h
theorem upd_keep {H H1 : Hp} {D : Addr} {o : HO} (nD : H D = none) (s : Same H H1) : Same H (L2.upd H1 D o) := fun b u e => by
  rw [upd_ne (ne_of_none e nD)]
  exact s b u e
section
variable {J : It} {n : Nat} {G : Hp → Prop} {Y : Nat → Hp → V → Hp → Prop}
/-- a comprehension without a test whose i-th thing has Ps i -/
theorem lc_all (w : Walk J n G Y) (hY : ∀ i H x H', Y i H x H' → Same H H') {g : TG} {te : TE} {vs : List Nat} {σ : L2.St} {H : Hp} {D : Addr} {Qd : Hp → Prop} (nD : H D = none) (hn : n < sizeLine) (Ps : Nat → V → Hp → Prop)
    (hm : ∀ j v H1 H2, Same H1 H2 → Ps j v H1 → Ps j v H2) (hp : ∀ j v H1 acc acc', H1 D = some (.lst acc) → Ps j v H1 → Ps j v (L2.upd H1 D (.lst acc'))) (hG : ∀ H', Same H H' → G H')
    (hs : ∀ i x H1 H2 (R : V → Hp → Prop), i < n → Same H H1 → Y i H1 x H2 → (∀ v H3, Same H2 H3 → Ps i v H3 → R v H3) → g x (wipe σ vs) H2 fun σ2 H3 => wipe σ2 vs = wipe σ vs ∧ te σ2 H3 R)
    (hd : ∀ (us : List V) H', us.length = n → H' D = some (.lst us) → Same H H' → (∀ j v, us[j]? = some v → Ps j v H') → Qd H') :
    ∃ W : Nat → Nat → Hp → Prop, (∃ m, W 0 m (L2.upd H D (.lst []))) ∧ ∀ i m H, W i m H →
      (J.stop i H ∧ Qd H) ∨ (J.go i H ∧ ∃ Nx : Hp → Prop, (∀ H', Nx H' → ∃ m', m' < m ∧ W (i + 1) m' H') ∧ ∀ x H', J.yld i H x H' → g x (wipe σ vs) H' fun σ2 H2 => wipe σ2 vs = wipe σ vs ∧ tYes σ2 H2 fun b H3 =>
        if b = true then te σ2 H3 fun y H4 => ∃ acc, H4 D = some (.lst acc) ∧ acc.length < sizeLine ∧ Nx (L2.upd H4 D (.lst (acc ++ [y]))) else Nx H3) := by
  refine lc_it w (fun i H' => ∃ us : List V, us.length = i ∧ H' D = some (.lst us) ∧ Same H H' ∧ ∀ j v, us[j]? = some v → Ps j v H') ⟨[], rfl, upd_same, upd_keep nD (Same.refl H), fun j v h => by simp at h⟩ (fun i H' _ ⟨_, _, _, s, _⟩ => hG H' s) ?_ (fun H' ⟨us, l, e, s, p⟩ => hd us H' l e s p)
  rintro i x H1 H2 hi ⟨us, hl, e, s, p⟩ y
  refine hs i x H1 H2 _ hi s y fun v H3 s3 pv => ?_
  have s2 := hY _ _ _ _ y
  have e3 := s3 _ _ (s2 _ _ e)
  refine ⟨us, e3, by omega, us ++ [v], by rw [List.length_append, hl]; rfl, upd_same, upd_keep nD (s.trans (s2.trans s3)), fun j u hj => ?_⟩
  by_cases hjl : j < us.length
  · rw [List.getElem?_append_left hjl] at hj
    exact hp _ _ _ _ _ e3 (hm _ _ _ _ (s2.trans s3) (p j u hj))
  · rw [List.getElem?_append_right (by omega)] at hj
    have ej : j = us.length := by
      by_cases hz : j - us.length = 0
      · omega
      · have : ([v] : List V)[j - us.length]? = none := List.getElem?_eq_none_iff.mpr (by simp; omega)
        rw [this] at hj
        cases hj
    subst ej
    rw [Nat.sub_self] at hj
    cases hj
    rw [hl]
    exact hp _ _ _ _ _ e3 pv
/-- a comprehension whose i-th thing is the whole number f i -/
theorem lc_ints (w : Walk J n G Y) (hY : ∀ i H x H', Y i H x H' → Same H H') {g : TG} {te : TE} {vs : List Nat} {σ : L2.St} {H : Hp} {D : Addr} {Qd : Hp → Prop} (nD : H D = none) (hn : n < sizeLine) (f : Nat → Int) (hG : ∀ H', Same H H' → G H')
    (hs : ∀ i x H1 H2 (R : V → Hp → Prop), i < n → Same H H1 → Y i H1 x H2 → (∀ H3, Same H2 H3 → R (.int (f i)) H3) → g x (wipe σ vs) H2 fun σ2 H3 => wipe σ2 vs = wipe σ vs ∧ te σ2 H3 R)
    (hd : ∀ H', H' D = some (.lst (((List.range n).map f).map V.int)) → Same H H' → Qd H') :
    ∃ W : Nat → Nat → Hp → Prop, (∃ m, W 0 m (L2.upd H D (.lst []))) ∧ ∀ i m H, W i m H →
      (J.stop i H ∧ Qd H) ∨ (J.go i H ∧ ∃ Nx : Hp → Prop, (∀ H', Nx H' → ∃ m', m' < m ∧ W (i + 1) m' H') ∧ ∀ x H', J.yld i H x H' → g x (wipe σ vs) H' fun σ2 H2 => wipe σ2 vs = wipe σ vs ∧ tYes σ2 H2 fun b H3 =>
        if b = true then te σ2 H3 fun y H4 => ∃ acc, H4 D = some (.lst acc) ∧ acc.length < sizeLine ∧ Nx (L2.upd H4 D (.lst (acc ++ [y]))) else Nx H3) := by
  refine lc_all w hY nD hn (fun i v _ => v = .int (f i)) (fun _ _ _ _ _ h => h) (fun _ _ _ _ _ _ h => h) hG (fun i x H1 H2 R hi s y k => hs i x H1 H2 R hi s y fun H3 s3 => k _ H3 s3 rfl) fun us H' l e s p => ?_
  have eu : us = ((List.range n).map f).map V.int := by
    refine List.ext_getElem? fun j => ?_
    by_cases hj : j < us.length
    · have h1 := List.getElem?_eq_getElem hj
      rw [h1, p j _ h1]
      rw [List.getElem?_map, List.getElem?_map, List.getElem?_range (by omega)]
      rfl
    · rw [List.getElem?_eq_none_iff.mpr (by omega), List.getElem?_eq_none_iff.mpr (by simp; omega)]
  subst eu
  exact hd H' e s
end
theorem yFn_same {f : Nat → V} : ∀ i H x H', YFn f i H x H' → Same H H' := fun _ _ _ _ h => by rw [h.1]; exact Same.refl _
theorem yAt_same {xs : List V} : ∀ i H x H', YAt xs i H x H' → Same H H' := fun _ _ _ _ h => by rw [h.1]; exact Same.refl _
theorem yPair_same {xs ys : Nat → Option V} : ∀ i H x H', YPair xs ys i H x H' → Same H H' := by
  rintro i H x H' ⟨T, a, b, rfl, nT, rfl, _⟩
  exact upd_keep nT (Same.refl H)
/-! ### lists of whole numbers, compared -/
theorem dps_ints {K : PySem.W.Frag} {H : Hp} : ∀ ns : List Int, DpAll K H (ns.map V.int) (ns.map PyData.int)
  | [] => .nil
  | n :: ns => .cons (.int n) (dps_ints ns)
theorem dp_ints {K : PySem.W.Frag} {H : Hp} {a : Addr} {ns : List Int} (h : H a = some (.lst (ns.map V.int))) : Dp K H (.ref a) (.list (ns.map PyData.int)) := .lst (SqL.of h) (dps_ints ns)
theorem lay_ints : ∀ ns : List Int, PyData.canLayAll0 (ns.map PyData.int) = true
  | [] => rfl
  | n :: ns => by
    rw [List.map_cons, PyData.canLayAll0, lay_ints ns]
    rfl
theorem dep_ints : ∀ ns : List Int, PyData.depthAll (ns.map PyData.int) ≤ 1
  | [] => by simp [PyData.depthAll]
  | n :: ns => by
    have h := dep_ints ns
    simp only [List.map_cons, PyData.depthAll, PyData.depth]
    omega
theorem sh_ints (ns : List Int) : SeqAt.shaped (.list (ns.map PyData.int)) = true := by
  have h := dep_ints ns
  show (PyData.canLay0 (.list (ns.map PyData.int)) && decide (PyData.depth (.list (ns.map PyData.int)) ≤ 64)) = true
  rw [Bool.and_eq_true]
  refine ⟨by simp only [PyData.canLay0]; exact lay_ints ns, decide_eq_true ?_⟩
  simp only [PyData.depth]
  omega
theorem eqv_intL (ns : List Int) : PyData.eqv (.list (ns.map PyData.int)) (.list (ns.map PyData.int)) = true := SeqAt.eqv_refl _ (by simp only [PyData.canLay0]; exact lay_ints ns)
/-! ### steps from each to the next -/
def stp (f : Nat → Int) (n : Nat) : List Int := (List.range n).map fun i => f (i + 1) - f i
theorem stp_sum (f : Nat → Int) : ∀ n, (stp f n).sum = f n - f 0
  | 0 => by simp [stp]
  | n + 1 => by
    have h := stp_sum f n
    unfold stp at *
    rw [List.range_succ, List.map_append, List.sum_append, h]
    simp
    omega
end MM
namespace MM
open PySem PySem.Spec PySem.Calls PyProof.Rows L2
/-! ### x != y where the class has an own __eq__ and no __ne__ -/
section
variable {prog : Program} {w : World} {A : Around} {E : Value → Shared → Prop} {s : Shared} {K : PySem.W.Frag} {x C L f : Addr} {h₀ : Heap} {m : Str → Option Value} {ox : Obj} {od : Option Obj} {name : Str} {b tb : Value}
theorem ifBound_B {M : Model} {id : String} {args : List Value} {Q : Option Value → Shared → Prop} (X : K.In s.heap) (I : PySem.W.InstAt s.heap x ox C od) (hs : PySem.W.findIn K (.ref C) name = some (some (.builtin id))) (S : Slot "object" name id)
    (h : wpAny M A (call (.builtin id) (.ref x :: args)) (fun v => Q (some v)) E s) : wpAny M A (callSpecialIfBound? (.ref x) name args) Q E s := by
  simp only [callSpecialIfBound?, bindSpecialIfBound?]
  refine wpAny_holding (wpAny_bind (wpAny_bind (wpAny_bind (I.type.here ((PySem.W.looks_findIn X hs).here ?_)))))
  simp only [S.bind]
  refine wpAny_bind (wpAny_askSetting (wpAny_ite ?_))
  have fin : wpAny M A (call (.builtin id) ([.ref x] ++ args) >>= fun v => pure (some v)) Q E s := wpAny_bind (wpAny_mono h (fun v s' h' => wpAny_pure h') fun _ _ h' => h')
  split
  · exact wpAny_bind (wpAny_pure (wpAny_pure fin))
  · exact wpAny_tryCatch (wpAny_bind (wpAny_pure (wpAny_pure fin)))
theorem objNe_own {Q : Fin → Shared → Prop} (X : K.In s.heap) (I : PySem.W.InstAt s.heap x ox C od) (hs : PySem.W.findIn K (.ref C) "__eq__" = some (some (.ref f))) (hf : PySem.W.isFn K (.ref f) = true) (hu : A.units < cLine)
    (hcall : wpAny (model prog w) A (call (.ref f) [.ref x, b]) (fun v s' => ∃ r, v = .bool r ∧ Q (.done (.ret (.bool (!r)))) s') E s) :
    wpAny (model prog w) A (Builtin.«object.__ne__» ⟨[.ref x, b], []⟩) Q E s := by
  obtain ⟨h, g, d, t, os⟩ := s
  unfold Builtin.«object.__ne__»
  repeat (first
    | with_reducible refine wpAny_cRoomFor hu ?_
    | (refine wpAny_bind (m := callSpecialIfBound? (.ref x) (Str.ofString "__eq__") [b])
        (PySem.W.ifBound_K X I hs hf (wpAny_mono hcall (fun r s' hr => by
          obtain ⟨b, rfl, hq⟩ := hr
          repeat (first | exact hq | exact wpAny_pure hq | exact wpAny_truthy_bool hq | (refine wpAny_bind (m := truthy (.bool _)) (wpAny_truthy_bool ?_)) | wp_step)) fun _ _ e => e)))
    | wp_step)
/-- what the written part says of such a class -/
structure NeT (K : PySem.W.Frag) (C : Addr) : Prop where
  ne : PySem.W.findIn K (.ref C) "__ne__" = some (some (.builtin "object.__ne__"))
  cls : ∃ nm q N bs hd sn sub ab col dd k0 k1 k2 k3 k5 nw, K.lookup C = some (excClassObj nm q C N bs [.type "object"] hd sn sub ab col dd k0 k1 k2 k3 k5 nw)
theorem ne_K {Q : Value → Shared → Prop} (T : NeT K C) (hu : A.units + 1 < cLine) (F : Fr h₀ L s.heap m) (X₀ : K.In h₀) (I : PySem.W.InstAt s.heap x ox C od) (hb : PySem.W.Looks (model prog w) s.heap (typeOf b) tb) (hn : PySem.W.notFirst K C tb = true)
    (hs : PySem.W.findIn K (.ref C) "__eq__" = some (some (.ref f))) (hf : PySem.W.isFn K (.ref f) = true)
    (h : wpAny (model prog w) A.in1 (call (.ref f) [.ref x, b]) (fun v s' => ∃ r, v = .bool r ∧ Q (.bool (!r)) s') E s) : wpAny (model prog w) A (richCompare .NotEq (.ref x) b) Q E s := by
  have X := X₀.keeps F.keep
  obtain ⟨nm, q, N, bs, hd, sn, sub, ab, col, dd, k0, k1, k2, k3, k5, nw, hC⟩ := T.cls
  have one : wpAny (model prog w) A (tryCompare (.ref x) "__ne__" b) (fun r s' => ∃ v, r = some v ∧ Q v s') E s := by
    unfold tryCompare
    obtain ⟨hp, g, d, t, os⟩ := s
    refine wpAny_bind (ifBound_B X I T.ne PySem.F.cmp_object.ne (wpAny_call (codeAny_call_builtin PySem.F.cmp_object.ne.plain PySem.F.cmpEntry_ne (wpAny_check_slot_inst PySem.F.cmpKind_ne PySem.F.cmpSplit_ne (PySem.F.cmpArgs_ne _ _) PySem.F.cmp_object.hasObject I.at_ I.cls (X _ _ hC) (objNe_own (A := A.in1) X I hs hf hu (wpAny_mono h (fun v s' hv => ?_) fun _ _ e => e))))))
    obtain ⟨r, rfl, hq⟩ := hv
    first | exact ⟨r, rfl, wpAny_pure ⟨_, rfl, hq⟩⟩ | exact ⟨r, rfl, wpAny_pure (wpAny_pure ⟨_, rfl, hq⟩)⟩ | exact ⟨r, rfl, ⟨_, rfl, hq⟩⟩
  unfold richCompare
  simp only [oneThing_ref]
  refine wpAny_holding (wpAny_bind (wpAny_cRoomFor (Nat.lt_of_succ_lt hu) ?_))
  refine wpAny_bind (I.type.here (wpAny_bind (hb.here ?_)))
  split
  · rename_i q
    have e : PySem.W.subIn K tb (.ref C) = some false := by
      rcases Bool.or_eq_true_iff.mp hn with e | e
      · rw [beq_iff_eq.mp e] at q
        simp at q
      · exact beq_iff_eq.mp e
    refine wpAny_bind ((PySem.W.looks_subIn X e).here ?_)
    simp only [Bool.false_eq_true, if_false]
    refine wpAny_bind (wpAny_mono one (fun r s' z => ?_) fun _ _ e => e)
    obtain ⟨v, rfl, hq⟩ := z
    exact wpAny_pure hq
  · refine wpAny_bind (wpAny_pure ?_)
    simp only [Bool.false_eq_true, if_false]
    refine wpAny_bind (wpAny_mono one (fun r s' z => ?_) fun _ _ e => e)
    obtain ⟨v, rfl, hq⟩ := z
    exact wpAny_pure hq
end
section
variable {X : Cx} {CX : CXT} {k j : Nat} {C f : Addr} {fd : FuncData} {qual : Str} {st : Stmt} {ps : List Str} {sp : Sp} {E : XK}
def rNeO (K : PySem.W.Frag) (C : Addr) (sp : Sp) (E : XK) : R2 := fun x y H Q => ∃ (a dx : Addr) (fs : List (Str × V)) (t : Value), x = .ref a ∧ H a = some (.ins C dx fs) ∧ TyX K H y t ∧ PySem.W.notFirst K C t = true ∧ sp [.ref a, y] H (fun v H' => ∃ b : Bool, v = .bl b ∧ Q (.bl (!b)) H') E
theorem op_neO (T : NeT X.K C) (F : FnOk X.prog X.w X.K X.mg X.base CX k f fd ps sp) (hs : PySem.W.findIn X.K (.ref C) "__eq__" = some (some (.ref f))) (hf : PySem.W.isFn X.K (.ref f) = true) (hb : Binds X.K fd ps []) (hx : Passes CX X E) (hr : Room (k + 1) X.A) : OpR X (compareOp .NotEq) (rNeO X.K C sp E) := by
  intro pins s σ H x y v u Q I rx ry h
  obtain ⟨a, dx, fs, t, rfl, ha, ty, nf, hq⟩ := h
  cases (show v = Value.ref a from rx)
  obtain ⟨mA, J, _⟩ := ins_get I.hok ha
  obtain ⟨od, J, _⟩ := J.look
  obtain ⟨P, kx, hP, _⟩ := kit_of I ry ty
  obtain ⟨m, fr⟩ := I.fr
  have hl : ([Value.ref a, u] ++ []).length = ps.length := (show ([V.ref a, y] : List V).length = _ from F.len _ _ _ _ hq)
  have hr1 : Room k X.A.in1 := hr.in1
  have hun : X.A.units + 1 < cLine := by
    have := hr.un
    omega
  show wpAny (model X.prog X.w) X.A (richCompare .NotEq (.ref a) u) _ _ s
  refine ne_K T hun fr I.ok.mod.kin J (kx.ty _ _ I.kIn hP) nf hs hf (wpAny_call (codeAny_mono (F.run X.A.in1 X.stack s H ⟨[.ref a, u], []⟩ [.ref a, u] [.ref a, y] _ E hr1 I.env0.in1 (hb s [.ref a, u] I.kIn hl) (.cons rfl (.cons ry .nil)) hq) fun res s' hres => ?_))
  match res, hres with
  | .error er, hres => exact hx pins σ H s er s' I hres
  | .ok .next, hres => exact hres.elim
  | .ok .brk, hres => exact hres.elim
  | .ok .cont, hres => exact hres.elim
  | .ok (.ret z0), hres =>
    obtain ⟨z, H', I', rz, b, rfl, q⟩ := I.after hres
    cases (show z0 = Value.bool b from rz)
    exact ⟨b, rfl, .bl (!b), H', I', rfl, q⟩
theorem op_neC (T : NeT X.K C) (c : Cm X.prog X.w X.K X.mg X.base CX k C "__eq__" qual st ps sp) (b : Bd "__eq__" qual st ps) (hx : Passes CX X E) (hr : Room j X.A) (hk : k + 1 ≤ j) : OpR X (compareOp .NotEq) (rNeO X.K C sp E) := by
  obtain ⟨f, fd, F, M, hc, G⟩ := c.ex
  exact op_neO T G M.at_ M.fn (F.bindsN b) hx (hr.mono hk)
end
end MM
namespace MM
open PySem PySem.Spec PyProof.Rows L2
theorem hu65 {k : Nat} {A : Around} (r : Room k A) : A.units + 65 < cLine := by
  have := r.un
  omega
section
variable {X : Cx}
/-- sum(t) of a tuple of whole numbers -/
def rSumT (K : PySem.W.Frag) : List V → Hp → VK → Prop := fun vs H Q => ∃ (a : Addr) (ns : List Int), vs = [V.ref a] ∧ SqT K H a (ns.map V.int) ∧ Q (.int ns.sum) H
theorem cr_sumT (hc : X.calm = true) : CallR X (.builtin "sum") (rSumT X.K) := by
  intro pins s σ H vs us Q I r h
  obtain ⟨a, ns, rfl, hs, q⟩ := h
  obtain ⟨its, rv, hl, _⟩ := I.tuple hs
  rw [Vals.ref1 r]
  have hi := rv.ints
  obtain ⟨xs, hx⟩ := hi.allInts.items
  have hn : numsOf its.toArray.toList = ns := by rw [show its.toArray.toList = its from rfl, hi.numsOf]
  have hl : s.heap.IsTuple a its.toArray := hl
  rw [hx] at hl hn
  rw [nums_intItems] at hn
  refine PySem.W.ktm_sumG (I.ok.hd hc) hl fun h' tk t' hk => ⟨.int _, H, I.kept hk, ⟨_, rfl⟩, ?_⟩
  rw [preSum_eq, List.take_of_length_le (by simp), hn]
  exact q
end
/-! ### data of rows of whole numbers -/
def tupD (ns : List Int) : PyData := .tuple (ns.map PyData.int)
theorem dp_tup {K : PySem.W.Frag} {H : Hp} {a : Addr} {ns : List Int} (h : H a = some (.tup (ns.map V.int))) : Dp K H (.ref a) (tupD ns) := .tup (SqT.of h) (dps_ints ns)
theorem lay_tups : ∀ zs : List (List Int), PyData.canLayAll0 (zs.map tupD) = true
  | [] => rfl
  | z :: zs => by
    rw [List.map_cons, PyData.canLayAll0, lay_tups zs, tupD, PyData.canLay0, lay_ints]
    rfl
theorem dep_tups : ∀ zs : List (List Int), PyData.depthAll (zs.map tupD) ≤ 3
  | [] => by simp [PyData.depthAll]
  | z :: zs => by
    have h := dep_tups zs
    have h2 := dep_ints z
    simp only [List.map_cons, PyData.depthAll, tupD, PyData.depth]

    omega
theorem sh_tups (zs : List (List Int)) : SeqAt.shaped (.list (zs.map tupD)) = true := by
  have h := dep_tups zs
  show (PyData.canLay0 (.list (zs.map tupD)) && decide (PyData.depth (.list (zs.map tupD)) ≤ 64)) = true
  rw [Bool.and_eq_true]
  refine ⟨by simp only [PyData.canLay0]; exact lay_tups zs, decide_eq_true ?_⟩
  simp only [PyData.depth]
  omega
theorem sh_tup (ns : List Int) : SeqAt.shaped (tupD ns) = true := by
  have h := dep_ints ns
  show (PyData.canLay0 (tupD ns) && decide (PyData.depth (tupD ns) ≤ 64)) = true
  rw [Bool.and_eq_true]
  refine ⟨by simp only [tupD, PyData.canLay0]; exact lay_ints ns, decide_eq_true ?_⟩
  simp only [tupD, PyData.depth]
  omega
theorem eqv_tup (ns : List Int) : PyData.eqv (tupD ns) (tupD ns) = true := SeqAt.eqv_refl _ (by simp only [tupD, PyData.canLay0]; exact lay_ints ns)
/-- a list whose things are the rows zs -/
def Rows (H : Hp) (us : List V) (zs : List (List Int)) : Prop := us.length = zs.length ∧ ∀ (j : Nat) (u : V), us[j]? = some u → ∃ (q : Addr) (z : List Int), u = .ref q ∧ zs[j]? = some z ∧ H q = some (.tup (z.map V.int))
theorem Rows.same {H H1 : Hp} {us : List V} {zs : List (List Int)} (h : Rows H us zs) (s : Same H H1) : Rows H1 us zs := ⟨h.1, fun j u hu => by
  obtain ⟨q, z, e1, e2, e3⟩ := h.2 j u hu
  exact ⟨q, z, e1, e2, s _ _ e3⟩⟩
theorem Rows.dps {K : PySem.W.Frag} {H : Hp} : ∀ {us : List V} {zs : List (List Int)}, Rows H us zs → DpAll K H us (zs.map tupD)
  | [], [], _ => .nil
  | [], _ :: _, h => by have := h.1; simp at this
  | _ :: _, [], h => by have := h.1; simp at this
  | u :: us, z :: zs, h => by
    obtain ⟨q, z', rfl, e2, e3⟩ := h.2 0 u rfl
    cases e2
    refine .cons (dp_tup e3) (Rows.dps ⟨by have := h.1; simpa using this, fun j v hv => h.2 (j + 1) v (by simpa using hv)⟩)
theorem Rows.dp {K : PySem.W.Frag} {H : Hp} {a : Addr} {us : List V} {zs : List (List Int)} (h : Rows H us zs) (e : H a = some (.lst us)) : Dp K H (.ref a) (.list (zs.map tupD)) := .lst (SqL.of e) h.dps
theorem any_row {zs : List (List Int)} {z : List Int} (h : z ∈ zs) : ((zs.map tupD).any fun d => PyData.eqv d (tupD z)) = true := List.any_eq_true.mpr ⟨tupD z, List.mem_map.mpr ⟨z, h, rfl⟩, eqv_tup z⟩
end MM
namespace MM
/-! ### stretches of months, as whole numbers -/
/-- so many whole months lie, from a part of a day on -/
def rowF (a b p : Int) (n : Nat) : Int := (p + n * a) / b
theorem same_div {a b p q : Int} (hb : 0 < b) (n : Nat) (h0 : 0 ≤ q) (h1 : q ≤ p) (h2 : p < b) (hno : ¬ (q < (-(n : Int) * a) % b ∧ (-(n : Int) * a) % b ≤ p)) : rowF a b q n = rowF a b p n := by
  unfold rowF
  have e1 := Int.mul_ediv_add_emod (p + n * a) b
  have e2 := Int.emod_nonneg (p + n * a) (Int.ne_of_gt hb)
  have e3 := Int.emod_lt_of_pos (p + n * a) hb
  have en : -(n : Int) * a = -((n : Int) * a) := Int.neg_mul _ _
  rw [en] at hno
  generalize (n : Int) * a = z at *
  generalize hc : (p + z) / b = c at *
  refine Int.le_antisymm (by rw [← hc]; exact Int.ediv_le_ediv hb (by omega)) ?_
  refine Int.le_ediv_of_mul_le hb ?_
  rw [Int.mul_comm]
  apply Int.not_lt.mp
  intro hlt
  apply hno
  have et : (-z) % b = b * c - z := by
    have : -z = (b * c - z) + b * (-c) := by rw [Int.mul_neg]; omega
    rw [this, Int.add_mul_emod_self_left]
    exact Int.emod_eq_of_lt (by omega) (by omega)
  rw [et]
  omega
theorem max_le {p : Int} : ∀ L : List Int, (∃ t ∈ L, t ≤ p) → ∃ t ∈ L, t ≤ p ∧ ∀ u ∈ L, u ≤ p → u ≤ t
  | [], h => by
    obtain ⟨t, ht, _⟩ := h
    cases ht
  | x :: L, h => by
    by_cases hL : ∃ t ∈ L, t ≤ p
    · obtain ⟨t, ht, htp, hm⟩ := max_le L hL
      by_cases hx : x ≤ p ∧ t < x
      · refine ⟨x, List.mem_cons_self, hx.1, fun u hu hup => ?_⟩
        rcases List.mem_cons.mp hu with rfl | hu
        · exact Int.le_refl _
        · have := hm u hu hup
          omega
      · refine ⟨t, List.mem_cons_of_mem _ ht, htp, fun u hu hup => ?_⟩
        rcases List.mem_cons.mp hu with rfl | hu
        · omega
        · exact hm u hu hup
    · obtain ⟨t, ht, htp⟩ := h
      rcases List.mem_cons.mp ht with rfl | ht
      · refine ⟨t, List.mem_cons_self, htp, fun u hu hup => ?_⟩
        rcases List.mem_cons.mp hu with rfl | hu
        · exact Int.le_refl _
        · exact absurd ⟨u, hu, hup⟩ hL
      · exact absurd ⟨t, ht, htp⟩ hL
/-- the parts at which stretches of n months begin to be other ones -/
def parts (a b : Int) (n : Nat) : List Int := (List.range (min (n + 1) b.toNat)).map fun (i : Nat) => (-(i : Int) * a) % b
theorem parts_mem {a b : Int} (hb : 0 < b) {n i : Nat} (hi : i ≤ n) : (-(i : Int) * a) % b ∈ parts a b n := by
  refine List.mem_map.mpr ⟨i % b.toNat, List.mem_range.mpr ?_, ?_⟩
  · have h1 : i % b.toNat < b.toNat := Nat.mod_lt _ (by omega)
    have h2 : i % b.toNat ≤ i := Nat.mod_le _ _
    omega
  · have e : (i : Int) = ((i % b.toNat : Nat) : Int) + b * ((i / b.toNat : Nat) : Int) := by
      have h := Nat.mod_add_div i b.toNat
      have hbt : ((b.toNat : Nat) : Int) = b := by omega
      have h' : ((i % b.toNat + b.toNat * (i / b.toNat) : Nat) : Int) = (i : Int) := by rw [h]
      rw [← h', Int.natCast_add, Int.natCast_mul, hbt]
    have e2 : -(i : Int) * a = -((i % b.toNat : Nat) : Int) * a + b * (-((i / b.toNat : Nat) : Int) * a) := by
      rw [e]
      generalize ((i % b.toNat : Nat) : Int) = u
      generalize ((i / b.toNat : Nat) : Int) = v
      grind
    rw [e2, Int.add_mul_emod_self_left]
theorem parts_bd {a b : Int} (hb : 0 < b) {n : Nat} {t : Int} (ht : t ∈ parts a b n) : 0 ≤ t ∧ t < b := by
  obtain ⟨i, _, rfl⟩ := List.mem_map.mp ht
  exact ⟨Int.emod_nonneg _ (Int.ne_of_gt hb), Int.emod_lt_of_pos _ hb⟩
/-- each stretch is one that begins at one of the parts -/
theorem part_of {a b : Int} (hb : 0 < b) (n : Nat) {p : Int} (h0 : 0 ≤ p) (h1 : p < b) : ∃ t ∈ parts a b n, ∀ i : Nat, i ≤ n → rowF a b t i = rowF a b p i := by
  have z0 : (0 : Int) ∈ parts a b n := by
    have h := parts_mem (a := a) hb (n := n) (Nat.zero_le n)
    simpa using h
  obtain ⟨t, ht, htp, hm⟩ := max_le (p := p) (parts a b n) ⟨0, z0, h0⟩
  refine ⟨t, ht, fun i hi => same_div hb i (parts_bd hb ht).1 htp h1 fun ⟨k1, k2⟩ => ?_⟩
  have := hm _ (parts_mem hb hi) k2
  omega
theorem row_zero {a b p : Int} (h0 : 0 ≤ p) (h1 : p < b) : rowF a b p 0 = 0 := by
  unfold rowF
  rw [show p + ((0 : Nat) : Int) * a = p by simp]
  exact Int.ediv_eq_zero_of_lt h0 h1
theorem row_two {a b p : Int} (hb : 0 < b) (h0 : 0 ≤ p) (h1 : p < b) (n : Nat) : (n * a) / b ≤ rowF a b p n ∧ rowF a b p n ≤ (n * a) / b + 1 := by
  unfold rowF
  refine ⟨Int.ediv_le_ediv hb (by omega), ?_⟩
  have e1 := Int.mul_ediv_add_emod ((n : Int) * a) b
  have e3 := Int.emod_lt_of_pos ((n : Int) * a) hb
  refine Int.le_of_lt_add_one (Int.ediv_lt_of_lt_mul hb ?_)
  generalize (n : Int) * a / b = c at *
  have : (c + 1 + 1) * b = b * c + b + b := by grind
  rw [this]
  omega
/-- the part of a day at which moon k comes, in parts by the month's bottom -/
def prt (m o : Rat) (k : Int) : Int := ((o + k * m - ((stF m o k : Int) : Rat)) * (m.den : Rat)).floor
theorem den_posR (m : Rat) : (0 : Rat) < (m.den : Rat) := by
  have := m.den_pos
  exact_mod_cast this
theorem frac_bd (x : Rat) : 0 ≤ x - (x.floor : Rat) ∧ x - (x.floor : Rat) < 1 := by
  have h1 : (x.floor : Rat) ≤ x := Rat.floor_le x
  have h2 : x < (x.floor : Rat) + 1 := by rw [← cast_add1]; exact Rat.lt_floor_add_one x
  constructor <;> grind
theorem prt_bd (m o : Rat) (k : Int) : 0 ≤ prt m o k ∧ prt m o k < (m.den : Int) := by
  unfold prt stF
  obtain ⟨h1, h2⟩ := frac_bd (o + k * m)
  have hd := den_posR m
  generalize o + k * m - ((o + k * m).floor : Rat) = f at *
  constructor
  · refine Rat.le_floor_iff.mpr ?_
    show ((0 : Int) : Rat) ≤ f * (m.den : Rat)
    have := Rat.mul_nonneg h1 (Rat.le_of_lt hd)
    simpa using this
  · refine Rat.floor_lt_iff.mpr ?_
    show f * (m.den : Rat) < (((m.den : Nat) : Int) : Rat)
    have : f * (m.den : Rat) < 1 * (m.den : Rat) := Rat.mul_lt_mul_of_pos_right h2 hd
    rw [Rat.one_mul] at this
    exact this
theorem mul_den (m : Rat) : m * (m.den : Rat) = (m.num : Rat) := by
  have hd := den_posR m
  have h : (m.num : Rat) / (m.den : Rat) = m := by
    have e := Rat.num_divInt_den m
    rw [Rat.divInt_eq_div] at e
    exact e
  generalize (m.num : Rat) = a at *
  generalize (m.den : Rat) = b at *
  grind
theorem rr1 (o k n m b S c p : Rat) (h1 : (o + k * m - S) * b < p + 1) (h2 : p + n * (m * b) + 1 ≤ b * c + b) : (o + (k + n) * m) * b < (S + c + 1) * b := by
  have e1 : (o + (k + n) * m) * b = (o + k * m - S) * b + S * b + n * (m * b) := by grind
  have e2 : (S + c + 1) * b = S * b + b * c + b := by grind
  rw [e1, e2]
  generalize (o + k * m - S) * b = u at *
  generalize n * (m * b) = v at *
  generalize S * b = x at *
  generalize b * c = y at *
  grind
theorem rr2 (o k n m b S c p : Rat) (h1 : p ≤ (o + k * m - S) * b) (h2 : b * c ≤ p + n * (m * b)) : (S + c) * b ≤ (o + (k + n) * m) * b := by
  have e1 : (o + (k + n) * m) * b = (o + k * m - S) * b + S * b + n * (m * b) := by grind
  have e2 : (S + c) * b = S * b + b * c := by grind
  rw [e1, e2]
  generalize (o + k * m - S) * b = u at *
  generalize n * (m * b) = v at *
  generalize S * b = x at *
  generalize b * c = y at *
  grind
/-- the days of n months from month k on, by the part at which they begin -/
theorem st_row (m o : Rat) (k : Int) (n : Nat) : stF m o (k + n) - stF m o k = rowF m.num m.den (prt m o k) n := by
  have hd := den_posR m
  have hdI := den_pos m
  obtain ⟨f1, f2⟩ := frac_bd (o + k * m)
  have key : stF m o (k + n) = stF m o k + rowF m.num m.den (prt m o k) n := by
    have hfl : (prt m o k : Rat) ≤ (o + k * m - ((stF m o k : Int) : Rat)) * (m.den : Rat) := Rat.floor_le _
    have hfu : (o + k * m - ((stF m o k : Int) : Rat)) * (m.den : Rat) < ((prt m o k + 1 : Int) : Rat) := Rat.lt_floor_add_one _
    have e1 := Int.mul_ediv_add_emod (prt m o k + n * m.num) m.den
    have e2 := Int.emod_nonneg (prt m o k + n * m.num) (Int.ne_of_gt hdI)
    have e3 := Int.emod_lt_of_pos (prt m o k + n * m.num) hdI
    have hmd := mul_den m
    unfold rowF
    generalize hc : (prt m o k + (n : Int) * m.num) / (m.den : Int) = c at *
    have l1 : (m.den : Int) * c ≤ prt m o k + n * m.num := by omega
    have l2 : prt m o k + n * m.num + 1 ≤ (m.den : Int) * c + m.den := by omega
    have r1 : (m.den : Rat) * (c : Rat) ≤ (prt m o k : Rat) + (n : Rat) * (m.num : Rat) := by exact_mod_cast l1
    have r2 : (prt m o k : Rat) + (n : Rat) * (m.num : Rat) + 1 ≤ (m.den : Rat) * (c : Rat) + (m.den : Rat) := by exact_mod_cast l2
    have hfu' : (o + k * m - ((stF m o k : Int) : Rat)) * (m.den : Rat) < (prt m o k : Rat) + 1 := by rw [← cast_add1]; exact hfu
    have hcast : ((k + n : Int) : Rat) = (k : Rat) + (n : Rat) := by exact_mod_cast rfl
    refine Int.le_antisymm ?_ ?_
    · refine floor_le_iff.mpr ?_
      rw [hcast]
      have e4 : ((stF m o k + c + 1 : Int) : Rat) = ((stF m o k : Int) : Rat) + (c : Rat) + 1 := by exact_mod_cast rfl
      rw [e4]
      rw [← hmd] at r2
      exact Rat.lt_of_mul_lt_mul_right (rr1 _ _ _ _ _ _ _ _ hfu' r2) (Rat.le_of_lt hd)
    · refine Rat.le_floor_iff.mpr ?_
      rw [hcast]
      have e4 : ((stF m o k + c : Int) : Rat) = ((stF m o k : Int) : Rat) + (c : Rat) := by exact_mod_cast rfl
      rw [e4]
      rw [← hmd] at r1
      exact Rat.le_of_mul_le_mul_right (rr2 _ _ _ _ _ _ _ _ hfl r1) hd
  omega
end MM
namespace MM
open PySem PySem.Spec PyProof.Rows L2
/-! ### calls that may raise, the names as they stand at the call -/
section
variable {X : Cx} {k j : Nat} {f : Addr} {fd : FuncData} {ps ks : List Str} {sp : Sp} {dvs : List V} {ds : List Value} {x : Str} {st : Stmt} {p pos : Pos} {e : Expr} {es : List Expr} {kws : List Keyword} {t tk : TA} {W : WX}
theorem run_fnS {pins : List (Addr × Obj)} {σ : L2.St} {H : Hp} {s : Shared} {Q : VK} {us : List Value} {vs : List V} (F : FnOk X.prog X.w X.K X.mg X.base (L2.CX X.prog X.w) k f fd ps sp) (hr : Room k X.A) (hb : Binds X.K fd ps ds) (hd : Vals dvs ds) (ht : Takes X W)
    (I : Inv X pins σ H s) (r : Vals vs us) (h : sp (vs ++ dvs) H Q (fun c d H' => W c d σ H')) : wpAny (model X.prog X.w) X.A (call (.ref f) us) (EP X pins σ Q) X.xe s := by
  have r2 : Vals (vs ++ dvs) (us ++ ds) := r.append hd
  have hl : (us ++ ds).length = ps.length := by rw [← r2.length]; exact F.len _ _ _ _ h
  refine wpAny_call (codeAny_mono (F.run X.A X.stack s H ⟨us, []⟩ (us ++ ds) (vs ++ dvs) Q _ hr I.env0 (hb s us I.kIn hl) r2 h) fun r s' hq => ?_)
  match r, hq with
  | .error e, hq => exact ht e s' (XE.of_call I (fun _ _ _ z => z) hq)
  | .ok (.ret u), hq => exact I.after hq
  | .ok .next, hq => exact False.elim hq
  | .ok .brk, hq => exact False.elim hq
  | .ok .cont, hq => exact False.elim hq
theorem pe_caS (c : Ca X.prog X.w X.K X.mg X.base (L2.CX X.prog X.w) k x st [] ps sp) (b : Bd x x st ps) (hr : Room j X.A) (hk : k ≤ j) (ht : Takes X W) (hg : Gl X x) (ha : PA X (e :: es) t)
    (hdb : (x == ("__debug__" : Str)) = false := by decide) (he : starEach (e :: es) X.env = (false, eval e X.env) :: starEach es X.env := by rfl) (hpl : (backTo pos (starEach es X.env)).any (·.1) = false := by rfl) :
    PE X (.Call (.Name x p) (e :: es) [] pos) (fun σ H Q => t σ H fun vs H1 => sp (vs ++ []) H1 Q (fun c d H' => W c d σ H')) := by
  obtain ⟨f, fd, F, hm, G⟩ := c.ex
  refine ⟨fun pins s σ H Q I h => ?_⟩
  refine wpAny_Call_Name_kw (ld_glob I hg hm ?_ hdb)
  refine PySem.W.callWith_K (h₀ := X.base) I.ok.mod.kin F.kp (thn (ha.run pos pins s σ H _ I h) fun us s1 ⟨vs, H1, I1, r, q⟩ => ⟨I1.kIn, ?_⟩) he hpl
  exact run_fnS G (hr.mono hk) (F.bindsN b) .nil ht I1 r q
theorem pe_caKS {g : {α : Type} → List α → List α → List α} (c : Ca X.prog X.w X.K X.mg X.base (L2.CX X.prog X.w) k x st [] ps sp) (b : Kb x st 0 ks ps g) (hr : Room j X.A) (hk : k ≤ j) (ht : Takes X W) (hg : Gl X x) (hkw : PK X kws tk)
    (hall : (backToKw pos (keywordEach kws X.env)).all (·.1.isSome) = true := by rfl) (hks : (backToKw pos (keywordEach kws X.env)).filterMap (·.1) = ks := by rfl) (hdb : (x == ("__debug__" : Str)) = false := by decide)
    (hpl : ((backTo pos (starEach [] X.env)).any (·.1) || (backToKw pos (keywordEach kws X.env)).any (·.1.isNone)) = false := by rfl) :
    PE X (.Call (.Name x p) [] kws pos) (fun σ H Q => tk σ H fun zs H2 => zs.length = ks.length ∧ sp (g [] zs) H2 Q (fun c d H' => W c d σ H')) := by
  obtain ⟨f, fd, F, hm, G⟩ := c.ex
  obtain ⟨kV, doc, pm, an, cdv, ct, rfl⟩ := FunD.none F
  refine ⟨fun pins s σ H Q I h => ?_⟩
  refine wpAny_Call_Name_kw (ld_glob I hg hm ?_ hdb)
  refine PySem.W.callWith_KW0 (h₀ := X.base) I.ok.mod.kin F.kp hall ?_ hpl
  refine thn (hkw.run pos pins s σ H _ I h) fun ws s2 ⟨zs, H2, I2, rz, l2, q2⟩ => ⟨I2.kIn, ?_⟩
  rw [hks]
  have r2 : Vals (g [] zs) (g [] ws) := b.rel rfl l2 .nil rz
  refine wpAny_call (codeAny_mono (G.run X.A X.stack s2 H2 ⟨[], ks.zip ws⟩ (g [] ws) (g [] zs) Q _ (hr.mono hk) I2.env0 (.of_eq (b.bind kV doc pm an cdv ct [] ws rfl (rz.length.symm.trans l2))) r2 q2) fun r s' hq => ?_)
  match r, hq with
  | .error e, hq => exact ht e s' (XE.of_call I2 (fun _ _ _ z => z) hq)
  | .ok (.ret u), hq => exact I2.after hq
  | .ok .next, hq => exact False.elim hq
  | .ok .brk, hq => exact False.elim hq
  | .ok .cont, hq => exact False.elim hq
end
end MM
namespace MM
open PySem PySem.Spec PyProof.Rows L2
/-! ### calls of a def with defaults, which may raise -/
/-- how f(.., k = v, ..) binds where f has defaults -/
structure Kdf (x : Str) (st : Stmt) (dn n : Nat) (ks ps : List Str) (g : {α : Type} → List α → List α → List α → List α) : Prop where
  bind : ∀ (T : Addr) (kV doc pm : Value) (an : Option Addr) (cdv ct : Value) (us its ws : List Value), us.length = n → its.length = dn → ws.length = ks.length →
    ∃ k, bindArgs (PySem.W.fnOf x x (defArgs st) (defBody st) (defScope st) (.ref T) kV doc pm an cdv ct) ⟨us, ks.zip ws⟩ = seqItems? (.ref T) >>= k ∧ k (some its.toArray) = pure (ps.zip (g us its ws))
  rel : ∀ {vs ds zs : List V} {us its ws : List Value}, Vals vs us → Vals ds its → Vals zs ws → Vals (g vs ds zs) (g us its ws)
theorem op_eqDK {X : Cx} {K : PySem.W.Frag} (hK : X.K = K) (hu : X.A.units + 64 < cLine) : OpR X (compareOp .Eq) (rEqD K) := by
  subst hK
  exact op_eqD hu
section
variable {X : Cx} {k j n d : Nat} {f : Addr} {fd : FuncData} {ps ks : List Str} {sp : Sp} {dvs : List V} {x : Str} {st : Stmt} {p pos : Pos} {e : Expr} {es : List Expr} {kws : List Keyword} {t tk : TA} {W : WX}
/-- f(e, ..): n values, the defaults from the d-th on -/
theorem pe_caDS (c : Ca X.prog X.w X.K X.mg X.base (L2.CX X.prog X.w) k x st dvs ps sp) (b : Bd1 x x st ps n d dvs.length) (hd : dvs ≠ []) (hn : n + (dvs.length - d) = ps.length) (hr : Room j X.A) (hk : k ≤ j) (ht : Takes X W) (hg : Gl X x) (ha : PA X (e :: es) t)
    (hdb : (x == ("__debug__" : Str)) = false := by decide) (he : starEach (e :: es) X.env = (false, eval e X.env) :: starEach es X.env := by rfl) (hpl : (backTo pos (starEach es X.env)).any (·.1) = false := by rfl) :
    PE X (.Call (.Name x p) (e :: es) [] pos) (fun σ H Q => t σ H fun vs H1 => sp (vs ++ dvs.drop d) H1 Q (fun c d H' => W c d σ H')) := by
  obtain ⟨f, fd, F, hm, G⟩ := c.ex
  obtain ⟨ds, r, bb⟩ := F.binds1 n d hd hn b
  refine ⟨fun pins s σ H Q I h => ?_⟩
  refine wpAny_Call_Name_kw (ld_glob I hg hm ?_ hdb)
  refine PySem.W.callWith_K (h₀ := X.base) I.ok.mod.kin F.kp (thn (ha.run pos pins s σ H _ I h) fun us s1 ⟨vs, H1, I1, rv, q⟩ => ⟨I1.kIn, ?_⟩) he hpl
  exact run_fnS G (hr.mono hk) bb r ht I1 rv q
theorem run_fnkS {pins : List (Addr × Obj)} {σ : L2.St} {H : Hp} {s : Shared} {Q : VK} {us ws : List Value} {vs zs : List V} {g : List Value → List Value → List Value} {gV : List V → List V → List V} (F : FnOk X.prog X.w X.K X.mg X.base (L2.CX X.prog X.w) k f fd ps sp) (hr : Room k X.A) (hb : KBn X.K fd ps n ks g gV) (ht : Takes X W)
    (I : Inv X pins σ H s) (r : Vals vs us) (rz : Vals zs ws) (l1 : vs.length = n) (l2 : zs.length = ks.length) (h : sp (gV vs zs) H Q (fun c d H' => W c d σ H')) : wpAny (model X.prog X.w) X.A (call (.ref f) us (ks.zip ws)) (EP X pins σ Q) X.xe s := by
  have r2 := hb.rel r rz
  refine wpAny_call (codeAny_mono (F.run X.A X.stack s H ⟨us, ks.zip ws⟩ (g us ws) (gV vs zs) Q _ hr I.env0 (hb.to s us ws I.kIn (r.length.symm.trans l1) (rz.length.symm.trans l2)) r2 h) fun r s' hq => ?_)
  match r, hq with
  | .error e, hq => exact ht e s' (XE.of_call I (fun _ _ _ z => z) hq)
  | .ok (.ret u), hq => exact I.after hq
  | .ok .next, hq => exact False.elim hq
  | .ok .brk, hq => exact False.elim hq
  | .ok .cont, hq => exact False.elim hq
/-- f(e, .., k = v, ..) -/
theorem pe_caDK {g : {α : Type} → List α → List α → List α → List α} (c : Ca X.prog X.w X.K X.mg X.base (L2.CX X.prog X.w) k x st dvs ps sp) (b : Kdf x st dvs.length n ks ps g) (hd : dvs ≠ []) (hr : Room j X.A) (hk : k ≤ j) (ht : Takes X W) (hg : Gl X x) (ha : PA X (e :: es) t) (hkw : PK X kws tk)
    (hall : (backToKw pos (keywordEach kws X.env)).all (·.1.isSome) = true := by rfl) (hks : (backToKw pos (keywordEach kws X.env)).filterMap (·.1) = ks := by rfl) (hdb : (x == ("__debug__" : Str)) = false := by decide)
    (he : starEach (e :: es) X.env = (false, eval e X.env) :: starEach es X.env := by rfl) (hpl : ((backTo pos (starEach (e :: es) X.env)).any (·.1) || (backToKw pos (keywordEach kws X.env)).any (·.1.isNone)) = false := by rfl) :
    PE X (.Call (.Name x p) (e :: es) kws pos) (fun σ H Q => t σ H fun vs H1 => tk σ H1 fun zs H2 => vs.length = n ∧ zs.length = ks.length ∧ sp (g vs dvs zs) H2 Q (fun c d H' => W c d σ H')) := by
  obtain ⟨f, fd, F, hm, G⟩ := c.ex
  obtain ⟨its, hb⟩ := F.kbindsD n ks g hd b.rel b.bind
  refine ⟨fun pins s σ H Q I h => ?_⟩
  refine wpAny_Call_Name_kw (ld_glob I hg hm ?_ hdb)
  refine PySem.W.callWith_KW (h₀ := X.base) I.ok.mod.kin F.kp hall (thn (ha.run pos pins s σ H _ I h) fun us s1 ⟨vs, H1, I1, r, q⟩ => ?_) hpl he
  refine thn (hkw.run pos pins s1 σ H1 _ I1 q) fun ws s2 ⟨zs, H2, I2, rz, l1, l2, q2⟩ => ⟨I2.kIn, ?_⟩
  rw [hks]
  exact run_fnkS G (hr.mono hk) hb ht I2 r rz l1 l2 q2
/-- f(k = v, ..) -/
theorem pe_caDK0 {g : {α : Type} → List α → List α → List α → List α} (c : Ca X.prog X.w X.K X.mg X.base (L2.CX X.prog X.w) k x st dvs ps sp) (b : Kdf x st dvs.length 0 ks ps g) (hd : dvs ≠ []) (hr : Room j X.A) (hk : k ≤ j) (ht : Takes X W) (hg : Gl X x) (hkw : PK X kws tk)
    (hall : (backToKw pos (keywordEach kws X.env)).all (·.1.isSome) = true := by rfl) (hks : (backToKw pos (keywordEach kws X.env)).filterMap (·.1) = ks := by rfl) (hdb : (x == ("__debug__" : Str)) = false := by decide)
    (hpl : ((backTo pos (starEach [] X.env)).any (·.1) || (backToKw pos (keywordEach kws X.env)).any (·.1.isNone)) = false := by rfl) :
    PE X (.Call (.Name x p) [] kws pos) (fun σ H Q => tk σ H fun zs H2 => zs.length = ks.length ∧ sp (g [] dvs zs) H2 Q (fun c d H' => W c d σ H')) := by
  obtain ⟨f, fd, F, hm, G⟩ := c.ex
  obtain ⟨its, hb⟩ := F.kbindsD 0 ks g hd b.rel b.bind
  refine ⟨fun pins s σ H Q I h => ?_⟩
  refine wpAny_Call_Name_kw (ld_glob I hg hm ?_ hdb)
  refine PySem.W.callWith_KW0 (h₀ := X.base) I.ok.mod.kin F.kp hall ?_ hpl
  refine thn (hkw.run pos pins s σ H _ I h) fun ws s2 ⟨zs, H2, I2, rz, l2, q2⟩ => ⟨I2.kIn, ?_⟩
  rw [hks]
  exact run_fnkS (us := []) (vs := []) G (hr.mono hk) hb ht I2 .nil rz rfl l2 q2
end
end MM
namespace MM
open PySem PySem.Spec PyProof.Rows L2
/-! ### calls of a def with defaults, which never raises -/
/-- how f(.., k = v, ..) binds where f has defaults -/
structure Kdn (x : Str) (st : Stmt) (dn n : Nat) (ks ps : List Str) (g : {α : Type} → List α → List α → List α → List α) : Prop where
  bind : ∀ (T : Addr) (kV doc pm : Value) (an : Option Addr) (cdv ct : Value) (us its ws : List Value), us.length = n → its.length = dn → ws.length = ks.length →
    ∃ k, bindArgs (PySem.W.fnOf x x (defArgs st) (defBody st) (defScope st) (.ref T) kV doc pm an cdv ct) ⟨us, ks.zip ws⟩ = seqItems? (.ref T) >>= k ∧ k (some its.toArray) = pure (ps.zip (g us its ws))
  rel : ∀ {vs ds zs : List V} {us its ws : List Value}, Vals vs us → Vals ds its → Vals zs ws → Vals (g vs ds zs) (g us its ws)
section
variable {X : Cx} {CX : CXT} {k j n d : Nat} {f : Addr} {fd : FuncData} {ps ks : List Str} {sp : Sp} {dvs : List V} {x : Str} {st : Stmt} {p pos : Pos} {e : Expr} {es : List Expr} {kws : List Keyword} {t tk : TA} {E : XK}
/-- f(e, ..): n values, the defaults from the d-th on -/
theorem pe_caD (c : Ca X.prog X.w X.K X.mg X.base CX k x st dvs ps sp) (b : Bd1 x x st ps n d dvs.length) (hd : dvs ≠ []) (hn : n + (dvs.length - d) = ps.length) (hr : Room j X.A) (hk : k ≤ j) (hx : Passes CX X E) (hg : Gl X x) (ha : PA X (e :: es) t)
    (hdb : (x == ("__debug__" : Str)) = false := by decide) (he : starEach (e :: es) X.env = (false, eval e X.env) :: starEach es X.env := by rfl) (hpl : (backTo pos (starEach es X.env)).any (·.1) = false := by rfl) :
    PE X (.Call (.Name x p) (e :: es) [] pos) (tCall sp (dvs.drop d) E t) := by
  obtain ⟨f, fd, F, hm, G⟩ := c.ex
  obtain ⟨ds, r, bb⟩ := F.binds1 n d hd hn b
  exact pe_call G (hr.mono hk) hg hm F.kp bb r hx ha hdb he hpl
theorem run_fnkP {pins : List (Addr × Obj)} {σ : L2.St} {H : Hp} {s : Shared} {Q : VK} {us ws : List Value} {vs zs : List V} {g : List Value → List Value → List Value} {gV : List V → List V → List V} (F : FnOk X.prog X.w X.K X.mg X.base CX k f fd ps sp) (hr : Room k X.A) (hb : KBn X.K fd ps n ks g gV) (hx : Passes CX X E)
    (I : Inv X pins σ H s) (r : Vals vs us) (rz : Vals zs ws) (l1 : vs.length = n) (l2 : zs.length = ks.length) (h : sp (gV vs zs) H Q E) : wpAny (model X.prog X.w) X.A (call (.ref f) us (ks.zip ws)) (EP X pins σ Q) X.xe s := by
  have r2 := hb.rel r rz
  refine wpAny_call (codeAny_mono (F.run X.A X.stack s H ⟨us, ks.zip ws⟩ (g us ws) (gV vs zs) Q _ hr I.env0 (hb.to s us ws I.kIn (r.length.symm.trans l1) (rz.length.symm.trans l2)) r2 h) fun r s' hq => ?_)
  match r, hq with
  | .error e, hq => exact hx pins σ H s e s' I hq
  | .ok (.ret u), hq => exact I.after hq
  | .ok .next, hq => exact False.elim hq
  | .ok .brk, hq => exact False.elim hq
  | .ok .cont, hq => exact False.elim hq
/-- f(e, .., k = v, ..) -/
theorem pe_caDk {g : {α : Type} → List α → List α → List α → List α} (c : Ca X.prog X.w X.K X.mg X.base CX k x st dvs ps sp) (b : Kdn x st dvs.length n ks ps g) (hd : dvs ≠ []) (hr : Room j X.A) (hk : k ≤ j) (hx : Passes CX X E) (hg : Gl X x) (ha : PA X (e :: es) t) (hkw : PK X kws tk)
    (hall : (backToKw pos (keywordEach kws X.env)).all (·.1.isSome) = true := by rfl) (hks : (backToKw pos (keywordEach kws X.env)).filterMap (·.1) = ks := by rfl) (hdb : (x == ("__debug__" : Str)) = false := by decide)
    (he : starEach (e :: es) X.env = (false, eval e X.env) :: starEach es X.env := by rfl) (hpl : ((backTo pos (starEach (e :: es) X.env)).any (·.1) || (backToKw pos (keywordEach kws X.env)).any (·.1.isNone)) = false := by rfl) :
    PE X (.Call (.Name x p) (e :: es) kws pos) (fun σ H Q => t σ H fun vs H1 => tk σ H1 fun zs H2 => vs.length = n ∧ zs.length = ks.length ∧ sp (g vs dvs zs) H2 Q E) := by
  obtain ⟨f, fd, F, hm, G⟩ := c.ex
  obtain ⟨its, hb⟩ := F.kbindsD n ks g hd b.rel b.bind
  refine ⟨fun pins s σ H Q I h => ?_⟩
  refine wpAny_Call_Name_kw (ld_glob I hg hm ?_ hdb)
  refine PySem.W.callWith_KW (h₀ := X.base) I.ok.mod.kin F.kp hall (thn (ha.run pos pins s σ H _ I h) fun us s1 ⟨vs, H1, I1, r, q⟩ => ?_) hpl he
  refine thn (hkw.run pos pins s1 σ H1 _ I1 q) fun ws s2 ⟨zs, H2, I2, rz, l1, l2, q2⟩ => ⟨I2.kIn, ?_⟩
  rw [hks]
  exact run_fnkP G (hr.mono hk) hb hx I2 r rz l1 l2 q2
/-- f(k = v, ..) -/
theorem pe_caDk0 {g : {α : Type} → List α → List α → List α → List α} (c : Ca X.prog X.w X.K X.mg X.base CX k x st dvs ps sp) (b : Kdn x st dvs.length 0 ks ps g) (hd : dvs ≠ []) (hr : Room j X.A) (hk : k ≤ j) (hx : Passes CX X E) (hg : Gl X x) (hkw : PK X kws tk)
    (hall : (backToKw pos (keywordEach kws X.env)).all (·.1.isSome) = true := by rfl) (hks : (backToKw pos (keywordEach kws X.env)).filterMap (·.1) = ks := by rfl) (hdb : (x == ("__debug__" : Str)) = false := by decide)
    (hpl : ((backTo pos (starEach [] X.env)).any (·.1) || (backToKw pos (keywordEach kws X.env)).any (·.1.isNone)) = false := by rfl) :
    PE X (.Call (.Name x p) [] kws pos) (fun σ H Q => tk σ H fun zs H2 => zs.length = ks.length ∧ sp (g [] dvs zs) H2 Q E) := by
  obtain ⟨f, fd, F, hm, G⟩ := c.ex
  obtain ⟨its, hb⟩ := F.kbindsD 0 ks g hd b.rel b.bind
  refine ⟨fun pins s σ H Q I h => ?_⟩
  refine wpAny_Call_Name_kw (ld_glob I hg hm ?_ hdb)
  refine PySem.W.callWith_KW0 (h₀ := X.base) I.ok.mod.kin F.kp hall ?_ hpl
  refine thn (hkw.run pos pins s σ H _ I h) fun ws s2 ⟨zs, H2, I2, rz, l2, q2⟩ => ⟨I2.kIn, ?_⟩
  rw [hks]
  exact run_fnkP (us := []) (vs := []) G (hr.mono hk) hb hx I2 .nil rz rfl l2 q2
end
end MM
namespace MM
/-! ### rounds: when months and years come together -/
theorem den_mul (x : Rat) : (x.den : Rat) * x = (x.num : Rat) := by
  have h := Rat.num_divInt_den x
  rw [Rat.divInt_eq_div] at h
  have hd : ((x.den : Int) : Rat) ≠ 0 := by
    have := x.den_nz
    intro z
    exact this (by exact_mod_cast z)
  rw [Rat.intCast_natCast] at h hd
  grind
def lcI (a b : Int) : Int := a / (Int.gcd a b : Int) * b
theorem gcd_div_gcd {a b : Int} (ha : 0 < a) : Int.gcd (b / (Int.gcd a b : Int)) (a / (Int.gcd a b : Int)) = 1 := by
  have hg : 0 < Int.gcd a b := Int.gcd_pos_of_ne_zero_left b (by omega)
  have := Int.gcd_ediv_gcd_ediv_gcd (i := a) (j := b) hg
  rw [Int.gcd_comm]
  exact this
theorem lc_facts {a b : Int} (ha : 0 < a) (hb : 0 < b) : 0 < lcI a b ∧ lcI a b % a = 0 ∧ lcI a b % b = 0 ∧ lcI a b / a = b / (Int.gcd a b : Int) ∧ lcI a b / b = a / (Int.gcd a b : Int) ∧ 0 < b / (Int.gcd a b : Int) ∧ 0 < a / (Int.gcd a b : Int) := by
  have hg : 0 < Int.gcd a b := Int.gcd_pos_of_ne_zero_left b (by omega)
  obtain ⟨x, hx⟩ := Int.gcd_dvd_left a b
  obtain ⟨z, hz⟩ := Int.gcd_dvd_right a b
  unfold lcI
  generalize hG : (Int.gcd a b : Int) = G at *
  have hG0 : 0 < G := by omega
  have e1 : a / G = x := by rw [hx, Int.mul_ediv_cancel_left _ (by omega)]
  have e2 : b / G = z := by rw [hz, Int.mul_ediv_cancel_left _ (by omega)]
  have x0 : 0 < x := by
    apply Int.not_le.mp
    intro h
    have := Int.mul_le_mul_of_nonneg_left h (Int.le_of_lt hG0)
    omega
  have z0 : 0 < z := by
    apply Int.not_le.mp
    intro h
    have := Int.mul_le_mul_of_nonneg_left h (Int.le_of_lt hG0)
    omega
  rw [e1, e2]
  have e3 : x * b = a * z := by rw [hx, hz]; ac_rfl
  refine ⟨Int.mul_pos x0 hb, ?_, ?_, ?_, ?_, z0, x0⟩
  · rw [e3]
    exact Int.mul_emod_right _ _
  · exact Int.mul_emod_left _ _
  · rw [e3, Int.mul_ediv_cancel_left _ (by omega)]
  · rw [Int.mul_ediv_cancel _ (by omega)]
def wrD (m y : Rat) : Int := lcI m.num y.num
def wrM (m y : Rat) : Int := wrD m y / m.num * m.den
def wrY (m y : Rat) : Int := wrD m y / y.num * y.den
theorem div_back {a d : Int} (h : d % a = 0) : d / a * a = d := Int.ediv_mul_cancel (Int.dvd_of_emod_eq_zero h)
theorem wr_eqM {m y : Rat} (hm : 0 < m) (hy : 0 < y) : wrD m y * m.den = wrM m y * m.num := by
  have f := lc_facts (num_pos hm) (num_pos hy)
  have := div_back (show wrD m y % m.num = 0 from f.2.1)
  unfold wrM
  rw [Int.mul_right_comm, this]
theorem wr_eqY {m y : Rat} (hm : 0 < m) (hy : 0 < y) : wrD m y * y.den = wrY m y * y.num := by
  have f := lc_facts (num_pos hm) (num_pos hy)
  have := div_back (show wrD m y % y.num = 0 from f.2.2.1)
  unfold wrY
  rw [Int.mul_right_comm, this]
theorem den_ne (x : Rat) : ((x.den : Int) : Rat) ≠ 0 := by
  have := x.den_nz
  intro z
  exact this (by exact_mod_cast z)
theorem of_den {x : Rat} {D M : Int} (h : D * x.den = M * x.num) : (M : Rat) * x = (D : Rat) := by
  have h1 : ((D * x.den : Int) : Rat) = ((M * x.num : Int) : Rat) := by rw [h]
  rw [Rat.intCast_mul, Rat.intCast_mul] at h1
  have h2 := den_mul x
  have h3 := den_ne x
  rw [Rat.intCast_natCast] at h1 h3
  grind
theorem fl_int (x : Rat) (n : Int) : (x + n).floor = x.floor + n := by
  have h1 : ∀ i : Int, (x + n).floor ≤ i ↔ x.floor + n ≤ i := fun i => by
    rw [floor_le_iff]
    have h2 : x.floor + n ≤ i ↔ x.floor ≤ i - n := by omega
    rw [h2, floor_le_iff]
    have e1 : ((i + 1 : Int) : Rat) = (i : Rat) + 1 := cast_add1 i
    have e2 : ((i - n + 1 : Int) : Rat) = (i : Rat) - n + 1 := by rw [cast_add1, Rat.intCast_sub]
    rw [e1, e2]
    grind
  have a := (h1 ((x + n).floor)).mp (Int.le_refl _)
  have b := (h1 (x.floor + n)).mpr (Int.le_refl _)
  omega
theorem st_shift {m o : Rat} {M D : Int} (h : (M : Rat) * m = D) (k t : Int) : stF m o (k + t * M) = stF m o k + t * D := by
  unfold stF
  rw [← fl_int]
  congr 1
  rw [Rat.intCast_add, Rat.intCast_mul, Rat.intCast_mul, ← h]
  grind
theorem ma_shift {m o : Rat} {M D : Int} (hm : 0 < m) (h : (M : Rat) * m = D) (d t : Int) : maF m o (d + t * D) = maF m o d + t * M := by
  refine ma_of hm ?_ ?_
  · rw [st_shift h]
    have := st_ma (o := o) hm d
    omega
  · rw [Int.add_right_comm, st_shift h]
    have := ma_st (o := o) hm d
    omega
theorem md_shift {y k : Rat} {Y D : Int} (h : (Y : Rat) * y = D) (j t : Int) : mdF y k (j + 12 * (t * Y)) = mdF y k j + t * D := by
  unfold mdF
  rw [← fl_int]
  congr 1
  have e : ((12 : Int) : Rat) = 12 := rfl
  rw [Rat.intCast_add, Rat.intCast_mul, Rat.intCast_mul, Rat.intCast_mul, ← h, e]
  grind
theorem j_shift {y k : Rat} {Y D : Int} (hy : 0 < y / 12) (h : (Y : Rat) * y = D) (d t : Int) : jF y k (d + t * D) = jF y k d + 12 * (t * Y) := by
  have key : ∀ j : Int, j < jF y k (d + t * D) ↔ j < jF y k d + 12 * (t * Y) := fun j => by
    rw [← md_lt hy]
    have e : mdF y k j = mdF y k (j - 12 * (t * Y)) + t * D := by
      rw [← md_shift h]
      congr 1
      omega
    rw [e]
    have e2 : j < jF y k d + 12 * (t * Y) ↔ j - 12 * (t * Y) < jF y k d := by omega
    rw [e2, ← md_lt hy]
    omega
  have a := key (jF y k (d + t * D))
  have b := key (jF y k d + 12 * (t * Y))
  omega
end MM
namespace MM
open PySem PySem.Spec PyProof.Rows L2
section
variable {J : It} {n : Nat} {G : Hp → Prop} {Y : Nat → Hp → V → Hp → Prop}
/-- a comprehension with a test, whose i-th thing is the whole number f i, and there where B i -/
theorem lc_filt (w : Walk J n G Y) (hY : ∀ i H x H', Y i H x H' → Same H H') {g : TG} {tt : TT} {te : TE} {vs : List Nat} {σ : L2.St} {H : Hp} {D : Addr} {Qd : Hp → Prop} (nD : H D = none) (hn : n < sizeLine) (f : Nat → Int) (B : Nat → Bool) (hG : ∀ H', Same H H' → G H')
    (hs : ∀ i x H1 H2 (R : V → Hp → Prop) (N : Hp → Prop), i < n → Same H H1 → Y i H1 x H2 → (B i = true → ∀ H3, Same H2 H3 → R (.int (f i)) H3) → (B i = false → ∀ H3, Same H2 H3 → N H3) → g x (wipe σ vs) H2 fun σ2 H3 => wipe σ2 vs = wipe σ vs ∧ tt σ2 H3 fun b H4 => if b = true then te σ2 H4 R else N H4)
    (hd : ∀ H', H' D = some (.lst ((((List.range n).filter B).map f).map V.int)) → Same H H' → Qd H') :
    ∃ W : Nat → Nat → Hp → Prop, (∃ m, W 0 m (L2.upd H D (.lst []))) ∧ ∀ i m H, W i m H →
      (J.stop i H ∧ Qd H) ∨ (J.go i H ∧ ∃ Nx : Hp → Prop, (∀ H', Nx H' → ∃ m', m' < m ∧ W (i + 1) m' H') ∧ ∀ x H', J.yld i H x H' → g x (wipe σ vs) H' fun σ2 H2 => wipe σ2 vs = wipe σ vs ∧ tt σ2 H2 fun b H3 =>
        if b = true then te σ2 H3 fun y H4 => ∃ acc, H4 D = some (.lst acc) ∧ acc.length < sizeLine ∧ Nx (L2.upd H4 D (.lst (acc ++ [y]))) else Nx H3) := by
  refine lc_it w (fun i H' => H' D = some (.lst ((((List.range i).filter B).map f).map V.int)) ∧ Same H H') ⟨upd_same, upd_keep nD (Same.refl H)⟩ (fun i H' _ ⟨_, s⟩ => hG H' s) ?_ (fun H' ⟨e, s⟩ => hd H' e s)
  rintro i x H1 H2 hi ⟨e, s⟩ y
  have s2 := hY _ _ _ _ y
  have el : ((((List.range i).filter B).map f).map V.int).length < sizeLine := by
    rw [List.length_map, List.length_map]
    have := List.length_filter_le B (List.range i)
    rw [List.length_range] at this
    omega
  refine hs i x H1 H2 _ _ hi s y (fun hB H3 s3 => ?_) (fun hB H3 s3 => ?_)
  · refine ⟨_, s3 _ _ (s2 _ _ e), el, ?_, upd_keep nD (s.trans (s2.trans s3))⟩
    rw [upd_same, List.range_succ, List.filter_append, List.map_append, List.map_append]
    simp [hB]
  · refine ⟨?_, s.trans (s2.trans s3)⟩
    rw [s3 _ _ (s2 _ _ e), List.range_succ, List.filter_append]
    simp [hB]
end
/-! ### first days of years -/
def fdF (m y o k : Rat) (a : Int) : Int := stF m o (maF m o (mdF y k (12 * a)))
theorem int_le_floor {i : Int} {x : Rat} : i ≤ x.floor ↔ (i : Rat) ≤ x := by
  have h := floor_le_iff (q := x) (i := i - 1)
  rw [show i - 1 + 1 = i by omega] at h
  constructor
  · intro a
    apply Rat.not_lt.mp
    intro z
    have := h.mpr z
    omega
  · intro a
    apply Int.not_lt.mp
    intro z
    have := h.mp (by omega)
    grind
theorem fl_mono {x z : Rat} (h : x ≤ z) : x.floor ≤ z.floor := by
  rw [int_le_floor]
  have := int_le_floor (i := x.floor) (x := x) |>.mp (Int.le_refl _)
  grind
theorem st_w {m y o : Rat} (f : Fit m y) (i : Int) : stF m o (i + 1) ≤ stF m o i + m.ceil := by
  unfold stF
  rw [← fl_int]
  refine fl_mono ?_
  have h : m ≤ (m.ceil : Rat) := by
    apply Rat.not_lt.mp
    intro z
    have := lt_ceil_iff (q := m) (i := m.ceil) |>.mpr z
    omega
  rw [cast_add1]
  grind
theorem md_w {m y k : Rat} (f : Fit m y) (j : Int) : mdF y k j + m.ceil ≤ mdF y k (j + 1) := by
  unfold mdF
  rw [← fl_int]
  refine fl_mono ?_
  have h := f.between
  rw [cast_add1]
  grind
theorem md_mono {y k : Rat} (hy : 0 < y / 12) {i j : Int} (h : i ≤ j) : mdF y k i ≤ mdF y k j := by
  unfold mdF
  refine fl_mono ?_
  have h1 : (i : Rat) ≤ (j : Rat) := by exact_mod_cast h
  have h2 := Rat.mul_le_mul_of_nonneg_right h1 (Rat.le_of_lt hy)
  grind
/-- in a month falls one mark at most -/
theorem one_mark {m y o k : Rat} (f : Fit m y) {i j : Int} (h1 : stF m o i ≤ mdF y k j) (h2 : mdF y k j < stF m o (i + 1)) : jF y k (stF m o i) = j := by
  have hy := f.ypos
  have a : ¬ j < jF y k (stF m o i) := fun z => by
    have := (md_lt hy).mpr z
    omega
  apply Int.le_antisymm (by omega)
  apply Int.not_lt.mp
  intro z
  have b := md_ge (y := y) (k := k) hy (stF m o i)
  have c := md_w (k := k) f (jF y k (stF m o i))
  have d := md_mono (k := k) hy (show jF y k (stF m o i) + 1 ≤ j by omega)
  have e := st_w (o := o) f i
  omega
theorem ma_st' {m o : Rat} (h1 : 1 ≤ m) (i : Int) : maF m o (stF m o i) = i := by
  have := st_step (o := o) h1 i
  exact ma_of (by grind) (Int.le_refl _) (by omega)
theorem first_jF {m y o k : Rat} (f : Fit m y) (a : Int) : jF y k (stF m o (maF m o (mdF y k (12 * a)))) = 12 * a := one_mark f (st_ma f.pos _) (ma_st f.pos _)
/-- about which year begins on a day -/
theorem first_near {m y o k : Rat} (f : Fit m y) (a : Int) : (((fdF m y o k a - k.floor : Int) : Rat) / y).floor ≤ a ∧ a ≤ (((fdF m y o k a - k.floor : Int) : Rat) / y).floor + 1 := by
  have hp := f.pos
  have hy := f.ypos'
  have y12 : 12 ≤ y := by
    have h1 := f.one
    have h2 := f.between
    have h3 : (1 : Rat) ≤ (m.ceil : Rat) := by
      have : ((1 : Int) : Rat) ≤ (m.ceil : Rat) := by
        have : (1 : Int) ≤ m.ceil := by
          apply Int.not_lt.mp
          intro z
          have hm : m ≤ (m.ceil : Rat) := by
            apply Rat.not_lt.mp
            intro z
            have := lt_ceil_iff (q := m) (i := m.ceil) |>.mpr z
            omega
          have h0 : (m.ceil : Rat) ≤ ((0 : Int) : Rat) := by exact_mod_cast (show m.ceil ≤ 0 by omega)
          have e0 : ((0 : Int) : Rat) = 0 := rfl
          grind
        exact_mod_cast this
      exact this
    grind
  have s1 := st_ma (o := o) hp (mdF y k (12 * a))
  have s2 := ma_st (o := o) hp (mdF y k (12 * a))
  have s3 := st_w (o := o) f (maF m o (mdF y k (12 * a)))
  have bt := f.between
  have kf := int_le_floor (i := k.floor) (x := k) |>.mp (Int.le_refl _)
  have kl := floor_le_iff (q := k) (i := k.floor) |>.mp (Int.le_refl _)
  rw [cast_add1] at kl
  have md1 := int_le_floor (i := mdF y k (12 * a)) (x := k + ((12 * a : Int) : Rat) * (y / 12)) |>.mp (Int.le_refl _)
  have md2 := floor_le_iff (q := k + ((12 * a : Int) : Rat) * (y / 12)) (i := mdF y k (12 * a)) |>.mp (Int.le_refl _)
  rw [cast_add1] at md2
  have e12 : ((12 * a : Int) : Rat) * (y / 12) = (a : Rat) * y := by
    rw [Rat.intCast_mul]
    have : ((12 : Int) : Rat) = 12 := rfl
    rw [this]
    grind
  rw [e12] at md1 md2
  have c1 : ((fdF m y o k a : Int) : Rat) ≤ (mdF y k (12 * a) : Rat) := by exact_mod_cast s1
  have c2 : (mdF y k (12 * a) : Rat) + 1 ≤ (fdF m y o k a : Rat) + (m.ceil : Rat) := by
    have h := Int.lt_of_lt_of_le s2 s3
    have h2 : mdF y k (12 * a) + 1 ≤ fdF m y o k a + m.ceil := h
    have h3 : ((mdF y k (12 * a) + 1 : Int) : Rat) ≤ ((fdF m y o k a + m.ceil : Int) : Rat) := by exact_mod_cast h2
    rw [Rat.intCast_add, Rat.intCast_add] at h3
    exact h3
  have cs : ((fdF m y o k a - k.floor : Int) : Rat) = (fdF m y o k a : Rat) - (k.floor : Rat) := Rat.intCast_sub _ _
  rw [cs]
  generalize (fdF m y o k a : Rat) = A at *
  generalize (k.floor : Rat) = F at *
  generalize (mdF y k (12 * a) : Rat) = Md at *
  generalize (m.ceil : Rat) = Wc at *
  have u1 : A - F < (a : Rat) * y + 1 := by grind
  have u2 : (a : Rat) * y - y / 12 ≤ A - F + 1 := by grind
  constructor
  · rw [floor_le_iff, cast_add1]
    apply (Rat.div_lt_iff hy).mpr
    grind
  · have key : (a - 1 : Int) ≤ ((A - F) / y).floor := by
      rw [int_le_floor, Rat.intCast_sub]
      have : ((1 : Int) : Rat) = 1 := rfl
      rw [this]
      apply Rat.not_lt.mp
      intro z
      have z2 := (Rat.div_lt_iff hy).mp z
      grind
    omega
end MM
namespace MM
open PySem PySem.Spec PyProof.Rows L2
/-! ### figures -/
def dg (d : Nat) : Nat := if d < 10 then 48 + d else 87 + d
/-- the figures, the last one first -/
def lsd (b n : Nat) : List Nat := if h : b < 2 ∨ n < b then [n] else (n % b) :: lsd b (n / b)
termination_by n
decreasing_by exact Nat.div_lt_self (by omega) (by omega)
theorem lsd_lt {b n : Nat} (h : n < b) : lsd b n = [n] := by
  rw [lsd, dif_pos (.inr h)]
theorem lsd_ge {b n : Nat} (hb : 2 ≤ b) (h : b ≤ n) : lsd b n = (n % b) :: lsd b (n / b) := by
  rw [lsd, dif_neg (by omega)]
theorem lsd_ne (b n : Nat) : lsd b n ≠ [] := by
  rw [lsd]
  split <;> simp
theorem lsd_small {b : Nat} (hb : 2 ≤ b) : ∀ (n : Nat), ∀ d ∈ lsd b n, d < b := fun n => by
  induction n using Nat.strongRecOn with
  | _ n ih =>
    intro d hd
    by_cases h : n < b
    · rw [lsd_lt h] at hd
      rw [List.mem_singleton.mp hd]
      exact h
    · rw [lsd_ge hb (by omega)] at hd
      rcases List.mem_cons.mp hd with rfl | hd
      · exact Nat.mod_lt _ (by omega)
      · exact ih (n / b) (Nat.div_lt_self (by omega) (by omega)) d hd
theorem lsd_len {b : Nat} (hb : 2 ≤ b) : ∀ (e n : Nat), n < 2 ^ e → 0 < e → (lsd b n).length ≤ e := fun e => by
  induction e with
  | zero => intro n h h0; omega
  | succ e ih =>
    intro n h h0
    by_cases hn : n < b
    · rw [lsd_lt hn]
      simp
    · rw [lsd_ge hb (by omega), List.length_cons]
      have h1 : n / b ≤ n / 2 := Nat.div_le_div_left hb (by decide)
      have h2 : n / 2 < 2 ^ e := by rw [Nat.pow_succ] at h; omega
      by_cases he : 0 < e
      · have := ih (n / b) (by omega) he
        omega
      · have e0 : e = 0 := by omega
        subst e0
        have : n / b = 0 := by omega
        rw [this, lsd_lt (by omega)]
        simp at h2 ⊢
        have hz : n / b = 0 := by omega
        have := (Nat.div_eq_zero_iff).mp hz
        omega
theorem lsd_val {b : Nat} (hb : 2 ≤ b) : ∀ n : Nat, (lsd b n).foldr (fun d a => a * b + d) 0 = n := fun n => by
  induction n using Nat.strongRecOn with
  | _ n ih =>
    by_cases h : n < b
    · rw [lsd_lt h]
      simp
    · rw [lsd_ge hb (by omega), List.foldr_cons, ih (n / b) (Nat.div_lt_self (by omega) (by omega))]
      have := Nat.div_add_mod n b
      rw [Nat.mul_comm] at this
      exact this
def sg (d : Nat) : Str := ⟨#[dg d]⟩
def txt (ds : List Nat) : Str := ⟨(ds.map dg).toArray⟩
/-- a whole number by a base -/
def numT (b : Nat) (i : Int) : Str := if i < 0 then ("-" : Str) ++ txt (lsd b i.natAbs).reverse else txt (lsd b i.natAbs).reverse
theorem str_ext {x y : Str} (h : x.cps.toList = y.cps.toList) : x = y := by
  cases x
  cases y
  congr
  exact Array.toList_inj.mp h
theorem app_cps (x y : Str) : (x ++ y).cps.toList = x.cps.toList ++ y.cps.toList := by
  show (x.cps ++ y.cps).toList = _
  simp
theorem txt_cps (ds : List Nat) : (txt ds).cps.toList = ds.map dg := rfl
theorem txt_len (ds : List Nat) : (txt ds).length = ds.length := by
  show ((ds.map dg).toArray).size = _
  simp
theorem dash_cps : ("-" : Str).cps.toList = [45] := by decide +kernel
theorem sg_txt (d : Nat) (ds : List Nat) : sg d ++ txt ds = txt (d :: ds) := str_ext (by
  rw [app_cps]
  rfl)
theorem nil_txt : ("" : Str) = txt [] := str_ext (by decide +kernel)
theorem dg_ne {d : Nat} (h : d < 16) : dg d ≠ 45 := by
  unfold dg
  split <;> omega
def FIG : Str := "0123456789abcdef"
theorem fig_len : FIG.length = 16 := by decide +kernel
theorem fig_at {d : Nat} (h : d < 16) : atI FIG.cps.toList (d : Int) = some (dg d) := by
  have : ∀ d : Fin 16, atI FIG.cps.toList ((d.val : Nat) : Int) = some (dg d.val) := by decide +kernel
  exact this ⟨d, h⟩
theorem fig_find {d : Nat} (h : d < 16) : Txt.find FIG (sg d) = (d : Int) := by
  have : ∀ d : Fin 16, Txt.find FIG (sg d.val) = ((d.val : Nat) : Int) := by decide +kernel
  exact this ⟨d, h⟩
theorem glued_nil : ∀ (ps : List Str) (acc : Array Nat), (ps.foldl (fun acc p => acc ++ ("" : Str).cps ++ p.cps) acc).toList = acc.toList ++ (ps.map fun p => p.cps.toList).flatten
  | [], acc => by simp
  | p :: ps, acc => by
    rw [List.foldl_cons, glued_nil ps]
    have e : ("" : Str).cps = #[] := by decide +kernel
    rw [e]
    simp
theorem join_nil (ps : List Str) : (Txt.join ("" : Str) ps).cps.toList = (ps.map fun p => p.cps.toList).flatten := by
  show (((ps.drop 1).foldl (fun acc p => acc ++ ("" : Str).cps ++ p.cps) (ps.headD Str.empty).cps)).toList = _
  cases ps with
  | nil => rfl
  | cons p ps =>
    show ((ps.foldl (fun acc p => acc ++ ("" : Str).cps ++ p.cps) p.cps)).toList = _
    rw [glued_nil]
    simp
theorem flat_sg : ∀ ds : List Nat, ((ds.map sg).map fun p => p.cps.toList).flatten = ds.map dg
  | [] => rfl
  | d :: ds => by
    rw [List.map_cons, List.map_cons, List.flatten_cons, flat_sg ds]
    rfl
theorem join_sg (ds : List Nat) : Txt.join ("" : Str) ((ds.map sg).reverse) = txt ds.reverse := str_ext (by
  rw [join_nil, ← List.map_reverse, flat_sg]
  rfl)
theorem join_dash (ds : List Nat) : Txt.join ("" : Str) ((ds.map sg ++ [("-" : Str)]).reverse) = ("-" : Str) ++ txt ds.reverse := str_ext (by
  rw [join_nil, List.reverse_append, ← List.map_reverse, List.map_append, List.flatten_append, flat_sg, app_cps]
  rfl)
theorem sub_iff (x y : Str) : Builtin.Str.subAt x y 0 = true ↔ x.cps.toList.take y.length = y.cps.toList := by
  unfold Builtin.Str.subAt
  rw [beq_iff_eq, ← Array.toList_inj]
  simp
theorem dash_len : ("-" : Str).length = 1 := by decide +kernel
theorem not_dash {ds : List Nat} (h0 : ds ≠ []) (h : ∀ d ∈ ds, d < 16) : Builtin.Str.subAt (txt ds) ("-" : Str) 0 = false := by
  cases hb : Builtin.Str.subAt (txt ds) ("-" : Str) 0 with
  | false => rfl
  | true =>
    have := (sub_iff _ _).mp hb
    rw [dash_len, dash_cps, txt_cps] at this
    cases ds with
    | nil => exact absurd rfl h0
    | cons d ds =>
      have e : dg d = 45 := by simpa using this
      exact absurd e (dg_ne (h d (by simp)))
theorem is_dash (ds : List Nat) : Builtin.Str.subAt (("-" : Str) ++ txt ds) ("-" : Str) 0 = true := by
  rw [sub_iff, dash_len, app_cps, dash_cps]
  rfl
theorem dash_txt_len (ds : List Nat) : (("-" : Str) ++ txt ds).length = ds.length + 1 := by
  show (("-" : Str).cps ++ (txt ds).cps).size = _
  rw [Array.size_append]
  show ("-" : Str).length + (txt ds).length = _
  rw [dash_len, txt_len]
  omega
theorem rp_txt {ds : List Nat} (h0 : ds ≠ []) (h : ∀ d ∈ ds, d < 16) : Txt.removeprefix (txt ds) ("-" : Str) = txt ds := by
  unfold Txt.removeprefix
  rw [not_dash h0 h]
  rfl
theorem rp_dash (ds : List Nat) : Txt.removeprefix (("-" : Str) ++ txt ds) ("-" : Str) = txt ds := by
  unfold Txt.removeprefix
  rw [is_dash, dash_len, dash_txt_len]
  show (if (ds.length + 1 - 1 == (("-" : Str) ++ txt ds).length) = true then _ else _) = _
  rw [dash_txt_len, if_neg (by simp)]
  refine str_ext ?_
  show ((("-" : Str) ++ txt ds).cps.extract 1 (ds.length + 1)).toList = _
  have e : (("-" : Str) ++ txt ds).cps.toList = 45 :: ds.map dg := by rw [app_cps, dash_cps]; rfl
  rw [Array.toList_extract, e, txt_cps]
  simp
  exact List.take_of_length_le (by simp)
theorem sw_txt {ds : List Nat} (h0 : ds ≠ []) (h : ∀ d ∈ ds, d < 16) : Txt.startswith (txt ds) ("-" : Str) = false := by
  unfold Txt.startswith
  rw [not_dash h0 h, Bool.and_false]
theorem sw_dash (ds : List Nat) : Txt.startswith (("-" : Str) ++ txt ds) ("-" : Str) = true := by
  unfold Txt.startswith
  rw [is_dash, dash_txt_len, dash_len]
  simp
/-! ### a text once or not at all -/
theorem op_mulS {X : Cx} : OpR X (binaryOp .Mult) (fun x y H Q => ∃ (z : Str) (b : Bool), x = .str z ∧ y = .int (if b = true then 1 else 0) ∧ Q (.str (if b = true then z else Str.empty)) H) := by
  intro pins s σ H x y v u Q I rx ry h
  obtain ⟨z, b, rfl, rfl, q⟩ := h
  obtain ⟨t, rfl⟩ := rx
  obtain ⟨t', rfl⟩ := ry
  cases b with
  | false => exact P.mul_str_none (by decide) (by decide) ⟨.str Str.empty, H, I.tok _, ⟨_, rfl⟩, q⟩
  | true =>
    refine P.mul_str (by decide) (fun _ e => by simp at e) (fun _ e => by simp at e) ?_
    rw [if_neg (by decide), if_pos (by simp)]
    exact ⟨.str z, H, I, ⟨_, rfl⟩, q⟩
end MM
namespace MM
open PySem PySem.Spec PyProof.Rows L2
/-- what try .. except C as n: m = n wishes of an exception of the body -/
def wKeep1 (K : PySem.W.Frag) (c : Value) (i j : Nat) (D : Ends) : WX := fun cls d σ H => PySem.W.exmOne K cls c = some true ∧ ∀ a, H a = none → D.nx (((σ.set i (some (.ref a))).set j (some (.ref a))).set i none) (L2.upd H a (KX a cls d))
section
variable {X : Cx} {c : Value} {x n m : Str} {i j : Nat} {body : List Stmt} {tpos np mp apos pos pos' : Pos} {tb : WX → TS}
/-- try: body / except (..) as n: m = n; nothing else leaves the body -/
theorem ps_try_keep1 (hs : X.stack = X.env :: X.outer) (hf : X.env.frame = some X.env.locals) (hex : X.ex = []) (hN : X.N.Nodup) (hi : X.N[i]? = some n) (hln : X.env.kindOf n = some .local) (hj : X.N[j]? = some m) (hlm : X.env.kindOf m = some .local) (hg : Gl X x) (hd0 : (x == ("__debug__" : Str)) = false) (hm0 : X.mg x = some c)
    (hdb : (n == ("__debug__" : Str)) = false := by decide) (hcd : (n == ("__classdict__" : Str)) = false := by decide)
    (hb : ∀ (W : WX) (pn : List (Addr × Obj)) (xe : Value → Shared → Prop), Takes (X.tr pn xe) W → PassesOwn (model X.prog X.w) X.A X.env xe → PSs (X.tr pn xe) body (tb W))
    (hsw : swapsWith (.Name n np) (some (.Name m mp)) apos.line X.env = pure false := by rfl) :
    PS X (.Try body [.ExceptHandler (some (.Name x tpos)) (some n) [.Assign [.Name m mp] (.Name n np) apos] pos'] [] [] pos) (fun D σ H => tb (wKeep1 X.K c i j D) D σ H) := by
  refine ⟨fun pins s σ H D I h => ?_⟩
  have ok := I.ok
  have hfr : X.A.frames = some (X.env :: X.outer) := by rw [ok.frames, hs]
  refine wpAny_Try_except ?_
  refine wpAny_mono ((hb (wKeep1 X.K c i j D) (X.pn ++ pins) (fun e s₁ => wpAny (model X.prog X.w) X.A (noteFrame e X.env) (fun _ s₂ => wpAny (model X.prog X.w) X.A (setFlight e none) (fun _ s₃ =>
    wpAny (model X.prog X.w) X.A (handleBy e X.env [.ExceptHandler (some (.Name x tpos)) (some n) [.Assign [.Name m mp] (.Name n np) apos] pos']) (SP X pins D) X.xe s₃) X.xe s₂) X.xe s₁) (fun u s' xx => ?_) PassesOwn.looking).run [] s σ H D (I.toTry _) h) (fun f s1 hsp => ?_) (fun e s1 he => he)
  · obtain ⟨a, B, sI, pins', σ', H', cls, d, rfl, J', nb, up, sky, na, os, ag, hB, wish⟩ := xx
    have J : Inv X pins σ' H' sI := J'.ofTry ok
    have sky' : Sky B (X.env :: X.outer) a (Zc cls d) X.env.locals s'.heap := by rw [← hs]; exact sky
    show wpAny (model X.prog X.w) X.A (noteFrame (.ref a) X.env) _ _ _
    refine Sky.land Zc.steady hfr hf sky' fun h3 fl3 up3 => ?_
    have J3 : Inv X pins σ' H' { s' with heap := h3 } := J.landed nb fl3.1 (up.trans up3) os ag
    obtain ⟨oe3, vs3, he3, hz3, hd3⟩ := fl3.there
    have nfr : a ∉ frs (X.env :: X.outer) := fun hm => by
      obtain ⟨_, o', e', hnf⟩ := fl3.2.2.1.mem hm
      rw [he3] at e'
      cases e'
      exact hnf _ hd3
    have nL : a ≠ X.env.locals := fun z => nfr (List.mem_filterMap.mpr ⟨X.env, List.mem_cons_self, by rw [hf, z]⟩)
    have nF : a ∉ X.fs := fun hm => by
      obtain ⟨e, he, q⟩ := List.mem_filterMap.mp hm
      exact nfr (List.mem_filterMap.mpr ⟨e, List.mem_cons_of_mem _ he, q⟩)
    have nI : sI.heap.get? a = none := by
      cases q : sI.heap.get? a with
      | none => rfl
      | some o =>
        have z := nb a o q (by rw [hs]; exact nfr)
        rw [fl3.2.1] at z
        cases z
    have n0 : X.s_0.heap.get? a = none := by
      cases q : X.s_0.heap.get? a with
      | none => rfl
      | some o =>
        obtain ⟨o', z⟩ := J.base.there a o q (by rw [hex]; exact fun y => nomatch y)
        rw [nI] at z
        cases z
    have nC : ∀ x c, X.env.cells.lookup x = some c → c ≠ a := fun x c e z => by
      obtain ⟨v, o, ho, _⟩ := J.cell x c e
      rw [z, nI] at ho
      cases ho
    have nP : ∀ p ∈ X.pn ++ pins, p.1 ≠ a := fun p hp z => by
      have q := (J.pin p hp).1
      rw [z, nI] at q
      cases q
    have S3 := J3.suite he3 hd3 na nL nF
    refine wpAny_handleBy_cons (codeAny_handlers_test ?_) (by intro q; cases q)
    refine ld_glob (X := X.suite a ((a, oe3) :: (X.pn ++ pins))) S3 hg hm0 ?_ hd0
    have LT : PySem.W.Looks (model X.prog X.w) h3 (typeOf (.ref a)) cls := fun A Q E s k q => wpAny_typeOf_ref (k _ _ he3) (by rw [hz3.1]; exact q)
    have LM := PySem.W.exm_one (M := model X.prog X.w) J3.kIn LT hB
    refine LM.here ?_
    refine codeAny_handlers_suite_as ?_
    refine HandSPX.lands_againZ fl3 fun h4 fl4 up4 => ?_
    have J4 : Inv X pins σ' H' { s' with heap := h4 } := J.landed nb fl4.1 ((up.trans up3).trans up4) os ag
    obtain ⟨oe4, vs4, he4, hz4, hd4⟩ := fl4.there
    have S4 := J4.suite he4 hd4 na nL nF
    refine store_ok (X := X.suite a ((a, oe4) :: (X.pn ++ pins))) (v := .ref a) S4 hN hi (.inl hln) rfl (fun s5 S5 => ?_) (.inr hln)
    have rd : PSs (X.suite a ((a, oe4) :: (X.pn ++ pins))) [.Assign [.Name m mp] (.Name n np) apos] (tAsg (tVar i) (gName j)) := pss_one (ps_set hN hj (.inl hlm) (pe_var hi (.inl hln) hdb hcd) hsw (.inr hlm))
    refine wpAny_mono (rd.run [] s5 _ H' { nx := fun σ6 H6 => σ6 = (σ'.set i (some (.ref a))).set j (some (.ref a)) ∧ H6 = H', rt := fun _ _ => False } S5 ⟨_, ?_, rfl, rfl⟩) (fun f s6 hsp => ?_) (fun _ _ z => False.elim z)
    · exact List.getElem?_set_self (by rw [J.len]; exact (List.getElem?_eq_some_iff.mp hi).1)
    · cases f with
      | next =>
        obtain ⟨σ6, H6, S6, rfl, rfl⟩ := hsp
        obtain ⟨p1, p2, _⟩ := S6.pin (a, oe4) (List.mem_append_left _ List.mem_cons_self)
        have J6 := Inv.track (S6.unsuite ok) p1 hz4 hd4 na n0 nL nC nP
        exact gone_ok J6 hN hi hln fun s7 J7 => ⟨_, _, J7, wish a na⟩
      | brk =>
        obtain ⟨_, _, _, z⟩ := hsp
        exact z.elim
      | cont =>
        obtain ⟨_, _, _, z⟩ := hsp
        exact z.elim
      | ret u =>
        obtain ⟨_, _, _, _, _, z⟩ := hsp
        exact z.elim
  · cases f with
    | next =>
      obtain ⟨σ1, H1, J1, q⟩ := hsp
      exact wpAny_execs_nil ⟨σ1, H1, J1.ofTry ok, q⟩
    | brk =>
      obtain ⟨σ1, H1, J1, q⟩ := hsp
      exact ⟨σ1, H1, J1.ofTry ok, q⟩
    | cont =>
      obtain ⟨σ1, H1, J1, q⟩ := hsp
      exact ⟨σ1, H1, J1.ofTry ok, q⟩
    | ret u =>
      obtain ⟨v1, σ1, H1, J1, r1, q⟩ := hsp
      exact ⟨v1, σ1, H1, J1.ofTry ok, r1, q⟩
end
section
variable {X : Cx} {D : Addr}
/-- isinstance(x, (c, ..)), x a kept exception -/
def rIsKT (K : PySem.W.Frag) (D : Addr) : List V → Hp → VK → Prop := fun xs H Q => ∃ (a oD : Addr) (fs : List (Str × V)) (tp : Addr) (cs : List V) (us : List Value) (b : Bool), xs = [.ref a, .ref tp] ∧ H a = some (KX a (.ref D) (some oD)) ∧ H oD = some (.xd fs) ∧ H tp = some (.tup cs) ∧ Paired ClsV cs us ∧ PySem.W.kitAny K (.ref D) us = some b ∧ Q (.bl b) H
theorem call_isKT (C : XcF X.K D) : CallR X (.builtin "isinstance") (rIsKT X.K D) := by
  intro pins s σ H xs us Q I r h
  obtain ⟨a, oD, fs, tp, cs, ws, b, rfl, ha, hd, hT, k, e, q⟩ := h
  obtain ⟨u1, u2, rfl, r1, r2⟩ := vals2 r
  cases (show u1 = Value.ref a from r1)
  cases (show u2 = Value.ref tp from r2)
  obtain ⟨ox, od, _, J, _⟩ := kept_inst I ha hd
  obtain ⟨_, its, rv, o, h1, h2, n, h3⟩ := (show ObjOk X.prog X.w H s.heap tp (.tup cs) from I.hok tp _ hT)
  have e3 := ClsV.all k rv
  subst e3
  obtain ⟨oc, od', dt, sl⟩ := o
  simp only at h2 h3
  subst h2 h3
  exact PySem.W.kia_tup (kitx_kept C) I.kIn ⟨ox, _, J⟩ h1 e (fun z => nomatch z) fun tk => ⟨.bl b, H, I.kept (t' := tk) fun _ _ z => z, rfl, q⟩
end
end MM
namespace MM
open PySem PySem.Spec PySem.Calls PyProof.Rows L2
section
variable {X : Cx} {a : Expr} {ta : TE}
/-- x is not False, x a truth -/
def tNotF (ta : TE) : TE := fun σ H Q => ta σ H fun x H1 => ∃ b : Bool, x = .bl b ∧ Q (.bl b) H1
theorem pc_notF {j : Nat} {pos' : Pos} (ha : PE X a ta) : PC X .IsNot a (.Constant (.bool false) j pos') (tNotF ta) := by
  refine ⟨fun pins s σ H Q I h => ?_⟩
  refine thn (ha.run pins s σ H _ I h) fun v s1 ⟨x, H1, I1, r1, b, ex, q1⟩ => ?_
  subst ex
  cases (show v = Value.bool b from r1)
  refine Constant_bool ?_
  cases b with
  | true => exact wpAny_pure (a := Value.bool (!(Value.bool true == Value.bool false))) ⟨.bl true, H1, I1, rfl, q1⟩
  | false => exact wpAny_pure (a := Value.bool (!(Value.bool false == Value.bool false))) ⟨.bl false, H1, I1, rfl, q1⟩
end
/-- str(x) of a whole number, or of an instance with its own __str__ -/
@[irreducible] def rSI (C : Addr) (sp : Sp) (E : XK) : List V → Hp → VK → Prop := fun xs H Q => (∃ i : Int, xs = [.int i] ∧ i.natAbs.log2 < 1920 ∧ Q (.str (toString i)) H) ∨ rStrO C sp E xs H Q
theorem call_str_IS {X : Cx} {CX : CXT} {k : Nat} {C : Addr} {qual : Str} {st : Stmt} {ps : List Str} {sp : Sp} {E : XK} (c : Cm X.prog X.w X.K X.mg X.base CX k C "__str__" qual st ps sp) (b : Bd "__str__" qual st ps) (hr : Room (k + 2) X.A) (hx : Passes CX X E) :
    CallR X (.type "str") (rSI C sp E) := by
  obtain ⟨f, fd, F, M, hc, G⟩ := c.ex
  unfold rSI
  exact CallR.or call_str_int (call_strO G M.1 M.2 (F.bindsN b) hx hr)
end MM
namespace MM
open PySem PySem.Spec PySem.Calls PyProof.Rows L2
/-! ### figures by ten are what str tells -/
theorem dg_char {d : Nat} (h : d < 10) : d.digitChar.toNat = dg d := by
  have : ∀ d : Fin 10, d.val.digitChar.toNat = dg d.val := by decide
  exact this ⟨d, h⟩
theorem digits_lsd : ∀ n : Nat, (Nat.toDigits 10 n).map Char.toNat = (lsd 10 n).reverse.map dg := fun n => by
  induction n using Nat.strongRecOn with
  | _ n ih =>
    by_cases h : n < 10
    · rw [Nat.toDigits_of_lt_base h, lsd_lt h]
      show [n.digitChar.toNat] = [dg n]
      rw [dg_char h]
    · rw [Nat.toDigits_of_base_le (by decide) (by omega), lsd_ge (by decide) (by omega), List.map_append, ih (n / 10) (by omega), List.reverse_cons, List.map_append]
      show _ ++ [(n % 10).digitChar.toNat] = _ ++ [dg (n % 10)]
      rw [dg_char (by omega)]
theorem of_cps (s : String) : (Str.ofString s).cps.toList = s.toList.map Char.toNat := by
  show (cpsOfBytes 0 0 s.toByteArray.data.toList).toArray.toList = _
  rw [cpsOfBytes_string]
theorem nat_txt (n : Nat) : Str.ofString n.repr = txt (lsd 10 n).reverse := str_ext (by
  rw [of_cps, txt_cps]
  unfold Nat.repr
  rw [String.toList_ofList]
  exact digits_lsd n)
theorem numT_str (i : Int) : Str.ofString (toString i) = numT 10 i := by
  cases i with
  | ofNat m =>
    show Str.ofString m.repr = _
    unfold numT
    rw [if_neg (show ¬ Int.ofNat m < 0 from Int.not_lt.mpr (Int.natCast_nonneg m)), nat_txt]
    rfl
  | negSucc m =>
    show Str.ofString ("-" ++ m.succ.repr) = _
    unfold numT
    rw [if_pos (by omega)]
    refine str_ext ?_
    rw [of_cps, String.toList_append, List.map_append, app_cps, dash_cps]
    have e : m.succ.repr.toList.map Char.toNat = (txt (lsd 10 m.succ).reverse).cps.toList := by rw [← nat_txt, of_cps]
    rw [e]
    rfl
/-! ### repr(x) of an instance with its own __repr__ -/
def rReprO (C : Addr) (sp : Sp) (E : XK) : List V → Hp → VK → Prop := fun xs H Q => ∃ (a dx : Addr) (fs : List (Str × V)), xs = [.ref a] ∧ H a = some (.ins C dx fs) ∧ sp [.ref a] H (fun v H' => ∃ x : Str, v = .str x ∧ Q (.str x) H') E
theorem call_reprO {X : Cx} {CX : CXT} {k : Nat} {C f : Addr} {fd : FuncData} {ps : List Str} {sp : Sp} {E : XK} (F : FnOk X.prog X.w X.K X.mg X.base CX k f fd ps sp) (hs : PySem.W.findIn X.K (.ref C) "__repr__" = some (some (.ref f))) (hf : PySem.W.isFn X.K (.ref f) = true) (hb : Binds X.K fd ps []) (hx : Passes CX X E) (hr : Room (k + 1) X.A) : CallR X (.builtin "repr") (rReprO C sp E) := by
  intro pins s σ H xs us Q I r h
  obtain ⟨a, dx, fs, rfl, ha, hq⟩ := h
  obtain ⟨u, rfl, r1⟩ := vals1 r
  cases (show u = Value.ref a from r1)
  obtain ⟨mA, J, _⟩ := ins_get I.hok ha
  obtain ⟨od, J, _⟩ := J.look
  obtain ⟨m, fr⟩ := I.fr
  have hr1 : Room k X.A.in1 := hr.in1
  have hl : ([Value.ref a] ++ []).length = ps.length := (show ([V.ref a] : List V).length = _ from F.len _ _ _ _ hq)
  refine PySem.W.repr_K hr1.units0 fr I.ok.mod.kin J hs hf (wpAny_call (codeAny_mono (F.run X.A.in1 X.stack s H ⟨[.ref a], []⟩ [.ref a] [.ref a] _ E hr1 I.env0.in1 (hb s [.ref a] I.kIn hl) (.cons rfl .nil) hq) fun res s' hres => ?_))
  match res, hres with
  | .error er, hres => exact hx pins σ H s er s' I hres
  | .ok .next, hres => exact hres.elim
  | .ok .brk, hres => exact hres.elim
  | .ok .cont, hres => exact hres.elim
  | .ok (.ret u), hres =>
    obtain ⟨z, H', I', rz, x, rfl, q⟩ := I.after hres
    obtain ⟨t, rfl⟩ := rz
    exact ⟨.str x, H', I', ⟨t, rfl⟩, q⟩
end MM
namespace MM
open PySem PySem.Spec PySem.Calls PyProof.Rows L2
/-! ### x in [..] where a comparison runs code of its own -/
section
variable {prog : Program} {w : World} {A : Around} {R : Result → Shared → Prop}
theorem in_loopG (l : Addr) (x : Value) (N : Nat) (B : Nat → Bool) (Iv : Nat → Shared → Prop)
    (hl : ∀ i s, Iv i s → ∃ (its : Array Value) (n : Nat), s.heap.get? l = some { cls := .type "list", data := .seq its n } ∧ its.size = N ∧ ∀ h : i < its.size, wpAny (model prog w) A.in1 (eqBool its[i] x) (fun r s' => r = B i ∧ Iv (i + 1) s') (fun e s' => R (.error e) s') s)
    (fT : ∀ i s, i < N → B i = true → Iv (i + 1) s → R (.ok (.ret (.bool true))) s) (fF : (∀ j, j < N → B j = false) → ∀ s, Iv N s → R (.ok (.ret (.bool false))) s) (k : Nat) :
    ∀ i : Nat, N - i = k → i ≤ N → (∀ j, j < i → B j = false) → ∀ s, Iv i s →
      wpAny (model prog w) A.in1 (Builtin.«list.__contains__.loop» ⟨[.ref l, x, rawInt i], []⟩) (GQ.FinOf prog w A R) (fun e s' => R (.error e) s') s := by
  induction k with
  | zero =>
    intro i hk hi hno s h
    obtain ⟨its, n, h1, hs, _⟩ := hl _ _ h
    have ei : i = N := by omega
    subst ei
    have hR := fF hno s h
    obtain ⟨hp, g, d, tk, os⟩ := s
    wp_walk using wpAny_loadPart' h1
    have e1 : its[((i : Nat) : Int).toNat]? = none := by simp; omega
    rw [e1]
    wp_walk
    exact hR
  | succ k ih =>
    intro i hk hi hno s h
    obtain ⟨its, n, h1, hs, turn⟩ := hl _ _ h
    have hlt : i < its.size := by omega
    have ht := turn hlt
    obtain ⟨hp, g, d, tk, os⟩ := s
    wp_walk using wpAny_loadPart' h1
    have e1 : its[((i : Nat) : Int).toNat]? = some its[i] := by simp [hlt]
    have hc : ((i : Int) + 1) = ((i + 1 : Nat) : Int) := by omega
    rw [e1]
    refine wpAny_bind (wpAny_mono ht (fun r s2 h2 => ?_) fun _ _ z => z)
    obtain ⟨hr, h2⟩ := h2
    cases hb : B i with
    | true =>
      rw [hb] at hr
      subst hr
      have hR := fT i s2 (by omega) hb h2
      obtain ⟨hp2, g2, d2, tk2, os2⟩ := s2
      wp_walk
      exact hR
    | false =>
      rw [hb] at hr
      subst hr
      have hrec := ih (i + 1) (by omega) (by omega) (fun j hj => by
        by_cases e : j = i
        · subst e
          exact hb
        · exact hno j (by omega)) s2 h2
      obtain ⟨hp2, g2, d2, tk2, os2⟩ := s2
      wp_walk
      rw [hc]
      exact ⟨plainId_quiet PySem.MeetsSeq.plain_contains_loop _, codeAny_builtin PySem.MeetsSeq.entry_contains_loop (by
        rw [Around.under_plainId PySem.MeetsSeq.plain_contains_loop _]
        exact hrec)⟩
theorem in_listG {E : Value → Shared → Prop} {s : Shared} {Q : Value → Shared → Prop} (l : Addr) (x : Value) (N : Nat) (B : Nat → Bool) (Iv : Nat → Shared → Prop)
    (hl : ∀ i s, Iv i s → ∃ (its : Array Value) (n : Nat), s.heap.get? l = some { cls := .type "list", data := .seq its n } ∧ its.size = N ∧ ∀ h : i < its.size, wpAny (model prog w) A.in1 (eqBool its[i] x) (fun r s' => r = B i ∧ Iv (i + 1) s') E s)
    (fT : ∀ i s, i < N → B i = true → Iv (i + 1) s → Q (.bool true) s) (fF : (∀ j, j < N → B j = false) → ∀ s, Iv N s → Q (.bool false) s) (h : Iv 0 s) : wpAny (model prog w) A (compareOp .In x (.ref l)) Q E s := by
  obtain ⟨its, n, h1, _, _⟩ := hl _ _ h
  show wpAny _ A (do return .bool (← contains (.ref l) x)) Q E s
  refine wpAny_bind (wpAny_contains_slot ⟨_, h1, rfl⟩ F.slot_list_contains (wpAny_mono (GQ.call_here (Q := fun v s' => ∃ b, v = .bool b ∧ Q (.bool b) s') F.slot_list_contains ⟨_, h1, rfl⟩ F.entry_list_contains (F.args_list_contains_2 _ _) ?_) (fun v s' hv => ?_) fun _ _ e => e))
  · have go := in_loopG (prog := prog) (w := w) (A := A) (R := wants (fun v s' => ∃ b, v = .bool b ∧ Q (.bool b) s') E) l x N B Iv hl (fun i s hi hb q => ⟨true, rfl, fT i s hi hb q⟩) (fun hno s q => ⟨false, rfl, fF hno s q⟩) (N - 0) 0 rfl (Nat.zero_le _) (fun j hj => absurd hj (Nat.not_lt_zero j)) s h
    obtain ⟨hp, g, d, tk, os⟩ := s
    wp_walk
    exact ⟨plainId_quiet PySem.MeetsSeq.plain_contains_loop _, codeAny_builtin PySem.MeetsSeq.entry_contains_loop (by
      rw [Around.under_plainId PySem.MeetsSeq.plain_contains_loop _]
      exact go)⟩
  · obtain ⟨b, rfl, hq⟩ := hv
    exact wpAny_truthy_bool (wpAny_pure hq)
end
/-- == inside a builtin, with either answer: it may run code, and the heap may grow -/
def EqB (X : Cx) (n : Nat) (D : V → V → Hp → Bool → Prop) : Prop :=
  ∀ (A : Around) (pins : List (Addr × Obj)) (s : Shared) (σ : L2.St) (H : Hp) (x y : V) (u v : Value) (b : Bool), L2.Sub X n A → Inv X pins σ H s → RelV x u → RelV y v → D x y H b →
    wpAny (model X.prog X.w) A (eqBool u v) (fun r s' => r = b ∧ ∃ H', Inv X pins σ H' s' ∧ Ext H H') X.xe s
/-- x in [..]: B i tells whether the i-th thing is == x -/
def rInG (D : V → V → Hp → Bool → Prop) : R2 := fun x y H Q => ∃ (p : Addr) (xs : List V) (B : Nat → Bool), y = .ref p ∧ H p = some (.lst xs) ∧ (∀ i z, xs[i]? = some z → ∀ H', Ext H H' → D z x H' (B i)) ∧ ∀ H', Ext H H' → Q (.bl ((List.range xs.length).any B)) H'
theorem op_inG {X : Cx} {n : Nat} {D : V → V → Hp → Bool → Prop} (h : EqB X n D) (hr : Room (n + 1) X.A) : OpR X (compareOp .In) (rInG D) := by
  intro pins s σ H x y v u Q I rx ry hq
  obtain ⟨p, xs, B, rfl, hp, hD, q⟩ := hq
  cases (show u = Value.ref p from ry)
  have sb : L2.Sub X (n + 1) X.A := ⟨hr, rfl⟩
  refine in_listG (A := X.A) p v xs.length B (fun _ s' => ∃ H', Inv X pins σ H' s' ∧ Ext H H') ?_ ?_ ?_ ⟨H, I, Ext.rfl'⟩
  · rintro i s' ⟨H', I', e⟩
    obtain ⟨z, its, k, r, ek⟩ := I'.hok p _ (e _ _ hp)
    refine ⟨its.toArray, k, ek, by rw [List.size_toArray, ← r.length], fun h1 => ?_⟩
    have hi : i < its.length := by simpa using h1
    have hx : i < xs.length := by rw [r.length]; exact hi
    obtain ⟨w, hw, rw'⟩ := r.get (List.getElem?_eq_getElem hx)
    have ew : its.toArray[i] = w := by
      rw [List.getElem?_eq_getElem hi] at hw
      simpa using Option.some.inj hw
    rw [ew]
    refine wpAny_mono (h X.A.in1 pins s' σ H' _ x w v (B i) sb.in1 I' rw' rx (hD i _ (List.getElem?_eq_getElem hx) H' e)) (fun c s2 z2 => ?_) fun _ _ y => y
    obtain ⟨hc, H2, I2, e2⟩ := z2
    exact ⟨hc, H2, I2, e.trans e2⟩
  · rintro i s' hi hb ⟨H', I', e⟩
    refine ⟨.bl true, H', I', rfl, ?_⟩
    have z := q H' e
    have ea : (List.range xs.length).any B = true := List.any_eq_true.mpr ⟨i, List.mem_range.mpr hi, hb⟩
    rw [ea] at z
    exact z
  · rintro hno s' ⟨H', I', e⟩
    refine ⟨.bl false, H', I', rfl, ?_⟩
    have z := q H' e
    have ea : (List.range xs.length).any B = false := by
      rw [List.any_eq_false]
      intro j hj
      rw [hno j (List.mem_range.mp hj)]
      decide
    rw [ea] at z
    exact z
end MM
namespace MM
open PySem PySem.Spec PySem.Calls PyProof.Rows L2
open AutoSeq1 (wpAny_loadPart')
/-! ### plain things == an instance: they decline, the instance's own __eq__ is asked -/
section
theorem int_dec_b (b : Bool) (l C dx : Addr) : Meets (Builtin.«int.__eq__» ⟨[.bool b, .ref l], []⟩) (fun _ R s => s.heap.get? l = some (PySem.W.instObj C dx) ∧ R (.ok (.ret .notImplemented)) s) :=
  .of_wp fun prog w A R s h => by obtain ⟨hp, g, d, tk, os⟩ := s; obtain ⟨hl, h⟩ := h; wp_walk using wpAny_loadPart' hl, wpAny_load hl; exact ⟨_, rfl, h⟩
theorem int_dec_i (b : Int) (u : Tok) (l C dx : Addr) : Meets (Builtin.«int.__eq__» ⟨[.int b u, .ref l], []⟩) (fun _ R s => s.heap.get? l = some (PySem.W.instObj C dx) ∧ R (.ok (.ret .notImplemented)) s) :=
  .of_wp fun prog w A R s h => by obtain ⟨hp, g, d, tk, os⟩ := s; obtain ⟨hl, h⟩ := h; wp_walk using wpAny_loadPart' hl, wpAny_load hl; exact ⟨_, rfl, h⟩
theorem str_dec_s (b : Str) (u : Tok) (l C dx : Addr) : Meets (Builtin.«str.__eq__» ⟨[.str b u, .ref l], []⟩) (fun _ R s => s.heap.get? l = some (PySem.W.instObj C dx) ∧ R (.ok (.ret .notImplemented)) s) :=
  .of_wp fun prog w A R s h => by obtain ⟨hp, g, d, tk, os⟩ := s; obtain ⟨hl, h⟩ := h; wp_walk using wpAny_loadPart' hl, wpAny_load hl; exact ⟨_, rfl, h⟩
end
section
variable {prog : Program} {w : World} {A : Around} {E : Value → Shared → Prop} {s : Shared} {K : PySem.W.Frag} {x C L f dx : Addr} {h₀ : Heap} {m : Str → Option Value} {od : Option Obj} {a : Value} {T : String}
/-- richCompare a x where a is of a built-in type and declines -/
theorem rc_back {Q : Value → Shared → Prop} (hu : A.units < cLine) (F : Fr h₀ L s.heap m) (X₀ : K.In h₀) (I : PySem.W.InstAt s.heap x (PySem.W.instObj C dx) C od) (ha : s.TypeIs a T) (hsub : PySem.W.subIn K (.ref C) (.type T) = some false)
    (one : wpAny (model prog w) A (tryCompare a "__eq__" (.ref x)) (fun r s' => r = none ∧ s' = s) E s)
    (hs : PySem.W.findIn K (.ref C) "__eq__" = some (some (.ref f))) (hf : PySem.W.isFn K (.ref f) = true)
    (h : wpAny (model prog w) A (call (.ref f) [.ref x, a]) (PySem.W.CmpBack Q) E s) : wpAny (model prog w) A (richCompare .Eq a (.ref x)) Q E s := by
  have X := X₀.keeps F.keep
  have two : wpAny (model prog w) A (tryCompare (.ref x) "__eq__" a) (fun r s' => ∃ v, r = some v ∧ Q v s') E s := by
    unfold tryCompare
    refine wpAny_bind (PySem.W.ifBound_K X I hs hf (wpAny_mono h (fun v s' hv => ?_) fun _ _ e => e))
    cases v <;> first | exact hv.elim | exact wpAny_pure ⟨_, rfl, hv⟩
  simp only [richCompare, cmpInfo, ha.oneThing_none]
  refine wpAny_holding (wpAny_bind (wpAny_cRoomFor hu ?_))
  refine wpAny_bind (wpAny_typeOf ha (wpAny_bind (I.type.here ?_)))
  have hne : (Value.type T != Value.ref C) = true := rfl
  simp only [hne, if_true]
  refine wpAny_bind ((PySem.W.looks_subIn X hsub).here ?_)
  simp only [Bool.false_eq_true, if_false, Bool.not_false, if_true]
  refine wpAny_bind (m := tryCompare a _ (.ref x)) (wpAny_mono one (fun r s1 z => ?_) fun _ _ e => e)
  obtain ⟨z1, z2⟩ := z
  subst z1
  subst z2
  refine wpAny_bind (m := tryCompare (.ref x) _ a) (wpAny_mono two (fun r s2 z => ?_) fun _ _ e => e)
  obtain ⟨v, rfl, hq⟩ := z
  exact wpAny_pure hq
end

/-! ### == inside a builtin by an own __eq__, either way about -/
/-- what is of a built-in type and declines beside an instance -/
inductive Pl (K : PySem.W.Frag) (H : Hp) : V → String → Prop where
  | non : Pl K H .non "NoneType"
  | bl (b : Bool) : Pl K H (.bl b) "bool"
  | int (i : Int) : Pl K H (.int i) "int"
  | str (x : Str) : Pl K H (.str x) "str"
  | tup {a : Addr} {xs : List V} (h : H a = some (.tup xs)) : Pl K H (.ref a) "tuple"
  | lst {a : Addr} {xs : List V} (h : H a = some (.lst xs)) : Pl K H (.ref a) "list"
section
variable {prog : Program} {w : World} {A : Around} {E : Value → Shared → Prop} {s : Shared} {K : PySem.W.Frag} {x l C dx : Addr} {od : Option Obj}
theorem tup_dec {items : Array Value} {Q : Option Value → Shared → Prop} (X : K.In s.heap) (I : PySem.W.InstAt s.heap x (PySem.W.instObj C dx) C od) (hl : s.heap.IsTuple l items) (hsub : PySem.W.subIn K (.ref C) (.type "tuple") = some false) (q : Q none s) :
    wpAny (model prog w) A (tryCompare (.ref l) "__eq__" (.ref x)) Q E s := by
  obtain ⟨⟨cls, dd, data, sl⟩, ho, hc, n, hd⟩ := id hl
  simp only at hc hd
  subst hc hd
  refine wpAny_tryCompare_declines ⟨_, ho, rfl⟩ PySem.F.slot_tuple_eq (GQ.call_here PySem.F.slot_tuple_eq ⟨_, ho, rfl⟩ PySem.F.entry_tuple_eq (PySem.F.args_tuple_eq_2 _ _) ?_)
  have L : PySem.W.Looks (model prog w) s.heap (isInstance (.ref x) (.type "tuple")) false := I.type.andThen (PySem.W.looks_subIn X hsub)
  obtain ⟨hp, g, d, tk, os⟩ := s
  wp_walk using wpAny_loadPart' ho, L.here
  exact ⟨rfl, q⟩
theorem lst_dec {items : Array Value} {n : Nat} {Q : Option Value → Shared → Prop} (X : K.In s.heap) (I : PySem.W.InstAt s.heap x (PySem.W.instObj C dx) C od) (ho : s.heap.get? l = some { cls := .type "list", data := .seq items n }) (hsub : PySem.W.subIn K (.ref C) (.type "list") = some false) (q : Q none s) :
    wpAny (model prog w) A (tryCompare (.ref l) "__eq__" (.ref x)) Q E s := by
  refine wpAny_tryCompare_declines ⟨_, ho, rfl⟩ PySem.F.slot_list_eq (GQ.call_here PySem.F.slot_list_eq ⟨_, ho, rfl⟩ PySem.F.entry_list_eq (PySem.F.args_list_eq_2 _ _) ?_)
  have L : PySem.W.Looks (model prog w) s.heap (isInstance (.ref x) (.type "list")) false := I.type.andThen (PySem.W.looks_subIn X hsub)
  obtain ⟨hp, g, d, tk, os⟩ := s
  wp_walk using wpAny_loadPart' ho, L.here
  exact ⟨rfl, q⟩
end
theorem pl_dec {X : Cx} {pins : List (Addr × Obj)} {σ : L2.St} {H : Hp} {s : Shared} {A : Around} {z : V} {u : Value} {T : String} {x C dx : Addr} {od : Option Obj} {E : Value → Shared → Prop} (I : Inv X pins σ H s) (p : Pl X.K H z T) (r : RelV z u) (J : PySem.W.InstAt s.heap x (PySem.W.instObj C dx) C od)
    (hsub : PySem.W.subIn X.K (.ref C) (.type T) = some false) : s.TypeIs u T ∧ wpAny (model X.prog X.w) A (tryCompare u "__eq__" (.ref x)) (fun r s' => r = none ∧ s' = s) E s := by
  cases p with
  | non =>
    cases (show u = Value.none from r)
    exact ⟨rfl, wpAny_tryCompare_declines rfl PySem.F.slot_NoneType_eq (call_gives PySem.F.slot_NoneType_eq rfl PySem.F.entry_NoneType_eq (PySem.F.args_NoneType_eq_2 _ _) (SeqAt.NoneType___eq___none_ref_0 x) ⟨rfl, rfl, rfl⟩)⟩
  | bl b =>
    cases (show u = Value.bool b from r)
    exact ⟨rfl, wpAny_tryCompare_declines rfl PySem.F.slot_bool_eq (call_meets PySem.F.slot_bool_eq rfl PySem.F.entry_int_eq (PySem.F.args_int_eq_2 _ _) (int_dec_b b x C dx) ⟨J.at_, rfl, rfl, rfl⟩)⟩
  | int i =>
    obtain ⟨t, rfl⟩ := r
    exact ⟨typeIs_int s i t, wpAny_tryCompare_declines (typeIs_int s i t) PySem.F.slot_int_eq (call_meets PySem.F.slot_int_eq (typeIs_int s i t) PySem.F.entry_int_eq (PySem.F.args_int_eq_2 _ _) (int_dec_i i t x C dx) ⟨J.at_, rfl, rfl, rfl⟩)⟩
  | str y =>
    obtain ⟨t, rfl⟩ := r
    exact ⟨typeIs_str s y t, wpAny_tryCompare_declines (typeIs_str s y t) PySem.F.slot_str_eq (call_meets PySem.F.slot_str_eq (typeIs_str s y t) PySem.F.entry_str_eq (PySem.F.args_str_eq_2 _ _) (str_dec_s y t x C dx) ⟨J.at_, rfl, rfl, rfl⟩)⟩
  | tup h =>
    rename_i a xs
    cases (show u = Value.ref a from r)
    obtain ⟨its, r2, e, z⟩ := I.tuple (SqT.of h)
    refine ⟨?_, tup_dec I.kIn J e hsub ⟨rfl, rfl⟩⟩
    obtain ⟨o, ho, hc, n, hd⟩ := e
    exact ⟨o, ho, hc⟩
  | lst h =>
    rename_i a xs
    cases (show u = Value.ref a from r)
    obtain ⟨z, its, k, r2, e⟩ := I.hok a _ h
    exact ⟨⟨_, e, rfl⟩, lst_dec I.kIn J e hsub ⟨rfl, rfl⟩⟩
def DOwn (K : PySem.W.Frag) (C : Addr) (sp : Sp) (E : XK) : V → V → Hp → Bool → Prop := fun z x H b =>
  (∃ (a dx : Addr) (fs : List (Str × V)), z = .ref a ∧ H a = some (.ins C dx fs) ∧ ((x = .ref a ∧ b = true) ∨ (x ≠ .ref a ∧ ∃ t, TyX K H x t ∧ PySem.W.notFirst K C t = true ∧ sp [z, x] H (fun v H' => v = .bl b ∧ Ext H H') E))) ∨
  (∃ (a dx : Addr) (fs : List (Str × V)) (T : String), x = .ref a ∧ H a = some (.ins C dx fs) ∧ Pl K H z T ∧ PySem.W.subIn K (.ref C) (.type T) = some false ∧ sp [x, z] H (fun v H' => v = .bl b ∧ Ext H H') E)
theorem rel_ne {x : V} {v : Value} {a : Addr} (r : RelV x v) (h : x ≠ .ref a) : (Value.ref a == v) = false ∧ (v == Value.ref a) = false := by
  constructor
  · rw [beq_eq_false_iff_ne]
    intro z
    subst z
    apply h
    cases x <;> first | (cases r; rfl) | (obtain ⟨_, z⟩ := r; cases z) | (cases r)
  · rw [beq_eq_false_iff_ne]
    intro z
    subst z
    apply h
    cases x <;> first | (cases r; rfl) | (obtain ⟨_, z⟩ := r; cases z) | (cases r)
theorem env_sub {X : Cx} {n : Nat} {A : Around} {pins : List (Addr × Obj)} {σ : L2.St} {H : Hp} {s : Shared} (sb : L2.Sub X n A) (I : Inv X pins σ H s) : Env0 X.prog X.w X.K X.mg X.base A X.stack s H := by
  have e := I.env0
  exact ⟨by rw [sb.fr]; exact e.frames, e.mod, e.bs, e.bsz, e.funs, e.frf, e.hok, e.bare⟩
theorem eqB_own {X : Cx} {n : Nat} {CX : CXT} {C f : Addr} {fd : FuncData} {ps : List Str} {sp : Sp} {E : XK} (F : FnOk X.prog X.w X.K X.mg X.base CX n f fd ps sp)
    (hs : PySem.W.findIn X.K (.ref C) "__eq__" = some (some (.ref f))) (hf : PySem.W.isFn X.K (.ref f) = true) (hb : Binds X.K fd ps []) (hx : Passes CX X E) : EqB X n (DOwn X.K C sp E) := by
  intro A pins s σ H x y u v b sb I rx ry d
  have e0 := env_sub sb I
  obtain ⟨m, hF⟩ := I.fr
  -- the call of the own __eq__
  have run : ∀ (p q : V) (p' q' : Value), RelV p p' → RelV q q' → sp [p, q] H (fun v H' => v = .bl b ∧ Ext H H') E →
      wpAny (model X.prog X.w) A (call (.ref f) [p', q']) (PySem.W.CmpBack (fun v s' => v = .bool b ∧ ∃ H', Inv X pins σ H' s' ∧ Ext H H')) X.xe s := by
    intro p q p' q' rp rq hsp
    have hl := F.len _ _ _ _ hsp
    refine wpAny_call (codeAny_mono (F.run A X.stack s H ⟨[p', q'], []⟩ [p', q'] [p, q] _ E sb.room e0 (by
      have := hb s [p', q'] I.kIn (by simpa using hl)
      simpa using this) (.cons rp (.cons rq .nil)) hsp) fun r s' hq => ?_)
    cases r with
    | error e => exact hx pins σ H s e s' I hq
    | ok fl =>
      cases fl with
      | ret w =>
        obtain ⟨z, H', I', rz, ez, ex⟩ := I.after hq
        subst ez
        cases (show w = Value.bool b from rz)
        exact ⟨rfl, H', I', ex⟩
      | next => exact False.elim hq
      | brk => exact False.elim hq
      | cont => exact False.elim hq
  rcases d with ⟨a, dx, fs, rfl, ha, hh⟩ | ⟨a, dx, fs, T, rfl, ha, pl, hsub, hsp⟩
  · cases (show u = Value.ref a from rx)
    rcases hh with ⟨rfl, rfl⟩ | ⟨hne, t, ty, nf, hsp⟩
    · cases (show v = Value.ref a from ry)
      exact SeqAt.EqAt.same (A := A) (s := s) (.ref a) X.prog X.w X.xe _ ⟨rfl, H, I, Ext.rfl'⟩
    · obtain ⟨mA, J, _⟩ := ins_get I.hok ha
      obtain ⟨od, J, _⟩ := J.look
      obtain ⟨P, kx, hP, _⟩ := kit_of I ry ty
      unfold eqBool
      refine wpAny_holding ?_
      rw [(rel_ne ry hne).1]
      simp only [Bool.false_eq_true, if_false]
      refine wpAny_bind (PySem.W.cmp_K (op := .Eq) sb.room.units0 hF I.ok.mod.kin J (kx.ty _ _ I.kIn hP) nf hs hf (wpAny_mono (run (.ref a) y (.ref a) v rfl ry hsp) (fun w s' hw => ?_) fun _ _ z => z))
      cases w with
      | bool c =>
        obtain ⟨hc, q⟩ := (show Value.bool c = .bool b ∧ _ from hw)
        exact wpAny_truthy_bool ⟨Value.bool.inj hc, q⟩
      | notImplemented => exact hw.elim
      | _ =>
        obtain ⟨hc, q⟩ := hw
        cases hc
  · cases (show v = Value.ref a from ry)
    obtain ⟨mA, J, _⟩ := ins_get I.hok ha
    obtain ⟨od, J, _⟩ := J.look
    obtain ⟨ht, dec⟩ := pl_dec (A := A) (E := X.xe) I pl rx J hsub
    have hne : x ≠ .ref a := by
      rintro rfl
      cases pl with
      | tup h =>
        obtain ⟨its, r2, e, z⟩ := I.tuple (SqT.of h)
        obtain ⟨o, ho, hc, _⟩ := e
        rw [J.at_] at ho
        cases ho
        cases hc
      | lst h =>
        rw [ha] at h
        cases h
    unfold eqBool
    refine wpAny_holding ?_
    rw [(rel_ne rx hne).2]
    simp only [Bool.false_eq_true, if_false]
    have go : wpAny (model X.prog X.w) A (richCompare .Eq u (.ref a)) (fun w s' => wpAny (model X.prog X.w) A (truthOfDropped w) (fun r s' => r = b ∧ ∃ H', Inv X pins σ H' s' ∧ Ext H H') X.xe s') X.xe s := by
      refine rc_back sb.room.units0 hF I.ok.mod.kin J ht hsub dec hs hf (wpAny_mono (run (.ref a) x (.ref a) u rfl rx hsp) (fun w s' hw => ?_) fun _ _ z => z)
      cases w with
      | bool c =>
        obtain ⟨hc, q⟩ := (show Value.bool c = .bool b ∧ _ from hw)
        exact wpAny_truthy_bool ⟨Value.bool.inj hc, q⟩
      | notImplemented => exact hw.elim
      | _ =>
        obtain ⟨hc, q⟩ := hw
        cases hc
    cases u <;> exact wpAny_bind go
theorem op_inO {X : Cx} {CX : CXT} {k j : Nat} {C : Addr} {qual : Str} {st : Stmt} {ps : List Str} {sp : Sp} {E : XK} (c : Cm X.prog X.w X.K X.mg X.base CX k C "__eq__" qual st ps sp) (b : Bd "__eq__" qual st ps) (hx : Passes CX X E) (hr : Room j X.A) (hk : k + 1 ≤ j) :
    OpR X (compareOp .In) (rInG (DOwn X.K C sp E)) := by
  obtain ⟨f, fd, F, M, hc, G⟩ := c.ex
  exact op_inG (eqB_own G M.1 M.2 (F.bindsN b) hx) (hr.mono hk)
/-- the built-in types come of no class of the text -/
theorem sub_T {K : PySem.W.Frag} {C : Addr} {T : String} (ms : List String) (e : fastBuiltinMro T = some (ms.map Value.type)) : PySem.W.subIn K (.type T) (.ref C) = some false := by
  show (fastBuiltinMro T).map (·.contains (.ref C)) = some false
  rw [e]
  show some ((ms.map Value.type).contains (.ref C)) = some false
  congr 1
  rw [List.contains_eq_any_beq]
  rw [List.any_eq_false]
  intro x hx
  obtain ⟨m, _, rfl⟩ := List.mem_map.mp hx
  simp
theorem sub_ty {K : PySem.W.Frag} {C : Addr} {H : Hp} {z : V} {T : String} (p : Pl K H z T) : PySem.W.subIn K (.type T) (.ref C) = some false := by
  cases p with
  | non => exact sub_T ["NoneType", "object"] (by decide +kernel)
  | bl b => exact sub_T ["bool", "int", "object"] (by decide +kernel)
  | int i => exact sub_T ["int", "object"] (by decide +kernel)
  | str x => exact sub_T ["str", "object"] (by decide +kernel)
  | tup h => exact sub_T ["tuple", "object"] (by decide +kernel)
  | lst h => exact sub_T ["list", "object"] (by decide +kernel)
theorem Pl.tyx {K : PySem.W.Frag} {H : Hp} {z : V} {T : String} (p : Pl K H z T) : TyX K H z (.type T) := by
  cases p with
  | non => exact .base .non
  | bl b => exact .base (.bl b)
  | int i => exact .base (.int i)
  | str x => exact .base (.str x)
  | tup e => exact .base (.tup e)
  | lst e => exact .base (.lst e)
theorem Pl.first {K : PySem.W.Frag} {C : Addr} {H : Hp} {z : V} {T : String} (p : Pl K H z T) : PySem.W.notFirst K C (.type T) = true := by
  unfold PySem.W.notFirst
  rw [sub_ty p]
  simp
end MM
namespace MM
open PySem PySem.Spec PySem.Calls PyProof.Rows L2
/-! ### truths as texts -/
def blS (b : Bool) : Str := if b then "True" else "False"
section
variable {prog : Program} {w : World} {A : Around} {E : Value → Shared → Prop} {s : Shared}
open Builtin Builtin.Str in
theorem strOf_bool {b : Bool} {Q : Value → Shared → Prop} (h : Q (.str (blS b) s.toks) { s with toks := s.toks + 1 }) : wpAny (model prog w) A (PySem.Builtin.Str.strOf (.bool b)) Q E s := by
  unfold PySem.Builtin.Str.strOf
  rw [show isExactStr (.bool b) = false from rfl]
  simp only [cRoomFor, show [Value.bool b].any Value.onHeap = false from rfl, Bool.false_eq_true, if_false, pure_bind]
  refine wpAny_bind (m := callSpecial? _ (PySem.Str.ofString "__str__")) (wpAny_callSpecial?_slot (name := PySem.Str.ofString "__str__") (PySem.typeIs_bool s b) PySem.F.slot_bool_str (call_object_str_gives (PySem.typeIs_bool s b) PySem.F.slot_bool_str PySem.F.slot_bool_repr PySem.F.entry_bool_repr (PySem.F.args_bool_repr_1 _) (gives_bool_repr b) ?_ rfl (by cases b <;> decide)))
  exact wpAny_pure h
theorem str_of_bool {b : Bool} {Q : Value → Shared → Prop} (h : Q (.str (blS b) s.toks) { s with toks := s.toks + 1 }) : wpAny (model prog w) A (call (.type "str") [.bool b]) Q E s := by
  refine callType_codes (T := "str") (Bi := Builtin.«object.__init__») (Q₁ := fun r s₁ => ∃ y u, r = .str y u ∧ Q r s₁) PySem.F.called_str (PySem.F.typeCall_str_1 _) PySem.F.entry_object_init ?_ ?_
  · refine codeAny_of_tree ?_
    show wpAny _ A.in1.in1 (do checkBuiltinCall "str.__new__" ⟨[.type "str", .bool b], []⟩; again (.builtin "str.__new__" ⟨[.type "str", .bool b], []⟩)) _ _ s
    refine wpAny_bind (wpAny_of_eq (PySem.F.newCall_str_1 _) (wpAny_pure ⟨plainId_quiet (by decide +kernel) _, codeAny_builtin PySem.F.entry_str_new ?_⟩))
    rw [Around.under_plainId (by decide +kernel) _]
    rw [str_new_tree]
    refine wpAny_bind (wpAny_pure ?_)
    refine wpAny_bind (wpAny_of_eq isSubtype_str_str ?_)
    exact wpAny_bind (strOf_bool (wpAny_pure ⟨_, _, rfl, h⟩))
  · rintro obj s₁ ⟨y, u, rfl, hq⟩
    exact ⟨typeIs_str _ _ _, PySem.F.args_object_init_2 _ _, object_init_meets PySem.F.called_str.init.lookup PySem.F.called_str.made (by decide) prog w A.in1 _ s₁ ⟨typeIs_str _ _ _, rfl, hq⟩⟩
end
section
variable {X : Cx}
theorem call_str_bool : CallR X (.type "str") (fun xs H Q => ∃ b, xs = [.bl b] ∧ Q (.str (blS b)) H) := by
  intro pins s σ H xs us Q I r h
  obtain ⟨b, rfl, q⟩ := h
  obtain ⟨u, rfl, r1⟩ := vals1 r
  cases (show u = Value.bool b from r1)
  exact str_of_bool ⟨.str _, H, I.tok _, ⟨_, rfl⟩, q⟩
/-- str of a whole number or a truth -/
theorem call_strIB : CallR X (.type "str") (fun xs H Q => (∃ i : Int, xs = [.int i] ∧ i.natAbs.log2 < 1920 ∧ Q (.str (toString i)) H) ∨ ∃ b, xs = [.bl b] ∧ Q (.str (blS b)) H) := CallR.or call_str_int call_str_bool
/-- {x} of a truth -/
def tFmtB (te : TE) : TE := fun σ H Q => te σ H fun x H1 => ∃ b : Bool, x = .bl b ∧ Q (.str (blS b)) H1
theorem pe_fmtB {e : Expr} {te : TE} {pos : Pos} (he : PE X e te) : PE X (.FormattedValue e (-1) none pos) (tFmtB te) := by
  refine ⟨fun pins s σ H Q I h => ?_⟩
  refine wpAny_FormattedValue_plain (thn (he.run pins s σ H _ I h) fun v s1 hv => ?_)
  obtain ⟨x, H1, I1, r1, b, rfl, q⟩ := hv
  cases (show v = Value.bool b from r1)
  exact wpAny_formatField_bool ⟨.str (blS b), H1, I1.tok _, ⟨_, rfl⟩, q⟩
end
/-- str(x) of a whole number, a truth, or an instance with its own __str__ -/
@[irreducible] def rSA (C : Addr) (sp : Sp) (E : XK) : List V → Hp → VK → Prop := fun xs H Q => ((∃ i : Int, xs = [.int i] ∧ i.natAbs.log2 < 1920 ∧ Q (.str (toString i)) H) ∨ ∃ b, xs = [.bl b] ∧ Q (.str (blS b)) H) ∨ rStrO C sp E xs H Q
theorem sa_int {C : Addr} {sp : Sp} {E : XK} {H : Hp} {Q : VK} {i : Int} (h : i.natAbs.log2 < 1920) (q : Q (.str (toString i)) H) : rSA C sp E [.int i] H Q := by
  unfold rSA
  exact .inl (.inl ⟨i, rfl, h, q⟩)
theorem sa_bl {C : Addr} {sp : Sp} {E : XK} {H : Hp} {Q : VK} {b : Bool} (q : Q (.str (blS b)) H) : rSA C sp E [.bl b] H Q := by
  unfold rSA
  exact .inl (.inr ⟨b, rfl, q⟩)
theorem sa_own {C : Addr} {sp : Sp} {E : XK} {H : Hp} {Q : VK} {a dx : Addr} {fs : List (Str × V)} (e : H a = some (.ins C dx fs)) (q : sp [.ref a] H (fun v H' => ∃ x : Str, v = .str x ∧ Q (.str x) H') E) : rSA C sp E [.ref a] H Q := by
  unfold rSA
  exact .inr ⟨a, dx, fs, rfl, e, q⟩
theorem call_str_SA {X : Cx} {CX : CXT} {k : Nat} {C : Addr} {qual : Str} {st : Stmt} {ps : List Str} {sp : Sp} {E : XK} (c : Cm X.prog X.w X.K X.mg X.base CX k C "__str__" qual st ps sp) (b : Bd "__str__" qual st ps) (hr : Room (k + 2) X.A) (hx : Passes CX X E) :
    CallR X (.type "str") (rSA C sp E) := by
  obtain ⟨f, fd, F, M, hc, G⟩ := c.ex
  unfold rSA
  exact CallR.or call_strIB (call_strO G M.1 M.2 (F.bindsN b) hx hr)
theorem call_reprC {X : Cx} {CX : CXT} {k : Nat} {C : Addr} {qual : Str} {st : Stmt} {ps : List Str} {sp : Sp} {E : XK} (c : Cm X.prog X.w X.K X.mg X.base CX k C "__repr__" qual st ps sp) (b : Bd "__repr__" qual st ps) (hr : Room (k + 1) X.A) (hx : Passes CX X E) :
    CallR X (.builtin "repr") (rReprO C sp E) := by
  obtain ⟨f, fd, F, M, hc, G⟩ := c.ex
  exact call_reprO G M.1 M.2 (F.bindsN b) hx hr
theorem ln (xs : List V) (h : Nat.ble xs.length 1000 = true := by rfl) : xs.length ≤ sizeLine := Nat.le_trans (Nat.le_of_ble_eq_true h) (by decide)
end MM
namespace MM
open PySem PySem.Spec PySem.Calls PyProof.Rows L2
/-- an own class that comes of no built-in one -/
structure OwnC (K : PySem.W.Frag) (C : Addr) : Prop where
  iC : PySem.W.isClsIn K C = true
  tC : PySem.W.typeIn K (.ref C) = some (.type "type")
  bn : PySem.W.subIn K (.ref C) (.type "NoneType") = some false
  bb : PySem.W.subIn K (.ref C) (.type "bool") = some false
  bi : PySem.W.subIn K (.ref C) (.type "int") = some false
  bs : PySem.W.subIn K (.ref C) (.type "str") = some false
  bt : PySem.W.subIn K (.ref C) (.type "tuple") = some false
  bl : PySem.W.subIn K (.ref C) (.type "list") = some false
theorem OwnC.sub {K : PySem.W.Frag} {C : Addr} {H : Hp} {z : V} {T : String} (o : OwnC K C) (p : Pl K H z T) : PySem.W.subIn K (.ref C) (.type T) = some false := by
  cases p with
  | non => exact o.bn
  | bl _ => exact o.bb
  | int _ => exact o.bi
  | str _ => exact o.bs
  | tup _ => exact o.bt
  | lst _ => exact o.bl
theorem OwnC.kit {K : PySem.W.Frag} {C : Addr} {H : Hp} {z : V} {T : String} (o : OwnC K C) (p : Pl K H z T) : PySem.W.kitOne K (.type T) (.ref C) = some false := kit_no o.iC o.tC (by simp) (sub_ty p)
theorem Pl.ext {K : PySem.W.Frag} {H H' : Hp} {z : V} {T : String} (p : Pl K H z T) (e : Ext H H') : Pl K H' z T := by
  cases p with
  | non => exact .non
  | bl b => exact .bl b
  | int i => exact .int i
  | str x => exact .str x
  | tup h => exact .tup (e _ _ h)
  | lst h => exact .lst (e _ _ h)
theorem Pl.ne {K : PySem.W.Frag} {H : Hp} {z : V} {T : String} {a C dx : Addr} {fs : List (Str × V)} (p : Pl K H z T) (e : H a = some (.ins C dx fs)) : z ≠ .ref a := by
  rintro rfl
  cases p with
  | tup h =>
    rw [e] at h
    cases h
  | lst h =>
    rw [e] at h
    cases h
end MM
namespace MM
open PySem PySem.Spec PyProof.Rows L2
/-! ### a class called in a try, the names as they stand at the call -/
section
variable {X : Cx} {k j n d : Nat} {C f : Addr} {fd : FuncData} {ps ks : List Str} {sp : Sp} {dvs : List V} {ds : List Value} {x qual : Str} {st : Stmt} {p pos : Pos} {e : Expr} {es : List Expr} {kws : List Keyword} {t tk : TA} {W : WX}
theorem make_S {pins : List (Addr × Obj)} {σ : L2.St} {H : Hp} {s : Shared} {Q : VK} {us : List Value} {zs : List V} {bs : List Value} {kv : List (Str × Value)} (M : Mk X.K C f) (F : FnOk X.prog X.w X.K X.mg X.base (L2.CX X.prog X.w) k f fd ps sp) (hr : Room (k + 1) X.A) (ht : Takes X W) (I : Inv X pins σ H s)
    (hb : ∀ s', X.K.In s'.heap → BindsTo s' fd ⟨Value.ref (s.heap.objs.size + 1) :: us, kv⟩ (ps.zip bs)) (r2 : Vals zs bs)
    (h : sp zs (L2.upd (L2.upd H s.heap.objs.size (.own (s.heap.objs.size + 1))) (s.heap.objs.size + 1) (.ins C s.heap.objs.size [])) (fun v H2 => v = .non ∧ Q (.ref (s.heap.objs.size + 1)) H2) (fun c d H' => W c d σ H')) :
    wpAny (model X.prog X.w) X.A (call (.ref C) us kv) (EP X pins σ Q) X.xe s := by
  have J := Inv.made (C := C) I
  have go := F.run _ X.stack _ _ ⟨Value.ref (s.heap.objs.size + 1) :: us, kv⟩ bs zs _ _ (hr.make C us kv) (J.env0.make C us kv) (hb _ J.kIn) r2 h
  refine wpAny_call (make_map (f := f) I.kIn M.makes M.init (beq_iff_eq.mp M.fn) (codeAny_mono go fun res s' hq => ?_))
  match res, hq with
  | .error er, hq => exact ht er s' (XE.of_call J (fun _ _ _ z => z) hq)
  | .ok .next, hq => exact hq.elim
  | .ok .brk, hq => exact hq.elim
  | .ok .cont, hq => exact hq.elim
  | .ok (.ret u), hq =>
    obtain ⟨v, H3, K3, rv, ev, q3⟩ := J.after hq
    subst ev
    exact ⟨rv, ⟨V.ref (s.heap.objs.size + 1), H3, K3, rfl, q3⟩⟩
/-- C(e, ..) -/
theorem pe_ciS (c : Ci X.prog X.w X.K X.mg X.base (L2.CX X.prog X.w) k x C qual st dvs ps sp) (b : Bd1 "__init__" qual st ps n d dvs.length) (hd : dvs ≠ []) (hn : n + (dvs.length - d) = ps.length) (hr : Room j X.A) (hk : k + 1 ≤ j) (ht : Takes X W) (hg : Gl X x) (ha : PA X (e :: es) t)
    (hdb : (x == ("__debug__" : Str)) = false := by decide) (he : starEach (e :: es) X.env = (false, eval e X.env) :: starEach es X.env := by rfl) (hpl : (backTo pos (starEach es X.env)).any (·.1) = false := by rfl) :
    PE X (.Call (.Name x p) (e :: es) [] pos) (fun σ H Q => t σ H fun vs H1 => ∀ a dx, H1 a = none → H1 dx = none → dx ≠ a → sp (.ref a :: (vs ++ dvs.drop d)) (L2.upd (L2.upd H1 dx (.own a)) a (.ins C dx [])) (fun v H2 => v = .non ∧ Q (.ref a) H2) (fun c d H' => W c d σ H')) := by
  obtain ⟨f, fd, F, M, hm, G⟩ := c.ex
  obtain ⟨ds, r, bb⟩ := F.binds1 n d hd hn b
  refine ⟨fun pins s σ H Q I h => ?_⟩
  refine wpAny_Call_Name_kw (ld_glob I hg hm ?_ hdb)
  refine PySem.W.callWith_K (h₀ := X.base) I.ok.mod.kin M.kp (thn (ha.run pos pins s σ H _ I h) fun us s1 ⟨vs, H1, I1, rv, q⟩ => ⟨I1.kIn, ?_⟩) he hpl
  have hq := q (s1.heap.objs.size + 1) s1.heap.objs.size (I1.hok.fresh (Nat.le_succ _)) (I1.hok.fresh (Nat.le_refl _)) (Nat.ne_of_lt (Nat.lt_succ_self _))
  have r2 : Vals (V.ref (s1.heap.objs.size + 1) :: (vs ++ dvs.drop d)) (Value.ref (s1.heap.objs.size + 1) :: (us ++ ds)) := .cons rfl (rv.append r)
  refine make_S M G (hr.mono hk) ht I1 (fun s' hK => ?_) r2 hq
  exact bb s' (Value.ref (s1.heap.objs.size + 1) :: us) hK (r2.length.symm.trans (G.len _ _ _ _ hq))
/-- C(k = v, ..) -/
theorem pe_ciKS0 {g : {α : Type} → List α → List α → List α → List α} (c : Ci X.prog X.w X.K X.mg X.base (L2.CX X.prog X.w) k x C qual st dvs ps sp) (b : Kd qual st dvs.length 1 ks ps g) (hd : dvs ≠ []) (hr : Room j X.A) (hk : k + 1 ≤ j) (ht : Takes X W) (hg : Gl X x) (hkw : PK X kws tk)
    (hall : (backToKw pos (keywordEach kws X.env)).all (·.1.isSome) = true := by rfl) (hks : (backToKw pos (keywordEach kws X.env)).filterMap (·.1) = ks := by rfl) (hdb : (x == ("__debug__" : Str)) = false := by decide)
    (hpl : ((backTo pos (starEach [] X.env)).any (·.1) || (backToKw pos (keywordEach kws X.env)).any (·.1.isNone)) = false := by rfl) :
    PE X (.Call (.Name x p) [] kws pos) (fun σ H Q => tk σ H fun zs H1 => zs.length = ks.length ∧ ∀ a dx, H1 a = none → H1 dx = none → dx ≠ a → sp (g [.ref a] dvs zs) (L2.upd (L2.upd H1 dx (.own a)) a (.ins C dx [])) (fun v H2 => v = .non ∧ Q (.ref a) H2) (fun c d H' => W c d σ H')) := by
  obtain ⟨f, fd, F, M, hm, G⟩ := c.ex
  obtain ⟨its, hb⟩ := F.kbindsD 1 ks g hd b.rel b.bind
  refine ⟨fun pins s σ H Q I h => ?_⟩
  refine wpAny_Call_Name_kw (ld_glob I hg hm ?_ hdb)
  refine PySem.W.callWith_KW0 (h₀ := X.base) I.ok.mod.kin M.kp hall ?_ hpl
  refine thn (hkw.run pos pins s σ H _ I h) fun ws s1 ⟨zs, H1, I1, rz, l2, q⟩ => ⟨I1.kIn, ?_⟩
  rw [hks]
  have hq := q (s1.heap.objs.size + 1) s1.heap.objs.size (I1.hok.fresh (Nat.le_succ _)) (I1.hok.fresh (Nat.le_refl _)) (Nat.ne_of_lt (Nat.lt_succ_self _))
  have r2 := hb.rel (vs := [V.ref (s1.heap.objs.size + 1)]) (us := [Value.ref (s1.heap.objs.size + 1)]) (.cons rfl .nil) rz
  refine make_S (us := []) M G (hr.mono hk) ht I1 (fun s' hK => ?_) r2 hq
  exact hb.to s' [Value.ref (s1.heap.objs.size + 1)] ws hK rfl (rz.length.symm.trans l2)
/-- C(e, .., k = v, ..) -/
theorem pe_ciKS {g : {α : Type} → List α → List α → List α → List α} (c : Ci X.prog X.w X.K X.mg X.base (L2.CX X.prog X.w) k x C qual st dvs ps sp) (b : Kd qual st dvs.length (n + 1) ks ps g) (hd : dvs ≠ []) (hr : Room j X.A) (hk : k + 1 ≤ j) (ht : Takes X W) (hg : Gl X x) (ha : PA X (e :: es) t) (hkw : PK X kws tk)
    (hall : (backToKw pos (keywordEach kws X.env)).all (·.1.isSome) = true := by rfl) (hks : (backToKw pos (keywordEach kws X.env)).filterMap (·.1) = ks := by rfl) (hdb : (x == ("__debug__" : Str)) = false := by decide)
    (he : starEach (e :: es) X.env = (false, eval e X.env) :: starEach es X.env := by rfl) (hpl : ((backTo pos (starEach (e :: es) X.env)).any (·.1) || (backToKw pos (keywordEach kws X.env)).any (·.1.isNone)) = false := by rfl) :
    PE X (.Call (.Name x p) (e :: es) kws pos) (fun σ H Q => t σ H fun vs H0 => tk σ H0 fun zs H1 => vs.length = n ∧ zs.length = ks.length ∧ ∀ a dx, H1 a = none → H1 dx = none → dx ≠ a → sp (g (.ref a :: vs) dvs zs) (L2.upd (L2.upd H1 dx (.own a)) a (.ins C dx [])) (fun v H2 => v = .non ∧ Q (.ref a) H2) (fun c d H' => W c d σ H')) := by
  obtain ⟨f, fd, F, M, hm, G⟩ := c.ex
  obtain ⟨its, hb⟩ := F.kbindsD (n + 1) ks g hd b.rel b.bind
  refine ⟨fun pins s σ H Q I h => ?_⟩
  refine wpAny_Call_Name_kw (ld_glob I hg hm ?_ hdb)
  refine PySem.W.callWith_KW (h₀ := X.base) I.ok.mod.kin M.kp hall (thn (ha.run pos pins s σ H _ I h) fun us s0 ⟨vs, H0, I0, r, q0⟩ => ?_) hpl he
  refine thn (hkw.run pos pins s0 σ H0 _ I0 q0) fun ws s1 ⟨zs, H1, I1, rz, l1, l2, q⟩ => ⟨I1.kIn, ?_⟩
  rw [hks]
  have hq := q (s1.heap.objs.size + 1) s1.heap.objs.size (I1.hok.fresh (Nat.le_succ _)) (I1.hok.fresh (Nat.le_refl _)) (Nat.ne_of_lt (Nat.lt_succ_self _))
  have r2 := hb.rel (vs := V.ref (s1.heap.objs.size + 1) :: vs) (us := Value.ref (s1.heap.objs.size + 1) :: us) (.cons rfl r) rz
  refine make_S M G (hr.mono hk) ht I1 (fun s' hK => ?_) r2 hq
  exact hb.to s' (Value.ref (s1.heap.objs.size + 1) :: us) ws hK (by rw [List.length_cons, ← r.length, l1]) (rz.length.symm.trans l2)
end
end MM
namespace MM
open PySem PySem.Spec PySem.Calls PyProof.Rows L2
open AutoSeq1 (wpAny_loadPart')
open GQ (FinOf call_here)
/-! ### tuples of instances, != -/
section
variable {prog : Program} {w : World} {A : Around} {R : Result → Shared → Prop}
theorem tup_ne (l b : Addr) (xs ys : Array Value) (n m : Nat) (dd de : Option Addr) (sl sm : Array (Option Value)) (hz : xs.size = ys.size) (Iv : Nat → Shared → Prop)
    (turn : ∀ i (h1 : i < xs.size) (h2 : i < ys.size) s, Iv i s → wpAny (model prog w) A.in1 (eqBool xs[i] ys[i]) (fun r s' => r = true ∧ Iv (i + 1) s') (fun e s' => R (.error e) s') s)
    (fin : ∀ s, Iv xs.size s → R (.ok (.ret (.bool false))) s) {s : Shared} (ha : s.heap.get? l = some { cls := .type "tuple", dict := dd, data := .seq xs n, slots := sl }) (hb : s.heap.get? b = some { cls := .type "tuple", dict := de, data := .seq ys m, slots := sm }) (h : Iv 0 s) :
    wpAny (model prog w) A.in1 (Builtin.«tuple.__ne__» ⟨[.ref l, .ref b], []⟩) (FinOf prog w A R) (fun e s' => R (.error e) s') s := by
  have f2 := AutoSeq1.sub_tuple_tuple
  have hZ : (xs.toList.zip ys.toList).length = xs.size := by simp [hz]
  have h0 := h
  obtain ⟨hp, g, d, tk, os⟩ := s
  wp_walk using wpAny_loadPart' ha, wpAny_loadPart' hb, wpAny_forIn_list _ (fun rest b s' => b.1 = none ∧ ∃ i, rest = (xs.toList.zip ys.toList).drop i ∧ i ≤ xs.size ∧ Iv i s') _
  case turn =>
    rintro ⟨y, x⟩ rest b s' ⟨hb', i, hq, hi, hI⟩
    have hlt : i < (xs.toList.zip ys.toList).length := by
      by_cases h' : i < (xs.toList.zip ys.toList).length
      · exact h'
      · rw [List.drop_of_length_le (by omega)] at hq
        cases hq
    have h1 : i < xs.size := hZ ▸ hlt
    have h2 : i < ys.size := hz ▸ h1
    rw [List.drop_eq_getElem_cons hlt] at hq
    injection hq with hyx hrest
    have hy : y = xs[i] := by have := congrArg Prod.fst hyx; simpa using this
    have hx : x = ys[i] := by have := congrArg Prod.snd hyx; simpa using this
    subst hy hx
    refine wpAny_bind (wpAny_mono (turn i h1 h2 s' hI) (fun r s2 q2 => ?_) fun _ _ x => x)
    obtain ⟨hr, q2⟩ := q2
    subst hr
    wp_walk
    exact ⟨rfl, i + 1, hrest, h1, q2⟩
  case fin =>
    rintro ⟨b1, b2⟩ s' ⟨hb', i, hq, hi, hI⟩
    simp only at hb'
    subst hb'
    have hge : xs.size ≤ i := by
      by_cases h' : i < (xs.toList.zip ys.toList).length
      · rw [List.drop_eq_getElem_cons h'] at hq
        cases hq
      · omega
    have hi' : i = xs.size := by omega
    have hR : R (.ok (.ret (.bool false))) s' := fin s' (hi' ▸ hI)
    wp_walk
    simpa [Builtin.Tuple.tupleCompareSizes, hz] using hR
  case h =>
    exact ⟨rfl, 0, rfl, Nat.zero_le _, h0⟩
theorem rc_tup_ne {E : Value → Shared → Prop} {s : Shared} {l b : Addr} {xs ys : Array Value} {Q : Value → Shared → Prop} (hz : xs.size = ys.size) (hu : A.units < cLine) (Iv : Nat → Shared → Prop) (hl : s.heap.IsTuple l xs) (hb : s.heap.IsTuple b ys)
    (turn : ∀ i (h1 : i < xs.size) (h2 : i < ys.size) s, Iv i s → wpAny (model prog w) A.in1 (eqBool xs[i] ys[i]) (fun r s' => r = true ∧ Iv (i + 1) s') E s)
    (fin : ∀ s, Iv xs.size s → Q (.bool false) s) (h : Iv 0 s) : wpAny (model prog w) A (richCompare .NotEq (.ref l) (.ref b)) Q E s := by
  obtain ⟨⟨cls, dd, data, sl⟩, ho, hc, n, hd⟩ := id hl
  obtain ⟨⟨cls2, dd2, data2, sl2⟩, ho2, hc2, n2, hd2⟩ := id hb
  simp only at hc hd hc2 hd2
  subst hc hd hc2 hd2
  refine wpAny_richCompare_same_room (op := .NotEq) ⟨_, ho, rfl⟩ ⟨_, ho2, rfl⟩ PySem.F.slot_tuple_ne (call_here PySem.F.slot_tuple_ne ⟨_, ho, rfl⟩ PySem.F.entry_tuple_ne (PySem.F.args_tuple_ne_2 _ _) ?_) hu
  exact tup_ne (R := wants (fun v s' => v ≠ .notImplemented ∧ Q v s') E) l b xs ys n n2 dd dd2 sl sl2 hz Iv turn (fun s' q => ⟨(fun x => nomatch x), fin s' q⟩) ho ho2 h
end
/-- tuples whose things are equal one by one -/
def rNeG (D : Eqv) : R2 := fun x y H Q => D x y H ∧ ∀ H', Ext H H' → Q (.bl false) H'
theorem op_neTG {X : Cx} {n : Nat} {D : Eqv} (hD : Mon D) (h : EqG X n D) (hr : Room (n + 1) X.A) : OpR X (compareOp .NotEq) (rNeG (DTup X.K D)) := by
  intro pins s σ H x y v u Q I rx ry hq
  obtain ⟨⟨a, b, xs, ys, rfl, rfl, ha, hb, p⟩, q⟩ := hq
  cases (show v = Value.ref a from rx)
  cases (show u = Value.ref b from ry)
  have sb : L2.Sub X (n + 1) X.A := ⟨hr, rfl⟩
  obtain ⟨its, r, e, z⟩ := I.tuple ha
  obtain ⟨its2, r2, e2, z2⟩ := I.tuple hb
  have hz : its.toArray.size = its2.toArray.size := by rw [List.size_toArray, List.size_toArray, ← r.length, ← r2.length]; exact p.1
  show wpAny (model X.prog X.w) X.A (richCompare .NotEq (.ref a) (.ref b)) (EP X pins σ Q) X.xe s
  refine rc_tup_ne hz sb.room.units0 (fun _ s' => LoopI X pins σ H s') e e2 (fun i h1 h2 s' q => turnG hD h sb p r r2 i h1 h2 s' q) (fun s' q' => ?_) ⟨H, I, Ext.rfl'⟩
  obtain ⟨H', I', e'⟩ := q'
  exact ⟨.bl false, H', I', rfl, q H' e'⟩
/-- equal things of a class by its own __eq__ -/
theorem eqG_own {X : Cx} {CX : CXT} {k : Nat} {C : Addr} {qual : Str} {st : Stmt} {ps : List Str} {sp : Sp} {E : XK} {D : Eqv} (c : Cm X.prog X.w X.K X.mg X.base CX k C "__eq__" qual st ps sp) (b : Bd "__eq__" qual st ps) (hx : Passes CX X E) (hd : ∀ x y H, D x y H → DOwn X.K C sp E x y H true) : EqG X k D := by
  obtain ⟨f, fd, F, M, hc, G⟩ := c.ex
  intro A pins s σ H x y u v sb I rx ry d
  exact eqB_own G M.1 M.2 (F.bindsN b) hx A pins s σ H x y u v true sb I rx ry (hd x y H d)
end MM
namespace MM
open PySem PySem.Spec PySem.Calls PyProof.Rows L2
open AutoSeq1 (wpAny_loadPart')
open GQ (FinOf call_here)
/-! ### tuples of instances, ==, with either answer -/
section
variable {prog : Program} {w : World} {A : Around} {R : Result → Shared → Prop}
theorem tup_eqB (l b : Addr) (xs ys : Array Value) (n m : Nat) (dd de : Option Addr) (sl sm : Array (Option Value)) (hz : xs.size = ys.size) (B : Nat → Bool) (Iv : Nat → Shared → Prop)
    (turn : ∀ i (h1 : i < xs.size) (h2 : i < ys.size) s, Iv i s → wpAny (model prog w) A.in1 (eqBool xs[i] ys[i]) (fun r s' => r = B i ∧ Iv (i + 1) s') (fun e s' => R (.error e) s') s)
    (finF : ∀ i s, i < xs.size → B i = false → Iv (i + 1) s → R (.ok (.ret (.bool false))) s) (fin : (∀ i, i < xs.size → B i = true) → ∀ s, Iv xs.size s → R (.ok (.ret (.bool true))) s) {s : Shared} (ha : s.heap.get? l = some { cls := .type "tuple", dict := dd, data := .seq xs n, slots := sl }) (hb : s.heap.get? b = some { cls := .type "tuple", dict := de, data := .seq ys m, slots := sm }) (h : Iv 0 s) :
    wpAny (model prog w) A.in1 (Builtin.«tuple.__eq__» ⟨[.ref l, .ref b], []⟩) (FinOf prog w A R) (fun e s' => R (.error e) s') s := by
  have f2 := AutoSeq1.sub_tuple_tuple
  have hZ : (xs.toList.zip ys.toList).length = xs.size := by simp [hz]
  have h0 := h
  obtain ⟨hp, g, d, tk, os⟩ := s
  wp_walk using wpAny_loadPart' ha, wpAny_loadPart' hb, wpAny_forIn_list _ (fun rest b s' => (b.1 = none ∧ ∃ i, rest = (xs.toList.zip ys.toList).drop i ∧ i ≤ xs.size ∧ (∀ j, j < i → B j = true) ∧ Iv i s')) _
  case turn =>
    rintro ⟨y, x⟩ rest b s' ⟨hb', i, hq, hi, hall, hI⟩
    have hlt : i < (xs.toList.zip ys.toList).length := by
      by_cases h' : i < (xs.toList.zip ys.toList).length
      · exact h'
      · rw [List.drop_of_length_le (by omega)] at hq
        cases hq
    have h1 : i < xs.size := hZ ▸ hlt
    have h2 : i < ys.size := hz ▸ h1
    rw [List.drop_eq_getElem_cons hlt] at hq
    injection hq with hyx hrest
    have hy : y = xs[i] := by have := congrArg Prod.fst hyx; simpa using this
    have hx : x = ys[i] := by have := congrArg Prod.snd hyx; simpa using this
    subst hy hx
    refine wpAny_bind (wpAny_mono (turn i h1 h2 s' hI) (fun r s2 q2 => ?_) fun _ _ x => x)
    obtain ⟨hr, q2⟩ := q2
    cases hB : B i with
    | true =>
      rw [hB] at hr
      subst hr
      wp_walk
      refine ⟨rfl, i + 1, hrest, h1, fun j hj => ?_, q2⟩
      by_cases e : j = i
      · subst e
        exact hB
      · exact hall j (by omega)
    | false =>
      rw [hB] at hr
      subst hr
      have q3 := finF i s2 h1 hB q2
      wp_walk
      exact q3
  case fin =>
    rintro ⟨b1, b2⟩ s' ⟨hb', i, hq, hi, hall, hI⟩
    simp only at hb'
    subst hb'
    have hge : xs.size ≤ i := by
      by_cases h' : i < (xs.toList.zip ys.toList).length
      · rw [List.drop_eq_getElem_cons h'] at hq
        cases hq
      · omega
    have hi' : i = xs.size := by omega
    have hR : R (.ok (.ret (.bool true))) s' := fin (fun j hj => hall j (by omega)) s' (hi' ▸ hI)
    wp_walk
    simpa [Builtin.Tuple.tupleCompareSizes, hz] using hR
  case h =>
    exact ⟨rfl, 0, rfl, Nat.zero_le _, fun j hj => absurd hj (Nat.not_lt_zero j), h0⟩
end

/-- x == y, tuples whose i-th things are == just where B i -/
def rEqTB (K : PySem.W.Frag) (D : V → V → Hp → Bool → Prop) : R2 := fun x y H Q => ∃ (a b : Addr) (xs ys : List V) (B : Nat → Bool), x = .ref a ∧ y = .ref b ∧ SqT K H a xs ∧ SqT K H b ys ∧ xs.length = ys.length ∧ (∀ i p q, xs[i]? = some p → ys[i]? = some q → ∀ H', Ext H H' → D p q H' (B i)) ∧ ∀ H', Ext H H' → Q (.bl ((List.range xs.length).all B)) H'
theorem get_arr {xs : List V} {its : List Value} (r : Vals xs its) {i : Nat} (h1 : i < its.toArray.size) : ∃ x, xs[i]? = some x ∧ RelV x its.toArray[i] := by
  have hi : i < its.length := by simpa using h1
  have hx : i < xs.length := by rw [r.length]; exact hi
  obtain ⟨w, hw, rw'⟩ := r.get (List.getElem?_eq_getElem hx)
  refine ⟨_, List.getElem?_eq_getElem hx, ?_⟩
  have ew : its.toArray[i] = w := by
    rw [List.getElem?_eq_getElem hi] at hw
    simpa using Option.some.inj hw
  rw [ew]
  exact rw'
theorem op_eqTB {X : Cx} {n : Nat} {D : V → V → Hp → Bool → Prop} (h : EqB X n D) (hr : Room (n + 1) X.A) : OpR X (compareOp .Eq) (rEqTB X.K D) := by
  intro pins s σ H x y v u Q I rx ry hq
  obtain ⟨a, b, xs, ys, B, rfl, rfl, ha, hb, hlen, hD, q⟩ := hq
  cases (show v = Value.ref a from rx)
  cases (show u = Value.ref b from ry)
  have sb : L2.Sub X (n + 1) X.A := ⟨hr, rfl⟩
  obtain ⟨its, r, e, z⟩ := I.tuple ha
  obtain ⟨its2, r2, e2, z2⟩ := I.tuple hb
  have hz : its.toArray.size = its2.toArray.size := by rw [List.size_toArray, List.size_toArray, ← r.length, ← r2.length]; exact hlen
  have hzx : its.toArray.size = xs.length := by rw [List.size_toArray, ← r.length]
  obtain ⟨⟨cls, dd, data, sl⟩, ho, hc, m1, hd⟩ := id e
  obtain ⟨⟨cls2, dd2, data2, sl2⟩, ho2, hc2, m2, hd2⟩ := id e2
  simp only at hc hd hc2 hd2
  subst hc hd hc2 hd2
  show wpAny (model X.prog X.w) X.A (richCompare .Eq (.ref a) (.ref b)) (EP X pins σ Q) X.xe s
  refine wpAny_richCompare_same_room (op := .Eq) ⟨_, ho, rfl⟩ ⟨_, ho2, rfl⟩ PySem.F.slot_tuple_eq (call_here PySem.F.slot_tuple_eq ⟨_, ho, rfl⟩ PySem.F.entry_tuple_eq (PySem.F.args_tuple_eq_2 _ _) ?_) sb.room.units0
  refine tup_eqB (R := wants (fun v s' => v ≠ .notImplemented ∧ EP X pins σ Q v s') X.xe) a b its.toArray its2.toArray m1 m2 dd dd2 sl sl2 hz B (fun _ s' => LoopI X pins σ H s') ?_ ?_ ?_ ho ho2 ⟨H, I, Ext.rfl'⟩
  · intro i h1 h2 s' hl
    obtain ⟨H', I', x'⟩ := hl
    obtain ⟨p, hp, rp⟩ := get_arr r h1
    obtain ⟨p2, hp2, rp2⟩ := get_arr r2 h2
    refine wpAny_mono (h X.A.in1 pins s' σ H' _ _ _ _ (B i) sb.in1 I' rp rp2 (hD i p p2 hp hp2 H' x')) (fun c s2 z2 => ?_) fun _ _ y => y
    obtain ⟨hc, H2, I2, x2⟩ := z2
    exact ⟨hc, H2, I2, x'.trans x2⟩
  · rintro i s' hi hB ⟨H', I', x'⟩
    refine ⟨(fun z => nomatch z), .bl false, H', I', rfl, ?_⟩
    have z := q H' x'
    have ea : (List.range xs.length).all B = false := by
      rw [List.all_eq_false]
      exact ⟨i, List.mem_range.mpr (by omega), by rw [hB]; decide⟩
    rw [ea] at z
    exact z
  · rintro hall s' ⟨H', I', x'⟩
    refine ⟨(fun z => nomatch z), .bl true, H', I', rfl, ?_⟩
    have z := q H' x'
    have ea : (List.range xs.length).all B = true := by
      rw [List.all_eq_true]
      intro j hj
      exact hall j (by have := List.mem_range.mp hj; omega)
    rw [ea] at z
    exact z
/-! ### x not in [..] by an own __eq__ -/
section
variable {prog : Program} {w : World} {A : Around}
theorem notin_listG {E : Value → Shared → Prop} {s : Shared} {Q : Value → Shared → Prop} (l : Addr) (x : Value) (N : Nat) (B : Nat → Bool) (Iv : Nat → Shared → Prop)
    (hl : ∀ i s, Iv i s → ∃ (its : Array Value) (n : Nat), s.heap.get? l = some { cls := .type "list", data := .seq its n } ∧ its.size = N ∧ ∀ h : i < its.size, wpAny (model prog w) A.in1 (eqBool its[i] x) (fun r s' => r = B i ∧ Iv (i + 1) s') E s)
    (fT : ∀ i s, i < N → B i = true → Iv (i + 1) s → Q (.bool false) s) (fF : (∀ j, j < N → B j = false) → ∀ s, Iv N s → Q (.bool true) s) (h : Iv 0 s) : wpAny (model prog w) A (compareOp .NotIn x (.ref l)) Q E s := by
  obtain ⟨its, n, h1, _, _⟩ := hl _ _ h
  show wpAny _ A (do return .bool (!(← contains (.ref l) x))) Q E s
  refine wpAny_bind (wpAny_contains_slot ⟨_, h1, rfl⟩ PySem.F.slot_list_contains (wpAny_mono (call_here (Q := fun v s' => ∃ b, v = .bool b ∧ Q (.bool (!b)) s') PySem.F.slot_list_contains ⟨_, h1, rfl⟩ PySem.F.entry_list_contains (PySem.F.args_list_contains_2 _ _) ?_) (fun v s' hv => ?_) fun _ _ e => e))
  · have go := in_loopG (prog := prog) (w := w) (A := A) (R := wants (fun v s' => ∃ b, v = .bool b ∧ Q (.bool (!b)) s') E) l x N B Iv hl (fun i s hi hb q => ⟨true, rfl, fT i s hi hb q⟩) (fun hno s q => ⟨false, rfl, fF hno s q⟩) (N - 0) 0 rfl (Nat.zero_le _) (fun j hj => absurd hj (Nat.not_lt_zero j)) s h
    obtain ⟨hp, g, d, tk, os⟩ := s
    wp_walk
    exact ⟨plainId_quiet PySem.MeetsSeq.plain_contains_loop _, codeAny_builtin PySem.MeetsSeq.entry_contains_loop (by
      rw [Around.under_plainId PySem.MeetsSeq.plain_contains_loop _]
      exact go)⟩
  · obtain ⟨b, rfl, hq⟩ := hv
    exact wpAny_truthy_bool (wpAny_pure hq)
/-! ### [..].count(x) by an own __eq__ -/
theorem count_loopG {R : Result → Shared → Prop} (l : Addr) (x : Value) (N : Nat) (B : Nat → Bool) (Iv : Nat → Shared → Prop)
    (hl : ∀ i s, Iv i s → ∃ (its : Array Value) (n : Nat), s.heap.get? l = some { cls := .type "list", data := .seq its n } ∧ its.size = N ∧ ∀ h : i < its.size, wpAny (model prog w) A.in1 (eqBool its[i] x) (fun r s' => r = B i ∧ Iv (i + 1) s') (fun e s' => R (.error e) s') s)
    (fin : ∀ s t k, Iv N s → R (.ok (.ret (.int (((List.range N).countP B : Nat) : Int) t))) { s with toks := k }) (k : Nat) :
    ∀ i : Nat, N - i = k → i ≤ N → ∀ s, Iv i s →
      wpAny (model prog w) A.in1 (Builtin.«list.count.loop» ⟨[.ref l, x, rawInt i, rawInt ((((List.range i).countP B : Nat)) : Int)], []⟩) (FinOf prog w A R) (fun e s' => R (.error e) s') s := by
  induction k with
  | zero =>
    intro i hk hi s h
    obtain ⟨its, n, h1, hs, _⟩ := hl _ _ h
    have ei : i = N := by omega
    subst ei
    have hR := fin s
    obtain ⟨hp, g, d, tk, os⟩ := s
    wp_walk using wpAny_loadPart' h1
    have e1 : its[((i : Nat) : Int).toNat]? = none := by simp; omega
    rw [e1]
    wp_walk
    exact hR _ _ h
  | succ k ih =>
    intro i hk hi s h
    obtain ⟨its, n, h1, hs, turn⟩ := hl _ _ h
    have hlt : i < its.size := by omega
    have ht := turn hlt
    obtain ⟨hp, g, d, tk, os⟩ := s
    wp_walk using wpAny_loadPart' h1
    have e1 : its[((i : Nat) : Int).toNat]? = some its[i] := by simp [hlt]
    have hc : ((i : Int) + 1) = ((i + 1 : Nat) : Int) := by omega
    rw [e1]
    refine wpAny_bind (wpAny_mono ht (fun r s2 h2 => ?_) fun _ _ z => z)
    obtain ⟨hr, h2⟩ := h2
    subst hr
    have hrec := ih (i + 1) (by omega) (by omega) s2 h2
    have ec : (if B i = true then (((List.range i).countP B : Nat) : Int) + 1 else (((List.range i).countP B : Nat) : Int)) = (((List.range (i + 1)).countP B : Nat) : Int) := by
      rw [List.range_succ, List.countP_append]
      rw [show List.countP B [i] = if B i = true then 1 else 0 by rw [List.countP_cons]; simp]
      split <;> omega
    obtain ⟨hp2, g2, d2, tk2, os2⟩ := s2
    wp_walk
    rw [hc, ec]
    exact ⟨plainId_quiet PySem.MeetsSeq.plain_count_loop _, codeAny_builtin PySem.MeetsSeq.entry_count_loop (by
      rw [Around.under_plainId PySem.MeetsSeq.plain_count_loop _]
      exact hrec)⟩
end
def rNotInG (D : V → V → Hp → Bool → Prop) : R2 := fun x y H Q => ∃ (p : Addr) (xs : List V) (B : Nat → Bool), y = .ref p ∧ H p = some (.lst xs) ∧ (∀ i z, xs[i]? = some z → ∀ H', Ext H H' → D z x H' (B i)) ∧ ∀ H', Ext H H' → Q (.bl (!(List.range xs.length).any B)) H'
/-- the i-th thing of the list at p beside x, in whatever state came -/
theorem turn_lst {X : Cx} {n : Nat} {D : V → V → Hp → Bool → Prop} (h : EqB X n D) {A : Around} (sb : L2.Sub X n A) {pins : List (Addr × Obj)} {σ : L2.St} {H : Hp} {p : Addr} {xs : List V} {x : V} {v : Value} {B : Nat → Bool} (hp : H p = some (.lst xs)) (rx : RelV x v)
    (hD : ∀ i z, xs[i]? = some z → ∀ H', Ext H H' → D z x H' (B i)) : ∀ (i : Nat) (s' : Shared), LoopI X pins σ H s' → ∃ (its : Array Value) (k : Nat), s'.heap.get? p = some { cls := .type "list", data := .seq its k } ∧ its.size = xs.length ∧ ∀ h1 : i < its.size, wpAny (model X.prog X.w) A (eqBool its[i] v) (fun r s2 => r = B i ∧ LoopI X pins σ H s2) X.xe s' := by
  rintro i s' ⟨H', I', e⟩
  obtain ⟨z, its, k, r, ek⟩ := I'.hok p _ (e _ _ hp)
  refine ⟨its.toArray, k, ek, by rw [List.size_toArray, ← r.length], fun h1 => ?_⟩
  obtain ⟨y, hy, ry⟩ := get_arr r h1
  refine wpAny_mono (h A pins s' σ H' _ x _ v (B i) sb I' ry rx (hD i _ hy H' e)) (fun c s2 z2 => ?_) fun _ _ y => y
  obtain ⟨hc, H2, I2, e2⟩ := z2
  exact ⟨hc, H2, I2, e.trans e2⟩
theorem op_notInG {X : Cx} {n : Nat} {D : V → V → Hp → Bool → Prop} (h : EqB X n D) (hr : Room (n + 1) X.A) : OpR X (compareOp .NotIn) (rNotInG D) := by
  intro pins s σ H x y v u Q I rx ry hq
  obtain ⟨p, xs, B, rfl, hp, hD, q⟩ := hq
  cases (show u = Value.ref p from ry)
  have sb : L2.Sub X (n + 1) X.A := ⟨hr, rfl⟩
  refine notin_listG (A := X.A) p v xs.length B (fun _ s' => LoopI X pins σ H s') (fun i s' hl => turn_lst h sb.in1 hp rx hD i s' hl) ?_ ?_ ⟨H, I, Ext.rfl'⟩
  · rintro i s' hi hb ⟨H', I', e⟩
    refine ⟨.bl false, H', I', rfl, ?_⟩
    have z := q H' e
    have ea : (List.range xs.length).any B = true := List.any_eq_true.mpr ⟨i, List.mem_range.mpr hi, hb⟩
    rw [ea] at z
    exact z
  · rintro hno s' ⟨H', I', e⟩
    refine ⟨.bl true, H', I', rfl, ?_⟩
    have z := q H' e
    have ea : (List.range xs.length).any B = false := by
      rw [List.any_eq_false]
      intro j hj
      rw [hno j (List.mem_range.mp hj)]
      decide
    rw [ea] at z
    exact z
theorem op_notInO {X : Cx} {CX : CXT} {k j : Nat} {C : Addr} {qual : Str} {st : Stmt} {ps : List Str} {sp : Sp} {E : XK} (c : Cm X.prog X.w X.K X.mg X.base CX k C "__eq__" qual st ps sp) (b : Bd "__eq__" qual st ps) (hx : Passes CX X E) (hr : Room j X.A) (hk : k + 1 ≤ j) :
    OpR X (compareOp .NotIn) (rNotInG (DOwn X.K C sp E)) := by
  obtain ⟨f, fd, F, M, hc, G⟩ := c.ex
  exact op_notInG (eqB_own G M.1 M.2 (F.bindsN b) hx) (hr.mono hk)
/-- [..].count(x) -/
def rCountG (D : V → V → Hp → Bool → Prop) : V → List V → Hp → VK → Prop := fun y vs H Q => ∃ (p : Addr) (xs : List V) (x : V) (B : Nat → Bool), y = .ref p ∧ vs = [x] ∧ H p = some (.lst xs) ∧ (∀ i z, xs[i]? = some z → ∀ H', Ext H H' → D z x H' (B i)) ∧ ∀ H', Ext H H' → Q (.int (((List.range xs.length).countP B : Nat) : Int)) H'
theorem mt_countG {X : Cx} {n : Nat} {D : V → V → Hp → Bool → Prop} (h : EqB X n D) (hr : Room (n + 1) X.A) : MtR X "list.count" (rCountG D) := by
  intro pins s σ H y vs v us Q I ry rs hq
  obtain ⟨p, xs, x, B, rfl, rfl, hp, hD, q⟩ := hq
  cases (show v = Value.ref p from ry)
  obtain ⟨u, rfl, rx⟩ := vals1 rs
  have sb : L2.Sub X (n + 1) X.A := ⟨hr, rfl⟩
  obtain ⟨z, its, k, r, ek⟩ := I.hok p _ hp
  refine call_here PySem.F.slot_list_count ⟨_, ek, rfl⟩ PySem.F.entry_list_count (PySem.F.args_list_count_2 _ _) ?_
  have go := count_loopG (prog := X.prog) (w := X.w) (A := X.A) (R := wants (EP X pins σ Q) X.xe) p u xs.length B (fun _ s' => LoopI X pins σ H s') (fun i s' hl => turn_lst h sb.in1 hp rx hD i s' hl) (fun s' t k ⟨H', I', e⟩ => ⟨.int _, H', I'.tok _, ⟨t, rfl⟩, q H' e⟩) xs.length 0 rfl (Nat.zero_le _) s ⟨H, I, Ext.rfl'⟩
  obtain ⟨hp2, g, d, tk, os⟩ := s
  wp_walk
  exact ⟨plainId_quiet PySem.MeetsSeq.plain_count_loop _, codeAny_builtin PySem.MeetsSeq.entry_count_loop (by
    rw [Around.under_plainId PySem.MeetsSeq.plain_count_loop _]
    exact go)⟩
theorem mt_countO {X : Cx} {CX : CXT} {k j : Nat} {C : Addr} {qual : Str} {st : Stmt} {ps : List Str} {sp : Sp} {E : XK} (c : Cm X.prog X.w X.K X.mg X.base CX k C "__eq__" qual st ps sp) (b : Bd "__eq__" qual st ps) (hx : Passes CX X E) (hr : Room j X.A) (hk : k + 1 ≤ j) :
    MtR X "list.count" (rCountG (DOwn X.K C sp E)) := by
  obtain ⟨f, fd, F, M, hc, G⟩ := c.ex
  exact mt_countG (eqB_own G M.1 M.2 (F.bindsN b) hx) (hr.mono hk)
/-! ### {x} and {x!r} of instances with their own __str__ and __repr__ -/
def tFmtO (C : Addr) (sp : Sp) (E : XK) (te : TE) : TE := fun σ H Q => te σ H fun x H1 => ∃ (a dx : Addr) (fs : List (Str × V)), x = .ref a ∧ H1 a = some (.ins C dx fs) ∧ sp [.ref a] H1 (fun v H' => ∃ y : Str, v = .str y ∧ Q (.str y) H') E
section
variable {X : Cx} {CX : CXT} {k j : Nat} {C : Addr} {qual : Str} {st : Stmt} {ps : List Str} {sp : Sp} {E : XK} {e : Expr} {te : TE} {pos : Pos}
theorem run_own {A : Around} {n : Nat} {f : Addr} {fd : FuncData} {pins : List (Addr × Obj)} {σ : L2.St} {H : Hp} {s : Shared} {a : Addr} {Q : Str → Hp → Prop} {R : Value → Shared → Prop} (F : FnOk X.prog X.w X.K X.mg X.base CX n f fd ps sp) (hb : Binds X.K fd ps []) (hx : Passes CX X E) (sb : L2.Sub X n A) (I : Inv X pins σ H s)
    (hq : sp [.ref a] H (fun v H' => ∃ y : Str, v = .str y ∧ Q y H') E) (hR : ∀ y t s' H', Inv X pins σ H' s' → Q y H' → R (.str y t) s') : wpAny (model X.prog X.w) A (call (.ref f) [.ref a]) (PySem.W.StrBack R) X.xe s := by
  have hl : ([Value.ref a] ++ []).length = ps.length := (show ([V.ref a] : List V).length = _ from F.len _ _ _ _ hq)
  refine wpAny_call (codeAny_mono (F.run A X.stack s H ⟨[.ref a], []⟩ [.ref a] [.ref a] _ E sb.room (env_sub sb I) (hb s [.ref a] I.kIn hl) (.cons rfl .nil) hq) fun res s' hres => ?_)
  match res, hres with
  | .error er, hres => exact hx pins σ H s er s' I hres
  | .ok .next, hres => exact hres.elim
  | .ok .brk, hres => exact hres.elim
  | .ok .cont, hres => exact hres.elim
  | .ok (.ret u), hres =>
    obtain ⟨z, H', I', rz, y, rfl, q⟩ := I.after hres
    obtain ⟨t, rfl⟩ := rz
    exact hR y t s' H' I' q
theorem pe_fmtO (he : PE X e te) (c : Cm X.prog X.w X.K X.mg X.base CX k C "__str__" qual st ps sp) (b : Bd "__str__" qual st ps) (hfm : PySem.W.findIn X.K (.ref C) "__format__" = some (some (.builtin "object.__format__"))) (hm : PySem.W.mroIn X.K C (.type "object") = some true) (hr : Room j X.A) (hk : k + 1 ≤ j) (hx : Passes CX X E) :
    PE X (.FormattedValue e (-1) none pos) (tFmtO C sp E te) := by
  obtain ⟨f, fd, F, M, hc, G⟩ := c.ex
  have sb : L2.Sub X (k + 1) X.A := ⟨hr.mono hk, rfl⟩
  refine ⟨fun pins s σ H Q I h => ?_⟩
  refine wpAny_FormattedValue_plain (thn (he.run pins s σ H _ I h) fun v s1 hv => ?_)
  obtain ⟨x, H1, I1, r1, a, dx, fs, rfl, ea, q⟩ := hv
  cases (show v = Value.ref a from r1)
  obtain ⟨mA, J, _⟩ := ins_get I1.hok ea
  obtain ⟨od, J, _⟩ := J.look
  exact PySem.W.kfo_fieldS sb.in1.room.units0 I1.kIn J hfm hm M.1 M.2 (run_own G (F.bindsN b) hx sb.in1 (I1.tok _) q fun y t s' H' I' hq => ⟨.str y, H', I', ⟨t, rfl⟩, hq⟩)
theorem pe_fmtRO (he : PE X e te) (c : Cm X.prog X.w X.K X.mg X.base CX k C "__repr__" qual st ps sp) (b : Bd "__repr__" qual st ps) (hr : Room j X.A) (hk : k + 1 ≤ j) (hx : Passes CX X E) (hz : ∀ (a : Addr) H Q, sp [.ref a] H Q E → sp [.ref a] H (fun v H' => (∀ y, v = .str y → y.length ≤ sizeLine) ∧ Q v H') E) :
    PE X (.FormattedValue e 114 none pos) (tFmtO C sp E te) := by
  obtain ⟨f, fd, F, M, hc, G⟩ := c.ex
  have sb : L2.Sub X (k + 1) X.A := ⟨hr.mono hk, rfl⟩
  refine ⟨fun pins s σ H Q I h => ?_⟩
  refine wpAny_FormattedValue_repr (thn (he.run pins s σ H _ I h) fun v s1 hv => ?_)
  obtain ⟨x, H1, I1, r1, a, dx, fs, rfl, ea, q⟩ := hv
  cases (show v = Value.ref a from r1)
  obtain ⟨mA, J, _⟩ := ins_get I1.hok ea
  obtain ⟨od, J, _⟩ := J.look
  have q2 := hz _ _ _ q
  have sb0 : L2.Sub X k X.A := ⟨(hr.mono hk).mono (Nat.le_succ k), rfl⟩
  have go := run_own (Q := fun y H' => y.length ≤ sizeLine ∧ Q (.str y) H') (R := fun v s' => ∃ y t, v = .str y t ∧ y.length ≤ sizeLine ∧ ∃ H', Inv X pins σ H' s' ∧ Q (.str y) H') G (F.bindsN b) hx sb0 I1 (by
    have e : (fun v H' => (∀ y, v = V.str y → y.length ≤ sizeLine) ∧ ∃ y : Str, v = .str y ∧ Q (.str y) H') = fun v H' => ∃ y : Str, v = .str y ∧ (y.length ≤ sizeLine ∧ Q (.str y) H') := by
      funext v H'
      refine propext ⟨fun ⟨hl, y, e, hq⟩ => ⟨y, e, hl y e, hq⟩, fun ⟨y, e, hl, hq⟩ => ⟨fun z hz => ?_, y, e, hq⟩⟩
      rw [e] at hz
      cases hz
      exact hl
    rw [e] at q2
    exact q2) (fun y t s' H' I' hq => ⟨y, t, rfl, hq.1, H', I', hq.2⟩)
  unfold pyReprObj
  refine wpAny_bind (m := cRoomFor _ _) (wpAny_cRoomFor sb0.room.units0 ?_)
  refine wpAny_bind (wpAny_bind (J.type.here ((PySem.W.looks_findIn I1.kIn M.1).here ?_)))
  show wpAny _ _ (if (some (Value.ref f)).isNone = true then _ else _) _ _ _
  rw [if_neg (by simp)]
  refine wpAny_bind (m := callSpecialIfBound? (.ref a) (Str.ofString "__repr__") _) (PySem.W.ifBound_K I1.kIn J M.1 M.2 (wpAny_mono go (fun r s' hr => ?_) fun _ _ y => y))
  cases r <;> first | exact hr.elim | skip
  obtain ⟨y, t, e1, hl, H', I', hq⟩ := hr
  cases e1
  refine wpAny_bind (wpAny_isInstance (T := "str") (b := true) (typeIs_str _ _ _) isSubtype_str_str (wpAny_pure ?_))
  exact wpAny_formatField_str ⟨.str _, H', I', ⟨_, rfl⟩, hq⟩ ⟨.str _, H', I'.tok _, ⟨_, rfl⟩, hq⟩ hl
end
end MM
namespace MM
open PySem PySem.Spec PySem.Calls PyProof.Rows L2
/-! ### texts that write numbers -/
/-- the place of a sign among the figures, or -1 -/
def fv (c : Nat) : Int := Txt.find FIG ⟨#[c]⟩
theorem fv_dg {d : Nat} (h : d < 16) : fv (dg d) = (d : Int) := fig_find h
theorem fv_cases (c : Nat) : (fv c = -1 ∧ ∀ d, d < 16 → c ≠ dg d) ∨ ∃ d, d < 16 ∧ c = dg d ∧ fv c = (d : Int) := by
  rcases find_spec FIG ⟨#[c]⟩ with h | ⟨i, h1, h2, h3⟩
  · refine .inl ⟨h, fun d hd e => ?_⟩
    have := fv_dg hd
    rw [← e] at this
    unfold fv at this
    omega
  · have hl : (⟨#[c]⟩ : Str).length = 1 := rfl
    rw [hl] at h2 h3
    rw [fig_len] at h2
    have e : c = dg i := by
      have e1 : (Builtin.Str.strSub FIG i (i + 1)).cps.toList = [dg i] := by
        have : ∀ d : Fin 16, (Builtin.Str.strSub FIG d.val (d.val + 1)).cps.toList = [dg d.val] := by decide +kernel
        exact this ⟨i, by omega⟩
      rw [h3] at e1
      have e2 : [c] = [dg i] := e1
      injection e2
    exact .inr ⟨i, by omega, e, h1⟩
def ninL (b : Int) (cs : List Nat) : Int := cs.foldl (fun a c => a * b + fv c) 0
theorem ninL_app (b : Int) (cs : List Nat) (c : Nat) : ninL b (cs ++ [c]) = ninL b cs * b + fv c := by
  unfold ninL
  rw [List.foldl_append]
  rfl
def hasD (cs : List Nat) : Bool := cs.head? == some 45
/-- what stands behind a - -/
def unm (cs : List Nat) : List Nat := if hasD cs then cs.tail else cs
def nin (b : Int) (t : Str) : Int := if hasD t.cps.toList then - ninL b (unm t.cps.toList) else ninL b (unm t.cps.toList)
theorem unm_len (cs : List Nat) : (unm cs).length ≤ cs.length := by
  unfold unm
  split
  · rw [List.length_tail]
    omega
  · exact Nat.le_refl _
theorem len_cps (t : Str) : t.length = t.cps.toList.length := by simp [Str.length]
theorem sub_d (t : Str) : Builtin.Str.subAt t ("-" : Str) 0 = hasD t.cps.toList := by
  have h := sub_iff t ("-" : Str)
  rw [dash_len, dash_cps] at h
  unfold hasD
  cases hc : t.cps.toList with
  | nil =>
    rw [hc] at h
    cases hb : Builtin.Str.subAt t ("-" : Str) 0 with
    | false => rfl
    | true => exact absurd (h.mp hb) (by simp)
  | cons c cs =>
    rw [hc] at h
    simp only [List.take_succ_cons, List.take_zero] at h
    by_cases e : c = 45
    · rw [e] at h ⊢
      rw [h.mpr rfl]
      rfl
    · have : Builtin.Str.subAt t ("-" : Str) 0 = false := by
        cases hb : Builtin.Str.subAt t ("-" : Str) 0 with
        | false => rfl
        | true => exact absurd (by have := h.mp hb; simpa using this) e
      rw [this]
      simp [e]
theorem rp_gen (t : Str) : (Txt.removeprefix t ("-" : Str)).cps.toList = unm t.cps.toList := by
  unfold Txt.removeprefix unm
  rw [sub_d]
  cases h : hasD t.cps.toList with
  | false => rfl
  | true =>
    have hne : t.cps.toList ≠ [] := by
      intro z
      rw [z] at h
      cases h
    have hl := len_cps t
    have hp := List.length_pos_iff.mpr hne
    rw [dash_len]
    show (if (t.length - 1 == t.length) = true then t else Builtin.Str.strSub t 1 t.length).cps.toList = _
    rw [if_neg (by simp; omega)]
    show (t.cps.extract 1 t.length).toList = t.cps.toList.tail
    rw [Array.toList_extract, hl]
    simp
    exact List.take_of_length_le (by simp)
theorem sw_gen (t : Str) : Txt.startswith t ("-" : Str) = hasD t.cps.toList := by
  unfold Txt.startswith
  rw [sub_d, dash_len]
  cases h : hasD t.cps.toList with
  | false => rw [Bool.and_false]
  | true =>
    have hne : t.cps.toList ≠ [] := by
      intro z
      rw [z] at h
      cases h
    have hp := List.length_pos_iff.mpr hne
    have hl := len_cps t
    rw [Bool.and_true]
    exact decide_eq_true (by omega)
def valN (b : Nat) (ds : List Nat) : Nat := ds.foldl (fun a d => a * b + d) 0
theorem valN_app (b : Nat) (ds : List Nat) (d : Nat) : valN b (ds ++ [d]) = valN b ds * b + d := by
  unfold valN
  rw [List.foldl_append]
  rfl
theorem valN_lsd {b : Nat} (hb : 2 ≤ b) (n : Nat) : valN b (lsd b n).reverse = n := by
  unfold valN
  rw [List.foldl_reverse]
  exact lsd_val hb n
/-- a list, from its end -/
theorem rev_ind {P : List Nat → Prop} (h0 : P []) (h1 : ∀ es d, P es → P (es ++ [d])) (ds : List Nat) : P ds := by
  rw [← List.reverse_reverse ds]
  generalize ds.reverse = rs
  induction rs with
  | nil => exact h0
  | cons d rs ih =>
    rw [List.reverse_cons]
    exact h1 _ d ih
theorem ninL_dg (b : Nat) (ds : List Nat) : (∀ d ∈ ds, d < 16) → ninL (b : Int) (ds.map dg) = ((valN b ds : Nat) : Int) := by
  refine rev_ind (P := fun ds => (∀ d ∈ ds, d < 16) → ninL (b : Int) (ds.map dg) = ((valN b ds : Nat) : Int)) (fun _ => rfl) (fun es d ih h => ?_) ds
  rw [List.map_append]
  show ninL (b : Int) (es.map dg ++ [dg d]) = _
  rw [ninL_app, valN_app, ih fun x hx => h x (List.mem_append_left _ hx), fv_dg (h d (by simp))]
  push_cast
  rfl
theorem valN_pos {b : Nat} (hb : 1 ≤ b) (ds : List Nat) : ds ≠ [] → ds.head? ≠ some 0 → 0 < valN b ds := by
  refine rev_ind (P := fun ds => ds ≠ [] → ds.head? ≠ some 0 → 0 < valN b ds) (fun h => absurd rfl h) (fun es d ih _ h => ?_) ds
  rw [valN_app]
  by_cases he : es = []
  · subst he
    have : d ≠ 0 := fun z => h (by rw [z]; rfl)
    omega
  · have h2 : es.head? ≠ some 0 := fun z => h (by
      cases es with
      | nil => exact absurd rfl he
      | cons e es => simpa using z)
    have := Nat.mul_pos (ih he h2) hb
    omega
theorem lsd_back {b : Nat} (hb : 2 ≤ b) (ds : List Nat) : ds ≠ [] → (∀ d ∈ ds, d < b) → (ds.head? = some 0 → ds = [0]) → lsd b (valN b ds) = ds.reverse := by
  refine rev_ind (P := fun ds => ds ≠ [] → (∀ d ∈ ds, d < b) → (ds.head? = some 0 → ds = [0]) → lsd b (valN b ds) = ds.reverse) (fun h => absurd rfl h) (fun es d ih _ hs h0 => ?_) ds
  have hd : d < b := hs d (by simp)
  rw [valN_app, List.reverse_append]
  by_cases he : es = []
  · subst he
    show lsd b (0 * b + d) = [d]
    rw [Nat.zero_mul, Nat.zero_add, lsd_lt hd]
  · have h2 : es.head? ≠ some 0 := fun z => by
      have h3 : (es ++ [d]).head? = some 0 := by
        cases es with
        | nil => exact absurd rfl he
        | cons e es => simpa using z
      have h4 := h0 h3
      have h5 : es.length + 1 = 1 := by
        have := congrArg List.length h4
        simpa using this
      exact he (List.length_eq_zero_iff.mp (by omega))
    have hp := valN_pos (b := b) (by omega) es he h2
    have hge : b ≤ valN b es * b + d := by
      have := Nat.le_mul_of_pos_left b hp
      omega
    rw [lsd_ge hb hge]
    have e1 : (valN b es * b + d) % b = d := by rw [Nat.mul_comm, Nat.mul_add_mod, Nat.mod_eq_of_lt hd]
    have e2 : (valN b es * b + d) / b = valN b es := by rw [Nat.mul_comm, Nat.mul_add_div (by omega), Nat.div_eq_of_lt hd, Nat.add_zero]
    rw [e1, e2, ih he (fun x hx => hs x (List.mem_append_left _ hx)) (fun z => absurd z h2)]
    rfl
theorem numT_cps (b : Nat) (i : Int) : (numT b i).cps.toList = (if i < 0 then [45] else []) ++ (lsd b i.natAbs).reverse.map dg := by
  unfold numT
  split
  · rw [app_cps, dash_cps]
    rfl
  · rfl
theorem num_ds {b : Nat} (hb : 2 ≤ b) (h16 : b ≤ 16) (i : Int) : unm (numT b i).cps.toList = (lsd b i.natAbs).reverse.map dg ∧ hasD (numT b i).cps.toList = decide (i < 0) := by
  have hne : (lsd b i.natAbs).reverse ≠ [] := fun z => lsd_ne b i.natAbs (List.reverse_eq_nil_iff.mp z)
  have sm : ∀ d ∈ (lsd b i.natAbs).reverse, d < 16 := fun d hd => Nat.lt_of_lt_of_le (lsd_small hb _ d (List.mem_reverse.mp hd)) h16
  rw [numT_cps]
  by_cases h : i < 0
  · rw [if_pos h, decide_eq_true h]
    exact ⟨rfl, rfl⟩
  · rw [if_neg h, decide_eq_false h]
    have hd : hasD ((lsd b i.natAbs).reverse.map dg) = false := by
      cases hc : (lsd b i.natAbs).reverse with
      | nil => exact absurd hc hne
      | cons d ds =>
        have := dg_ne (sm d (by rw [hc]; simp))
        show (some (dg d) == some 45) = false
        simp [this]
    refine ⟨?_, hd⟩
    show (if hasD ((lsd b i.natAbs).reverse.map dg) = true then _ else _) = _
    rw [hd]
    rfl
theorem nin_num {b : Nat} (hb : 2 ≤ b) (h16 : b ≤ 16) (i : Int) : nin (b : Int) (numT b i) = i := by
  obtain ⟨h1, h2⟩ := num_ds hb h16 i
  unfold nin
  rw [h1, h2, ninL_dg b _ fun d hd => Nat.lt_of_lt_of_le (lsd_small hb _ d (List.mem_reverse.mp hd)) h16, valN_lsd hb]
  by_cases h : i < 0
  · rw [decide_eq_true h, if_pos rfl]
    omega
  · rw [decide_eq_false h, if_neg Bool.false_ne_true]
    omega
/-- the law's look at the signs -/
structure Wr (b : Nat) (t : Str) : Prop where
  all : ∀ c ∈ unm t.cps.toList, 0 ≤ fv c ∧ fv c < (b : Int)
  ne : unm t.cps.toList ≠ []
  no : ¬ ((unm t.cps.toList).head? = some 48 ∧ unm t.cps.toList ≠ [48])
  nd : t.cps.toList ≠ [45, 48]
theorem wr_num {b : Nat} (hb : 2 ≤ b) (h16 : b ≤ 16) (i : Int) : Wr b (numT b i) := by
  obtain ⟨h1, h2⟩ := num_ds hb h16 i
  have sm : ∀ d ∈ (lsd b i.natAbs).reverse, d < b := fun d hd => lsd_small hb _ d (List.mem_reverse.mp hd)
  have hne : (lsd b i.natAbs).reverse ≠ [] := fun z => lsd_ne b i.natAbs (List.reverse_eq_nil_iff.mp z)
  -- a nought ahead stands alone
  have lead : (lsd b i.natAbs).reverse.head? = some 0 → (lsd b i.natAbs).reverse = [0] := by
    generalize i.natAbs = n
    intro h
    rw [List.head?_reverse] at h
    induction n using Nat.strongRecOn with
    | _ n ih =>
      by_cases hn : n < b
      · rw [lsd_lt hn] at h ⊢
        have : n = 0 := by simpa using h
        rw [this]
        rfl
      · exfalso
        rw [lsd_ge hb (by omega)] at h
        have hnn := lsd_ne b (n / b)
        have h3 : (lsd b (n / b)).getLast? = some 0 := by
          cases hl : lsd b (n / b) with
          | nil => exact absurd hl hnn
          | cons x xs =>
            rw [hl] at h
            simpa using h
        have h4 := ih (n / b) (Nat.div_lt_self (by omega) (by omega)) h3
        have h5 : lsd b (n / b) = [0] := by
          have := congrArg List.reverse h4
          simpa using this
        have h6 := lsd_val hb (n / b)
        rw [h5] at h6
        have h7 : n / b = 0 := by simpa using h6.symm
        have := (Nat.div_eq_zero_iff).mp h7
        omega
  have dz : ∀ d, d < 16 → dg d = 48 → d = 0 := by decide
  refine ⟨?_, ?_, ?_, ?_⟩
  · rw [h1]
    intro c hc
    obtain ⟨d, hd, rfl⟩ := List.mem_map.mp hc
    have := sm d hd
    rw [fv_dg (by omega)]
    omega
  · rw [h1]
    intro z
    exact hne (List.map_eq_nil_iff.mp z)
  · rw [h1]
    rintro ⟨h3, h4⟩
    apply h4
    have h5 : (lsd b i.natAbs).reverse.head? = some 0 := by
      cases hc : (lsd b i.natAbs).reverse with
      | nil => exact absurd hc hne
      | cons d ds =>
        rw [hc] at h3
        have e : dg d = 48 := by simpa using h3
        have := dz d (Nat.lt_of_lt_of_le (sm d (by rw [hc]; simp)) h16) e
        rw [this]
        rfl
    rw [lead h5]
    rfl
  · intro z
    have hD : hasD (numT b i).cps.toList = true := by rw [z]; rfl
    rw [h2] at hD
    have hi : i < 0 := of_decide_eq_true hD
    have h3 : unm (numT b i).cps.toList = [48] := by rw [z]; rfl
    rw [h1] at h3
    have h4 : (lsd b i.natAbs).reverse = [0] := by
      cases hc : (lsd b i.natAbs).reverse with
      | nil => exact absurd hc hne
      | cons d ds =>
        rw [hc] at h3
        have e : dg d = 48 ∧ ds = [] := by simpa using h3
        rw [e.2, dz d (Nat.lt_of_lt_of_le (sm d (by rw [hc]; simp)) h16) e.1]
    have h5 := valN_lsd hb i.natAbs
    rw [h4] at h5
    have : i.natAbs = 0 := by
      rw [← h5]
      show 0 * b + 0 = 0
      omega
    omega
theorem num_wr {b : Nat} (hb : 2 ≤ b) (h16 : b ≤ 16) {t : Str} (w : Wr b t) : t = numT b (nin (b : Int) t) := by
  -- the signs are figures
  obtain ⟨ds, hds, sm⟩ : ∃ ds : List Nat, unm t.cps.toList = ds.map dg ∧ ∀ d ∈ ds, d < b := by
    have all := w.all
    generalize unm t.cps.toList = cs at all
    induction cs with
    | nil => exact ⟨[], rfl, fun d h => by cases h⟩
    | cons c cs ih =>
      obtain ⟨ds, h1, h2⟩ := ih fun x hx => all x (List.mem_cons_of_mem _ hx)
      have hc := all c (by simp)
      rcases fv_cases c with ⟨h3, _⟩ | ⟨d, h3, h4, h5⟩
      · omega
      · refine ⟨d :: ds, by rw [List.map_cons, h1, h4], fun x hx => ?_⟩
        rcases List.mem_cons.mp hx with rfl | hx
        · omega
        · exact h2 x hx
  have ne : ds ≠ [] := fun z => w.ne (by rw [hds, z]; rfl)
  have dz : ∀ d, d < 16 → dg d = 48 → d = 0 := by decide
  have lead : ds.head? = some 0 → ds = [0] := fun h => by
    have h3 : (unm t.cps.toList).head? = some 48 := by
      rw [hds]
      cases ds with
      | nil => exact absurd rfl ne
      | cons d ds =>
        have : d = 0 := by simpa using h
        rw [this]
        rfl
    have h4 : unm t.cps.toList = [48] := Classical.byContradiction fun z => w.no ⟨h3, z⟩
    rw [hds] at h4
    cases ds with
    | nil => exact absurd rfl ne
    | cons d ds =>
      have e : dg d = 48 ∧ ds = [] := by simpa using h4
      rw [e.2, dz d (Nat.lt_of_lt_of_le (sm d (by simp)) h16) e.1]
  have hv : ninL (b : Int) (unm t.cps.toList) = ((valN b ds : Nat) : Int) := by rw [hds, ninL_dg b ds fun d hd => Nat.lt_of_lt_of_le (sm d hd) h16]
  have hl := lsd_back hb ds ne sm lead
  refine str_ext ?_
  rw [numT_cps]
  unfold nin
  rw [hv]
  cases hD : hasD t.cps.toList with
  | true =>
    rw [if_pos rfl]
    have ht : t.cps.toList = 45 :: ds.map dg := by
      have h5 : unm t.cps.toList = t.cps.toList.tail := by unfold unm; rw [hD]; rfl
      cases hc : t.cps.toList with
      | nil =>
        rw [hc] at hD
        cases hD
      | cons c cs =>
        rw [hc] at hD h5
        have : c = 45 := by
          unfold hasD at hD
          simpa using hD
        rw [this]
        congr 1
        rw [← hds, hc, h5]
        rfl
    have hp : 0 < valN b ds := by
      by_cases h0 : ds.head? = some 0
      · exfalso
        have := lead h0
        rw [this] at ht
        exact w.nd ht
      · exact valN_pos (by omega) ds ne h0
    rw [if_pos (by omega), ht]
    have e : (-((valN b ds : Nat) : Int)).natAbs = valN b ds := by omega
    rw [e, hl, List.reverse_reverse]
    rfl
  | false =>
    rw [if_neg Bool.false_ne_true, if_neg (by omega)]
    have ht : t.cps.toList = ds.map dg := by
      rw [← hds]
      unfold unm
      rw [hD]
      rfl
    rw [ht]
    have e : (((valN b ds : Nat) : Int)).natAbs = valN b ds := by omega
    rw [e, hl, List.reverse_reverse]
    rfl
theorem ninL_sz {b : Nat} (h16 : b ≤ 16) (cs : List Nat) : (ninL (b : Int) cs).natAbs < 16 ^ (cs.length + 1) := by
  refine rev_ind (P := fun cs => (ninL (b : Int) cs).natAbs < 16 ^ (cs.length + 1)) (by show 0 < 16; decide) (fun es c ih => ?_) cs
  rw [ninL_app, List.length_append]
  have h1 : (fv c).natAbs ≤ 15 := by
    rcases fv_cases c with ⟨h, _⟩ | ⟨d, h3, h4, h5⟩ <;> omega
  have h2 : (ninL (b : Int) es * (b : Int) + fv c).natAbs ≤ (ninL (b : Int) es).natAbs * b + 15 := by
    have h3 := Int.natAbs_add_le (ninL (b : Int) es * (b : Int)) (fv c)
    rw [Int.natAbs_mul, Int.natAbs_natCast] at h3
    omega
  have h4 : (ninL (b : Int) es).natAbs * b ≤ (ninL (b : Int) es).natAbs * 16 := Nat.mul_le_mul_left _ h16
  have h5 : 16 ^ (es.length + [c].length + 1) = 16 ^ (es.length + 1) * 16 := by
    rw [show es.length + [c].length + 1 = (es.length + 1) + 1 from rfl, Nat.pow_succ]
  rw [h5]
  omega
theorem nin_sz {b : Nat} (h16 : b ≤ 16) {t : Str} {n : Nat} (hl : t.length ≤ n) : (nin (b : Int) t).natAbs < 2 ^ (4 * (n + 1)) := by
  have h1 := ninL_sz h16 (unm t.cps.toList)
  have h2 := unm_len t.cps.toList
  have h3 : 16 ^ ((unm t.cps.toList).length + 1) ≤ 16 ^ (n + 1) := Nat.pow_le_pow_right (by decide) (by rw [len_cps] at hl; omega)
  have h4 : (16 : Nat) ^ (n + 1) = 2 ^ (4 * (n + 1)) := by rw [Nat.pow_mul]
  unfold nin
  split
  · rw [Int.natAbs_neg]
    omega
  · omega
/-! ### == of flat things inside a builtin -/
theorem eqB_flat {X : Cx} : EqB X 0 (fun x y _ b => flatV x = true ∧ flatV y = true ∧ eqV x y = b) := by
  intro A pins s σ H x y u v b sb I rx ry d
  obtain ⟨fx, fy, e⟩ := d
  have q := eqAt_V (A := A) (s := s) rx ry fx fy
  rw [e] at q
  exact q X.prog X.w X.xe _ ⟨rfl, H, I, Ext.rfl'⟩
end MM
namespace MM
open PySem PySem.Spec PySem.Calls PyProof.Rows L2
/-! ### figures by ten, and texts cut at a sign -/
def TEN : Str := "0123456789"
theorem ten_cps : TEN.cps.toList = [48, 49, 50, 51, 52, 53, 54, 55, 56, 57] := by decide +kernel
theorem mem_ten (c : Nat) : c ∈ TEN.cps.toList ↔ 48 ≤ c ∧ c ≤ 57 := by
  rw [ten_cps]
  constructor
  · intro h
    simp only [List.mem_cons, List.not_mem_nil, or_false] at h
    omega
  · intro h
    obtain ⟨d, rfl⟩ : ∃ d, c = 48 + d := ⟨c - 48, by omega⟩
    have : d < 10 := by omega
    simp only [List.mem_cons, List.not_mem_nil, or_false]
    omega
theorem fv_ten {c : Nat} (h : 48 ≤ c ∧ c ≤ 57) : fv c = ((c - 48 : Nat) : Int) := by
  obtain ⟨d, rfl⟩ : ∃ d, c = 48 + d := ⟨c - 48, by omega⟩
  have hd : d < 10 := by omega
  have e : 48 + d = dg d := by
    have : ∀ d, d < 10 → 48 + d = dg d := by decide
    exact this d hd
  rw [e, fv_dg (by omega), ← e]
  omega
theorem ten_fv {c : Nat} : (0 ≤ fv c ∧ fv c < ((10 : Nat) : Int)) ↔ 48 ≤ c ∧ c ≤ 57 := by
  constructor
  · rintro ⟨h0, h1⟩
    rcases fv_cases c with ⟨h, _⟩ | ⟨d, h3, rfl, h5⟩
    · omega
    · have : ∀ d, d < 10 → 48 ≤ dg d ∧ dg d ≤ 57 := by decide
      exact this d (by omega)
  · intro h
    rw [fv_ten h]
    omega
theorem ninL_ten (cs : List Nat) : (∀ c ∈ cs, 48 ≤ c ∧ c ≤ 57) → ninL ((10 : Nat) : Int) cs = ((NumText.digitsVal cs : Nat) : Int) := by
  refine rev_ind (P := fun cs => (∀ c ∈ cs, 48 ≤ c ∧ c ≤ 57) → ninL ((10 : Nat) : Int) cs = ((NumText.digitsVal cs : Nat) : Int)) (fun _ => rfl) (fun es c ih h => ?_) cs
  rw [ninL_app, ih fun x hx => h x (List.mem_append_left _ hx), fv_ten (h c (by simp))]
  have e : NumText.digitsVal (es ++ [c]) = NumText.digitsVal es * 10 + (c - 48) := by
    unfold NumText.digitsVal
    rw [List.foldl_append]
    rfl
  rw [e]
  omega
/-- int(text) of figures -/
theorem int_fig {z : Str} (h : ∀ c ∈ z.cps.toList, 48 ≤ c ∧ c ≤ 57) (hne : z.cps.toList ≠ []) (hl : z.length ≤ 98) : PySem.intText? z = some (ninL ((10 : Nat) : Int) z.cps.toList) := by
  rw [ninL_ten _ h]
  exact intText_digits h hne (Nat.le_trans hl (by decide))
/-- a text cut at its first sign of one kind -/
theorem part_cases {y : Str} {c : Nat} (ey : TL.tl y = [c]) (t : Str) : (Txt.partition t y = (t, Str.empty, Str.empty) ∧ c ∉ t.cps.toList) ∨ ∃ a b : Str, Txt.partition t y = (a, y, b) ∧ t = a ++ y ++ b ∧ c ∉ a.cps.toList := by
  have hy : TL.tl y ≠ [] := by rw [ey]; simp
  have yl : y.length = 1 := by rw [TL.len_tl, ey]; rfl
  have no : ∀ i, i < t.length → ¬ StrLaws.At t y t.length i → t.cps.toList[i]? ≠ some c := fun i hi h e => by
    refine h ((TL.at_iff hy i).mpr ?_)
    rw [ey]
    have hi' : i < (TL.tl t).length := by rw [← TL.len_tl]; exact hi
    have e1 : (TL.tl t).drop i = (TL.tl t)[i] :: (TL.tl t).drop (i + 1) := List.drop_eq_getElem_cons hi'
    have e2 : (TL.tl t)[i] = c := by
      rw [List.getElem?_eq_getElem hi'] at e
      exact Option.some.inj e
    rw [e1, e2]
    exact TL.pre_self [c] _
  rcases PyProof.Rows.partition_whole t y with ⟨e, hn⟩ | ⟨i, e, hi, hn⟩
  · refine .inl ⟨e, fun hm => ?_⟩
    obtain ⟨i, h⟩ := List.mem_iff_getElem?.mp hm
    have hi : i < t.length := by
      rw [TL.len_tl]
      exact (List.getElem?_eq_some_iff.mp h).1
    exact no i hi (hn i) h
  · refine .inr ⟨_, _, e, ?_, ?_⟩
    · have hb : i + y.length ≤ t.length := hi.1
      have h1 := (TL.at_iff hy i).mp hi
      have h2 : ((TL.tl t).drop i).take (TL.tl y).length = TL.tl y := eq_of_beq h1
      refine TL.ext_tl ?_
      rw [TL.tl_append, TL.tl_append, TL.tl_strSub_end, TL.tl_strSub, List.drop_zero, Nat.sub_zero, TL.len_tl y]
      have h3 : (TL.tl t).drop i = TL.tl y ++ (TL.tl t).drop (i + (TL.tl y).length) := by
        rw [← TL.drop_two]
        have := (List.take_append_drop (TL.tl y).length ((TL.tl t).drop i)).symm
        rw [h2] at this
        exact this
      rw [List.append_assoc, ← h3, List.take_append_drop]
    · intro hm
      have e1 : (Builtin.Str.strSub t 0 i).cps.toList = (t.cps.toList).take i := by
        have := TL.tl_strSub t 0 i
        rw [List.drop_zero, Nat.sub_zero] at this
        exact this
      rw [e1] at hm
      obtain ⟨k, h⟩ := List.mem_iff_getElem?.mp hm
      have hk := (List.getElem?_eq_some_iff.mp h).1
      rw [List.length_take] at hk
      have hk2 : k < i := by omega
      have hlt : k < t.length := by
        rw [TL.len_tl]
        show k < t.cps.toList.length
        omega
      refine no k hlt (hn k hk2) ?_
      rw [List.getElem?_take_of_lt hk2] at h
      exact h
theorem slash_tl : TL.tl ("/" : Str) = [47] := by decide +kernel
theorem emp_tl : TL.tl Str.empty = [] := rfl
/-- no sign of a written number is a stroke -/
theorem num_noslash {b : Nat} (hb : 2 ≤ b) (h16 : b ≤ 16) (i : Int) : 47 ∉ (numT b i).cps.toList := by
  rw [numT_cps]
  intro h
  rcases List.mem_append.mp h with h | h
  · split at h
    · simp at h
    · cases h
  · obtain ⟨d, hd, e⟩ := List.mem_map.mp h
    have h1 := lsd_small hb _ d (List.mem_reverse.mp hd)
    have : ∀ d, d < 16 → dg d ≠ 47 := by decide
    exact this d (by omega) e
end MM
namespace MM
open PySem PySem.Spec PyProof.Rows L2
section
variable {J : It} {n : Nat} {G : Hp → Prop} {Y : Nat → Hp → V → Hp → Prop}
/-- a comprehension with a test, whose i-th thing is f i, and there where B i -/
theorem lc_fltV (w : Walk J n G Y) (hY : ∀ i H x H', Y i H x H' → Same H H') {g : TG} {tt : TT} {te : TE} {vs : List Nat} {σ : L2.St} {H : Hp} {D : Addr} {Qd : Hp → Prop} (nD : H D = none) (hn : n < sizeLine) (f : Nat → V) (B : Nat → Bool) (hG : ∀ H', Same H H' → G H')
    (hs : ∀ i x H1 H2 (R : V → Hp → Prop) (N : Hp → Prop), i < n → Same H H1 → Y i H1 x H2 → (B i = true → ∀ H3, Same H2 H3 → R (f i) H3) → (B i = false → ∀ H3, Same H2 H3 → N H3) → g x (wipe σ vs) H2 fun σ2 H3 => wipe σ2 vs = wipe σ vs ∧ tt σ2 H3 fun b H4 => if b = true then te σ2 H4 R else N H4)
    (hd : ∀ H', H' D = some (.lst (((List.range n).filter B).map f)) → Same H H' → Qd H') :
    ∃ W : Nat → Nat → Hp → Prop, (∃ m, W 0 m (L2.upd H D (.lst []))) ∧ ∀ i m H, W i m H →
      (J.stop i H ∧ Qd H) ∨ (J.go i H ∧ ∃ Nx : Hp → Prop, (∀ H', Nx H' → ∃ m', m' < m ∧ W (i + 1) m' H') ∧ ∀ x H', J.yld i H x H' → g x (wipe σ vs) H' fun σ2 H2 => wipe σ2 vs = wipe σ vs ∧ tt σ2 H2 fun b H3 =>
        if b = true then te σ2 H3 fun y H4 => ∃ acc, H4 D = some (.lst acc) ∧ acc.length < sizeLine ∧ Nx (L2.upd H4 D (.lst (acc ++ [y]))) else Nx H3) := by
  refine lc_it w (fun i H' => H' D = some (.lst (((List.range i).filter B).map f)) ∧ Same H H') ⟨upd_same, upd_keep nD (Same.refl H)⟩ (fun i H' _ ⟨_, s⟩ => hG H' s) ?_ (fun H' ⟨e, s⟩ => hd H' e s)
  rintro i x H1 H2 hi ⟨e, s⟩ y
  have s2 := hY _ _ _ _ y
  have el : (((List.range i).filter B).map f).length < sizeLine := by
    rw [List.length_map]
    have := List.length_filter_le B (List.range i)
    rw [List.length_range] at this
    omega
  refine hs i x H1 H2 _ _ hi s y (fun hB H3 s3 => ?_) (fun hB H3 s3 => ?_)
  · refine ⟨_, s3 _ _ (s2 _ _ e), el, ?_, upd_keep nD (s.trans (s2.trans s3))⟩
    rw [upd_same, List.range_succ, List.filter_append, List.map_append]
    simp [hB]
  · refine ⟨?_, s.trans (s2.trans s3)⟩
    rw [s3 _ _ (s2 _ _ e), List.range_succ, List.filter_append]
    simp [hB]
end
/-! ### sorted of pairs of a whole number and a truth -/
section
open SrtO Srt
variable {prog : Program} {w : World} {A : Around} {E : Value → Shared → Prop} {s : Shared}
/-- at v a pair of a whole number and a truth -/
def PrB (h : Heap) (v : Value) (x : Int) (b : Bool) : Prop := ∃ a o t n, v = .ref a ∧ h.get? a = some o ∧ o.cls = .type "tuple" ∧ o.data = .seq #[.int x t, .bool b] n
theorem PrB.keeps {h h' : Heap} {v : Value} {x : Int} {b : Bool} (p : PrB h v x b) (k : ∀ c o, h.get? c = some o → o.cls = .type "tuple" → h'.get? c = some o) : PrB h' v x b := by
  obtain ⟨a, o, t, n, rfl, e, c, d⟩ := p
  exact ⟨a, o, t, n, rfl, k a o e c, c, d⟩
theorem prb_firsts {h : Heap} : ∀ {vs : List Value}, (∀ v ∈ vs, ∃ x b, PrB h v x b) → ∃ fs : List Value, PySem.W.KatTups h vs fs ∧ fs.length = vs.length ∧ ∀ f ∈ fs, ∃ x t, f = Value.int x t
  | [], _ => ⟨[], .nil, rfl, fun _ z => absurd z List.not_mem_nil⟩
  | v :: vs, hp => by
    obtain ⟨fs, k, l, i⟩ := prb_firsts (vs := vs) fun u hu => hp u (List.mem_cons_of_mem _ hu)
    obtain ⟨x, b, a, o, t, n, rfl, ho, hc, hd⟩ := hp v List.mem_cons_self
    refine ⟨.int x t :: fs, .cons ho hc hd rfl k, congrArg Nat.succ l, fun f hf => ?_⟩
    rcases List.mem_cons.mp hf with rfl | hf
    · exact ⟨x, t, rfl⟩
    · exact i f hf
/-- the pair's key -/
def kB (p : Int × Bool) : Int × Int := (p.1, b2i p.2)
theorem prb_cmp {vs : List Value} {k : Value → Int × Bool} (hp : ∀ v ∈ vs, PrB s.heap v (k v).1 (k v).2) : Cmp prog w A s (tuples' true) (fun p => p.1 ∈ vs) (lt2 fun v u => lexB (kB (k v)) (kB (k u))) := by
  intro p q m1 m2
  obtain ⟨a, o, t, n, e, ho, hc, hd⟩ := hp _ m1
  obtain ⟨a', o', t', n', e', ho', hc', hd'⟩ := hp _ m2
  show wpAny (model prog w) A (keyLt' (tuples' true) p.1 q.1) (fun r s' => s' = s ∧ r = lexB (kB (k p.1)) (kB (k q.1))) (fun _ _ => False) s
  generalize (k p.1) = z at *
  generalize (k q.1) = z' at *
  obtain ⟨x, b⟩ := z
  obtain ⟨x', b'⟩ := z'
  rw [e, e']
  refine PySem.W.kat_lt ho hd ho' hd' (PySem.W.kat_cons (SeqAt.EqAt.int_int x t x' t' prog w _ _ (PySem.W.kat_go (fun e1 => ?_) (fun e1 => ?_))))
  · have ex : x = x' := by simpa using e1
    refine PySem.W.kat_yes (PySem.W.kat_cons (SeqAt.EqAt.bool_bool b b' prog w _ _ (PySem.W.kat_go (fun e2 => ?_) (fun e2 => ?_))))
    · have ey : b = b' := by simpa using e2
      refine PySem.W.kat_yes (PySem.W.kat_nil ⟨rfl, ?_⟩)
      show decide (2 < 2) = lexB (x, b2i b) (x', b2i b')
      rw [ex, ey]
      unfold lexB
      rw [if_pos rfl, decide_eq_false (Int.lt_irrefl _)]
      rfl
    · refine PySem.W.kat_no (PySem.W.kat_one _ _ (PyProof.Rows.lt_bool ?_))
      refine (show s = s ∧ decide (b2i b < b2i b') = lexB (x, b2i b) (x', b2i b') from ⟨rfl, ?_⟩)
      unfold lexB
      rw [if_pos ex]
  · have ex : ¬ x = x' := by simpa using e1
    refine PySem.W.kat_no (oneLt_int ⟨rfl, ?_⟩)
    show _ = lexB (x, b2i b) (x', b2i b')
    unfold lexB
    rw [if_neg ex]
theorem prb_sorted {l : Addr} {vs : List Value} {k : Value → Int × Bool} {Q : Value → Shared → Prop} (hl : s.heap.IsList l vs.toArray) (hz : vs.length ≤ sizeLine) (hp : ∀ v ∈ vs, PrB s.heap v (k v).1 (k v).2)
    (hs : Srtd (fun v u => lexB (kB (k v)) (kB (k u))) vs)
    (h : ∀ (h' : Heap) (d : Addr), (∀ b o, s.heap.get? b = some o → h'.get? b = some o) → s.heap.objs.size ≤ d → (∃ n, h'.get? d = some (seqObj "list" vs.toArray n)) → Q (.ref d) { s with heap := h' }) :
    wpAny (model prog w) A (call (.builtin "sorted") [.ref l]) Q E s := by
  have O : Swo fun v u => lexB (kB (k v)) (kB (k u)) := swo_lex fun v => kB (k v)
  refine sorted_ord O hl hz (fun h2 h₁ a ha kk => ?_) fun out so sb => ?_
  · intro h' keep
    have nt : ∀ o, h₁.get? a = some o → o.cls ≠ .type "tuple" := fun o e c => by
      rw [ha] at e
      cases e
      exact absurd (Value.type.inj c) (by decide)
    have hp' : ∀ v ∈ vs, PrB h' v (k v).1 (k v).2 := fun v hm => (hp v hm).keeps fun b o e c => keep b o (fun z => nt o (by rw [← z]; exact (kk b o e).2) c) (kk b o e).2
    obtain ⟨fs, f1, f2, f3⟩ := prb_firsts fun v hm => ⟨_, _, hp' v hm⟩
    refine ⟨tuples' true, fun Q E hq => ?_, prb_cmp hp'⟩
    refine PySem.W.kat_kind (T := .type "int") f1 (by omega) (fun f hm => ?_) (by rfl) ?_
    · obtain ⟨x, t, rfl⟩ := f3 f hm
      exact PySem.W.Looks.now
    · have e : (Value.type "int" != Value.type "tuple") = true := by first | rfl | decide +kernel
      rw [e]
      exact hq
  · obtain rfl : out = vs := stb_uniq O so hs sb
    exact h _ _ (fun b o e => sortedAll_old e) (Nat.le_succ _) (sortedAll_at s.heap out out.toArray)
end
/-- sorted(xs) of pairs that stand sorted already -/
def rSortedIB (K : PySem.W.Frag) : List V → Hp → VK → Prop := fun vs H Q => ∃ (a : Addr) (xs : List V) (k : V → Int × Bool), vs = [V.ref a] ∧ SqL K H a xs ∧ (∀ x ∈ xs, ∃ t, x = V.ref t ∧ H t = some (.tup [.int (k x).1, .bl (k x).2])) ∧
  xs.Pairwise (fun x y => SrtO.lexB (kB (k y)) (kB (k x)) = false) ∧ ∀ p, H p = none → Q (.ref p) (upd H p (.lst xs))
theorem cr_sortedIB {X : Cx} : CallR X (.builtin "sorted") (rSortedIB X.K) := by
  intro pins s σ H vs us Q I r h
  obtain ⟨a, xs, k, rfl, hs, hx, hp, q⟩ := h
  obtain ⟨its, rv, hl, hz⟩ := I.list hs
  obtain ⟨u, rfl, ru⟩ := vals1 r
  obtain rfl : u = Value.ref a := ru
  obtain ⟨e1, e2⟩ := refs_back rv fun x m => by
    obtain ⟨t, e, _⟩ := hx x m
    exact ⟨t, e⟩
  refine prb_sorted (k := fun u => k (backV u)) hl.isList (by rw [← rv.length]; exact hz) (fun v hv => ?_) ?_ fun h' d kp hd hn => ?_
  · obtain ⟨t, rfl⟩ := e2 v hv
    have hm : V.ref t ∈ xs := by rw [e1]; exact List.mem_map.mpr ⟨_, hv, rfl⟩
    obtain ⟨t', e, ht⟩ := hx _ hm
    cases e
    obtain ⟨_, its2, r2, o, ho, hc, n, hd⟩ := I.hok _ _ ht
    obtain ⟨u1, u2, rfl, ri, rj⟩ := vals2 r2
    obtain ⟨t1, rfl⟩ := ri
    cases (show u2 = Value.bool _ from rj)
    exact ⟨t, o, t1, n, rfl, ho, hc, hd⟩
  · rw [e1, List.pairwise_map] at hp
    exact hp
  · obtain ⟨n, hn⟩ := hn
    exact ⟨.ref d, upd H d (.lst xs), I.laid (t' := s.toks) kp hd ⟨hz, its, n, rv, hn⟩, rfl, q d (I.hok.fresh hd)⟩
end MM
namespace MM
open PySem PySem.Spec PySem.Calls PyProof.Rows L2
open AutoSeq1 (wpAny_loadPart')
open GQ (FinOf call_here ListI)
/-! ### lists of instances, != -/
section
variable {prog : Program} {w : World} {A : Around} {R : Result → Shared → Prop}
theorem ne_loop (l b : Addr) (N : Nat) (Iv : Nat → Shared → Prop) (hl : ListI prog w A (fun e s' => R (.error e) s') l b N Iv) (fin : ∀ s, Iv N s → R (.ok (.ret (.bool false))) s) (d : Nat) :
    ∀ i : Nat, N - i = d → i ≤ N → ∀ s, Iv i s → wpAny (model prog w) A.in1 (Builtin.«list.__eq__.loop» ⟨[.ref l, .ref b, rawInt i, rawInt 3], []⟩) (FinOf prog w A R) (fun e s' => R (.error e) s') s := by
  induction d with
  | zero =>
    intro i hd hi s h
    obtain ⟨xs, ys, n, m, gx, gy, zx, zy, _⟩ := hl _ _ h
    have hR : R (.ok (.ret (.bool false))) s := fin s ((show i = N by omega) ▸ h)
    obtain ⟨hp, g, dd, tk, os⟩ := s
    wp_walk using wpAny_loadPart' gx, wpAny_loadPart' gy
    rw [show xs[((i : Nat) : Int).toNat]? = none by simp; omega, show ys[((i : Nat) : Int).toNat]? = none by simp; omega]
    wp_walk using wpAny_loadPart' gx, wpAny_loadPart' gy
    show R (.ok (.ret (.bool (xs.size != ys.size)))) _
    rw [zx, zy]
    simpa using hR
  | succ d ih =>
    intro i hd hi s h
    obtain ⟨xs, ys, n, m, gx, gy, zx, zy, turn⟩ := hl _ _ h
    have l1 : i < xs.size := by omega
    have l2 : i < ys.size := by omega
    have ht := turn l1 l2
    obtain ⟨hp, g, dd, tk, os⟩ := s
    wp_walk using wpAny_loadPart' gx, wpAny_loadPart' gy
    have ec : ((i : Int) + 1) = ((i + 1 : Nat) : Int) := by omega
    rw [show xs[((i : Nat) : Int).toNat]? = some xs[i] by simp [l1], show ys[((i : Nat) : Int).toNat]? = some ys[i] by simp [l2]]
    refine wpAny_bind (wpAny_mono ht (fun r s2 q2 => ?_) fun _ _ x => x)
    obtain ⟨hr, q2⟩ := q2
    subst hr
    have again := ih (i + 1) (by omega) (by omega) s2 q2
    obtain ⟨hp2, g2, d2, tk2, os2⟩ := s2
    wp_walk
    rw [ec]
    exact ⟨plainId_quiet MeetsSeq3.plain_eq_loop _, codeAny_builtin MeetsSeq3.entry_eq_loop (by
      rw [Around.under_plainId MeetsSeq3.plain_eq_loop _]
      exact again)⟩
theorem list_ne (l b : Addr) (N : Nat) (Iv : Nat → Shared → Prop) (hl : ListI prog w A (fun e s' => R (.error e) s') l b N Iv) (fin : ∀ s, Iv N s → R (.ok (.ret (.bool false))) s) {s : Shared} (h : Iv 0 s) :
    wpAny (model prog w) A.in1 (Builtin.«list.__ne__» ⟨[.ref l, .ref b], []⟩) (FinOf prog w A R) (fun e s' => R (.error e) s') s := by
  obtain ⟨xs, ys, n, m, gx, gy, zx, zy, _⟩ := hl _ _ h
  have first := ne_loop (A := A) (R := R) l b N Iv hl fin _ 0 rfl (Nat.zero_le _) s h
  obtain ⟨hp, g, d, tk, os⟩ := s
  have f3 := AutoSeq1.sub_list_list
  have nz : ¬ (xs.size != ys.size) = true := by simp [zx, zy]
  wp_walk using wpAny_loadPart' gx, wpAny_loadPart' gy
  exact ⟨plainId_quiet MeetsSeq3.plain_eq_loop _, codeAny_builtin MeetsSeq3.entry_eq_loop (by
    rw [Around.under_plainId MeetsSeq3.plain_eq_loop _]
    exact first)⟩
end
theorem op_neLG {X : Cx} {n : Nat} {D : Eqv} (hD : Mon D) (h : EqG X n D) (hr : Room (n + 1) X.A) : OpR X (compareOp .NotEq) (rNeG (DList D)) := by
  intro pins s σ H x y v u Q I rx ry hq
  obtain ⟨⟨a, b, xs, ys, rfl, rfl, ha, hb, p⟩, q⟩ := hq
  cases (show v = Value.ref a from rx)
  cases (show u = Value.ref b from ry)
  have sb : L2.Sub X (n + 1) X.A := ⟨hr, rfl⟩
  have hL : ListI X.prog X.w X.A X.xe a b xs.length (fun _ s' => LoopI X pins σ H s') := fun i s' z => by
    obtain ⟨H1, I1, e1⟩ := id z
    obtain ⟨_, its, k, r, e⟩ := I1.hok a _ (e1 _ _ ha)
    obtain ⟨_, its2, k2, r2, e2⟩ := I1.hok b _ (e1 _ _ hb)
    exact ⟨its.toArray, its2.toArray, k, k2, e, e2, by rw [List.size_toArray, ← r.length], by rw [List.size_toArray, ← r2.length, ← p.1], fun h1 h2 => turnG hD h sb p r r2 i h1 h2 s' z⟩
  obtain ⟨xa, ya, n1, n2, g1, g2, _⟩ := hL 0 s ⟨H, I, Ext.rfl'⟩
  show wpAny (model X.prog X.w) X.A (richCompare .NotEq (.ref a) (.ref b)) (EP X pins σ Q) X.xe s
  refine wpAny_richCompare_same_room (op := .NotEq) ⟨_, g1, rfl⟩ ⟨_, g2, rfl⟩ PySem.F.slot_list_ne (call_here PySem.F.slot_list_ne ⟨_, g1, rfl⟩ PySem.F.entry_list_ne (PySem.F.args_list_ne_2 _ _) ?_) sb.room.units0
  refine list_ne (R := wants (fun v s' => v ≠ .notImplemented ∧ EP X pins σ Q v s') X.xe) a b xs.length _ hL (fun s' z => ⟨(fun x => nomatch x), ?_⟩) ⟨H, I, Ext.rfl'⟩
  obtain ⟨H', I', e'⟩ := z
  exact ⟨.bl false, H', I', rfl, q H' e'⟩
end MM
namespace MM
open PySem PySem.Spec PySem.Calls PyProof.Rows L2
/-! ### texts cut from the right -/
section
variable {X : Cx}
theorem mt_rpartition : MtR X "str.rpartition" (fun x xs H Q => ∃ a b, x = .str a ∧ xs = [.str b] ∧ (b.length == 0) = false ∧ a.length ≤ sizeLine ∧
    ∀ p, H p = none → Q (.ref p) (L2.upd H p (.tup [.str (Txt.rpartition a b).1, .str (Txt.rpartition a b).2.1, .str (Txt.rpartition a b).2.2]))) := by
  intro pins s σ H x xs v us Q I rx rs h
  obtain ⟨a, b, rfl, rfl, hb, hz, h⟩ := h
  obtain ⟨t, rfl⟩ := rx
  cases rs with
  | cons r1 rs =>
    cases rs
    obtain ⟨u, rfl⟩ := r1
    refine call_meets F.slot_str_rpartition (typeIs_str _ _ _) F.entry_str_rpartition (F.args_str_rpartition_2 _ _) (meets_str_rpartition a b t u hb hz) ?_
    unfold Txt.rpartition at h
    revert h
    cases Builtin.Str.lastOccurrence a b 0 a.length with
    | none => intro h; exact laid_parts I h
    | some i => intro h; exact laid_parts I h
theorem mt_rsplit2 : MtR X "str.rsplit" (fun x xs H Q => ∃ (a b : Str) (k : Int), x = .str a ∧ xs = [.str b, .int k] ∧ (b.length == 0) = false ∧ (decide (k < -(2 ^ 63 : Int)) || decide (k ≥ 2 ^ 63)) = false ∧ a.length + 2 ≤ sizeLine ∧ rNewStrs (Txt.rsplitMax a b k) H Q) := by
  intro pins s σ H x xs v us Q I rx rs h
  obtain ⟨a, b, k, rfl, rfl, hb, hk, hz, h⟩ := h
  obtain ⟨t, rfl⟩ := rx
  cases rs with
  | cons r1 rs =>
    cases rs with
    | cons r2 rs =>
      cases rs
      obtain ⟨u, rfl⟩ := r1
      obtain ⟨z, rfl⟩ := r2
      have hn : (Builtin.Str.partsBetween a (Builtin.Str.occurrencesFromRight a b (limitOf a k)) b.length).length ≤ sizeLine := by
        have e1 := StrLaws.occR_length_le_len a b (limitOf a k)
        rw [length_partsBetween]; omega
      have hl : (Txt.rsplitMax a b k).length ≤ sizeLine := by
        unfold Txt.rsplitMax
        split
        · show 1 ≤ sizeLine; decide
        · split
          · show 1 ≤ sizeLine; decide
          · exact hn
      cases h1 : (decide (a.length < b.length) || decide (Builtin.Str.strKind a < Builtin.Str.strKind b))
      · cases hf : (Builtin.Str.occurrencesFromRight a b (limitOf a k)).isEmpty
        · refine call_meets F.slot_str_rsplit (typeIs_str _ _ _) F.entry_str_rsplit (F.args_str_rsplit_3 _ _ _) (meets_str_rsplit_sep_max a b k t u z hk h1 hb hf (by omega) hn) ?_
          show EP X pins σ Q (.ref s.heap.objs.size) { s with toks := _, heap := s.heap.push { cls := .type "list", data := .seq (strsFrom s.toks (Builtin.Str.partsBetween a (Builtin.Str.occurrencesFromRight a b (limitOf a k)) b.length)).toArray } }
          rw [strsFrom_eq]
          exact laid_strs (ys := Txt.rsplitMax a b k) I ((numbered_texts _ _).trans ((if_neg (ne_true_of_eq_false h1)).trans (if_neg (ne_true_of_eq_false hf))).symm) hl h
        · refine call_meets F.slot_str_rsplit (typeIs_str _ _ _) F.entry_str_rsplit (F.args_str_rsplit_3 _ _ _) (meets_str_rsplit_max_not_found a b k t u z hk h1 hb hf) ?_
          exact laid_strs (l := [(a, t)]) (ys := Txt.rsplitMax a b k) (k := s.toks) I ((if_neg (ne_true_of_eq_false h1)).trans (if_pos hf)).symm hl h
      · refine call_meets F.slot_str_rsplit (typeIs_str _ _ _) F.entry_str_rsplit (F.args_str_rsplit_3 _ _ _) (meets_str_rsplit_max_cannot_occur a b k t u z hk h1) ?_
        exact laid_strs (l := [(a, t)]) (ys := Txt.rsplitMax a b k) (k := s.toks) I (if_pos h1).symm hl h
end
theorem at_one {y : Str} {c : Nat} (ey : TL.tl y = [c]) (t : Str) (i : Nat) : StrLaws.At t y t.length i ↔ (TL.tl t)[i]? = some c := by
  have hy : TL.tl y ≠ [] := by rw [ey]; simp
  rw [TL.at_iff hy, ey]
  constructor
  · intro h
    have e : ((TL.tl t).drop i).take 1 = [c] := eq_of_beq h
    cases hd : (TL.tl t).drop i with
    | nil => rw [hd] at e; cases e
    | cons x r =>
      rw [hd] at e
      have hx : x = c := by
        have : [x] = [c] := e
        injection this
      have : ((TL.tl t).drop i)[0]? = some x := by rw [hd]; rfl
      rw [List.getElem?_drop, Nat.add_zero] at this
      rw [this, hx]
  · intro h
    obtain ⟨hi, e⟩ := List.getElem?_eq_some_iff.mp h
    rw [List.drop_eq_getElem_cons hi, e]
    exact TL.pre_self [c] _
/-- a text cut at its last sign of one kind -/
theorem rpart_cases {y : Str} {c : Nat} (ey : TL.tl y = [c]) (t : Str) : (Txt.rpartition t y = (Str.empty, Str.empty, t) ∧ c ∉ t.cps.toList) ∨ ∃ a b : Str, Txt.rpartition t y = (a, y, b) ∧ t = a ++ y ++ b ∧ c ∉ b.cps.toList := by
  have yl : y.length = 1 := by rw [TL.len_tl, ey]; rfl
  rcases StrLaws.last_spec t y with ⟨e, hn⟩ | ⟨i, e, hi, hn⟩
  · refine .inl ⟨by unfold Txt.rpartition; rw [e], fun hm => ?_⟩
    obtain ⟨i, h⟩ := List.mem_iff_getElem?.mp hm
    exact hn i ((at_one ey t i).mpr h)
  · refine .inr ⟨_, _, by unfold Txt.rpartition; rw [e], ?_, ?_⟩
    · have h1 := (at_one ey t i).mp hi
      obtain ⟨hlt, hc⟩ := List.getElem?_eq_some_iff.mp h1
      refine TL.ext_tl ?_
      rw [TL.tl_append, TL.tl_append, TL.tl_strSub_end, TL.tl_strSub, List.drop_zero, Nat.sub_zero, yl, ey]
      have h3 : (TL.tl t).drop i = c :: (TL.tl t).drop (i + 1) := by rw [List.drop_eq_getElem_cons hlt, hc]
      have h4 := (List.take_append_drop i (TL.tl t)).symm
      rw [h3] at h4
      rw [List.append_assoc]
      exact h4
    · intro hm
      have hm' : c ∈ TL.tl (Builtin.Str.strSub t (i + y.length) t.length) := hm
      rw [TL.tl_strSub_end] at hm'
      obtain ⟨j, hj⟩ := List.mem_iff_getElem?.mp hm'
      rw [List.getElem?_drop] at hj
      exact hn (i + y.length + j) (by omega) ((at_one ey t _).mpr hj)
theorem occR_skip (s sub : Str) (limit : Nat) (st : Array Nat × Nat) : ∀ l : List Nat, (∀ k ∈ l, ¬ ((st.fst.size < limit ∧ s.length - k + sub.length ≤ st.snd) ∧ Builtin.Str.subAt s sub (s.length - k) = true)) → (forIn l st (StrLaws.occRBody s sub limit)).run = st
  | [], _ => rfl
  | a :: l, h => by
    rw [List.forIn_cons]
    unfold StrLaws.occRBody
    rw [if_neg (h a List.mem_cons_self)]
    exact occR_skip s sub limit st l fun k hk => h k (List.mem_cons_of_mem _ hk)
theorem occR_hit (s sub : Str) (limit : Nat) (st : Array Nat × Nat) (a : Nat) (l : List Nat) (h : (st.fst.size < limit ∧ s.length - a + sub.length ≤ st.snd) ∧ Builtin.Str.subAt s sub (s.length - a) = true) : (forIn (a :: l) st (StrLaws.occRBody s sub limit)).run = (forIn l (st.fst.push (s.length - a), s.length - a) (StrLaws.occRBody s sub limit)).run := by
  rw [List.forIn_cons]
  conv => lhs; unfold StrLaws.occRBody
  rw [if_pos h]
  rfl
theorem occR_app (s sub : Str) (limit : Nat) (l2 : List Nat) : ∀ (l1 : List Nat) (st : Array Nat × Nat), (forIn (l1 ++ l2) st (StrLaws.occRBody s sub limit)).run = (forIn l2 ((forIn l1 st (StrLaws.occRBody s sub limit)).run) (StrLaws.occRBody s sub limit)).run
  | [], st => rfl
  | a :: l1, st => by
    rw [List.cons_append, List.forIn_cons, List.forIn_cons]
    by_cases h : (st.fst.size < limit ∧ s.length - a + sub.length ≤ st.snd) ∧ Builtin.Str.subAt s sub (s.length - a) = true
    · have e : StrLaws.occRBody s sub limit a st = pure (ForInStep.yield (st.fst.push (s.length - a), s.length - a)) := by
        unfold StrLaws.occRBody
        rw [if_pos h]
      rw [e]
      exact occR_app s sub limit l2 l1 _
    · have e : StrLaws.occRBody s sub limit a st = pure (ForInStep.yield (st.fst, st.snd)) := by
        unfold StrLaws.occRBody
        rw [if_neg h]
      rw [e]
      exact occR_app s sub limit l2 l1 _
theorem sub_one {y : Str} {c : Nat} (ey : TL.tl y = [c]) (t : Str) (i : Nat) (h : Builtin.Str.subAt t y i = true) (hi : i + 1 ≤ t.length) : (TL.tl t)[i]? = some c := by
  refine (at_one ey t i).mp ⟨?_, h⟩
  rw [TL.len_tl y, ey]
  exact hi
theorem sub_of {y : Str} {c : Nat} (ey : TL.tl y = [c]) (t : Str) (i : Nat) (h : (TL.tl t)[i]? = some c) : Builtin.Str.subAt t y i = true := ((at_one ey t i).mpr h).2
/-- a text cut at its last two signs of one kind -/
theorem rsplit_two {y : Str} {c : Nat} (ey : TL.tl y = [c]) (kd : y.cps.all (· < 256) = true) {a b d : Str} (hb : c ∉ b.cps.toList) (hd : c ∉ d.cps.toList) : Txt.rsplitMax (a ++ y ++ b ++ y ++ d) y 2 = [a, b, d] := by
  have yl : y.length = 1 := by rw [TL.len_tl, ey]; rfl
  generalize ht : a ++ y ++ b ++ y ++ d = t
  have et : TL.tl t = TL.tl a ++ (c :: (TL.tl b ++ (c :: TL.tl d))) := by
    rw [← ht, TL.tl_append, TL.tl_append, TL.tl_append, TL.tl_append, ey]
    simp
  have tl : t.length = a.length + 1 + b.length + 1 + d.length := by
    rw [TL.len_tl, et, TL.len_tl a, TL.len_tl b, TL.len_tl d]
    simp
    omega
  have la := TL.len_tl a
  have lb := TL.len_tl b
  have ld := TL.len_tl d
  have at1 : (TL.tl t)[a.length + 1 + b.length]? = some c := by
    rw [et, List.getElem?_append_right (by omega), show a.length + 1 + b.length - (TL.tl a).length = b.length + 1 by omega, List.getElem?_cons_succ, List.getElem?_append_right (by omega), show b.length - (TL.tl b).length = 0 by omega]
    rfl
  have at2 : (TL.tl t)[a.length]? = some c := by
    rw [et, List.getElem?_append_right (by omega), show a.length - (TL.tl a).length = 0 by omega]
    rfl
  have no1 : ∀ i, a.length + 1 + b.length < i → (TL.tl t)[i]? ≠ some c := fun i hi h => by
    rw [et, List.getElem?_append_right (by omega), show i - (TL.tl a).length = (b.length + 1 + (i - (a.length + 1 + b.length) - 1)) + 1 by omega, List.getElem?_cons_succ, List.getElem?_append_right (by omega), show b.length + 1 + (i - (a.length + 1 + b.length) - 1) - (TL.tl b).length = (i - (a.length + 1 + b.length) - 1) + 1 by omega, List.getElem?_cons_succ] at h
    exact hd (List.mem_of_getElem? h)
  have no2 : ∀ i, a.length < i → i < a.length + 1 + b.length → (TL.tl t)[i]? ≠ some c := fun i h1 h2 h => by
    rw [et, List.getElem?_append_right (by omega), show i - (TL.tl a).length = (i - a.length - 1) + 1 by omega, List.getElem?_cons_succ, List.getElem?_append_left (by omega)] at h
    exact hb (List.mem_of_getElem? h)
  have occ : Builtin.Str.occurrencesFromRight t y 2 = [a.length, a.length + 1 + b.length] := by
    rw [StrLaws.occR_eq]
    have r1 : List.range' 0 (t.length + 1) = List.range' 0 (d.length + 1) ++ ([d.length + 1] ++ (List.range' (d.length + 1 + 1) b.length ++ ([d.length + 1 + 1 + b.length] ++ List.range' (d.length + 1 + 1 + b.length + 1) a.length))) := by
      have e1 : ∀ k n m, List.range' k (n + m) = List.range' k n ++ List.range' (k + n) m := fun k n m => by rw [← List.range'_append_1]
      rw [show t.length + 1 = (d.length + 1) + (1 + (b.length + (1 + a.length))) by omega, e1 0 (d.length + 1), Nat.zero_add, e1 (d.length + 1) 1, e1 (d.length + 1 + 1) b.length, e1 (d.length + 1 + 1 + b.length) 1]
      rfl
    have q1 : t.length - (d.length + 1) = a.length + 1 + b.length := by omega
    have q2 : t.length - (d.length + 1 + 1 + b.length) = a.length := by omega
    have k1 := occR_skip t y 2 (#[], t.length) (List.range' 0 (d.length + 1)) (fun k hk hh => by
      have hk' := List.mem_range'_1.mp hk
      have h2 : t.length - k + y.length ≤ t.length := hh.1.2
      exact no1 (t.length - k) (by omega) (sub_one ey t _ hh.2 (by omega)))
    have k2 := occR_hit t y 2 (#[], t.length) (d.length + 1) [] ⟨⟨by simp, by show t.length - (d.length + 1) + y.length ≤ t.length; omega⟩, sub_of ey t _ (by rw [q1]; exact at1)⟩
    have k3 := occR_skip t y 2 ((#[] : Array Nat).push (t.length - (d.length + 1)), t.length - (d.length + 1)) (List.range' (d.length + 1 + 1) b.length) (fun k hk hh => by
      have hk' := List.mem_range'_1.mp hk
      exact no2 (t.length - k) (by omega) (by omega) (sub_one ey t _ hh.2 (by omega)))
    have k4 := occR_hit t y 2 ((#[] : Array Nat).push (t.length - (d.length + 1)), t.length - (d.length + 1)) (d.length + 1 + 1 + b.length) [] ⟨⟨by simp, by show t.length - (d.length + 1 + 1 + b.length) + y.length ≤ t.length - (d.length + 1); omega⟩, sub_of ey t _ (by rw [q2]; exact at2)⟩
    have k5 := occR_skip t y 2 (((#[] : Array Nat).push (t.length - (d.length + 1))).push (t.length - (d.length + 1 + 1 + b.length)), t.length - (d.length + 1 + 1 + b.length)) (List.range' (d.length + 1 + 1 + b.length + 1) a.length) (fun k hk hh => by
      have := hh.1.1
      simp at this)
    rw [r1, occR_app, k1, occR_app, k2]
    show (forIn (List.range' (d.length + 1 + 1) b.length ++ ([d.length + 1 + 1 + b.length] ++ List.range' (d.length + 1 + 1 + b.length + 1) a.length)) ((#[] : Array Nat).push (t.length - (d.length + 1)), t.length - (d.length + 1)) (StrLaws.occRBody t y 2)).run.fst.toList.reverse = _
    rw [occR_app, k3, occR_app, k4]
    show (forIn (List.range' (d.length + 1 + 1 + b.length + 1) a.length) (((#[] : Array Nat).push (t.length - (d.length + 1))).push (t.length - (d.length + 1 + 1 + b.length)), t.length - (d.length + 1 + 1 + b.length)) (StrLaws.occRBody t y 2)).run.fst.toList.reverse = _
    rw [k5, q1, q2]
    rfl
  have lim : limitOf t 2 = 2 := rfl
  unfold Txt.rsplitMax
  rw [lim, occ]
  have h1 : (decide (t.length < y.length) || decide (Builtin.Str.strKind t < Builtin.Str.strKind y)) = false := by
    rw [Bool.or_eq_false_iff]
    exact ⟨decide_eq_false (by omega), decide_eq_false (TL.kind_ok kd)⟩
  rw [h1, if_neg (by simp), if_neg (by simp), StrLaws.partsBetween_eq]
  show [Builtin.Str.strSub t 0 a.length, Builtin.Str.strSub t (a.length + y.length) (a.length + 1 + b.length), Builtin.Str.strSub t (a.length + 1 + b.length + y.length) t.length] = _
  have p1 : Builtin.Str.strSub t 0 a.length = a := TL.ext_tl (by
    rw [TL.tl_strSub, List.drop_zero, Nat.sub_zero, et, la, List.take_left])
  have p2 : Builtin.Str.strSub t (a.length + y.length) (a.length + 1 + b.length) = b := TL.ext_tl (by
    rw [TL.tl_strSub, et, yl, la, List.drop_append, List.drop_of_length_le (by omega), show (TL.tl a).length + 1 - (TL.tl a).length = 1 by omega, List.nil_append, List.drop_succ_cons, List.drop_zero, show (TL.tl a).length + 1 + b.length - ((TL.tl a).length + 1) = (TL.tl b).length by omega, List.take_left])
  have p3 : Builtin.Str.strSub t (a.length + 1 + b.length + y.length) t.length = d := TL.ext_tl (by
    rw [TL.tl_strSub_end, et, yl, List.drop_append, List.drop_of_length_le (by omega), List.nil_append, show a.length + 1 + b.length + 1 - (TL.tl a).length = (b.length + 1) + 1 by omega, List.drop_succ_cons, List.drop_append, List.drop_of_length_le (by omega), List.nil_append, show b.length + 1 - (TL.tl b).length = 0 + 1 by omega, List.drop_succ_cons, List.drop_zero])
  rw [p1, p2, p3]
end MM
namespace MM
open PySem PySem.Spec PySem.Calls PyProof.Rows L2
/-! ### the texts of dates -/
def twoF (i : Int) : Str := Txt.zfill (numT 10 i) 2
def oddS (o : Bool) : Str := if o then "*" else ""
def daS (y n d : Int) (o : Bool) : Str := (((((Str.empty ++ numT 10 y) ++ ("-" : Str)) ++ twoF n) ++ oddS o) ++ ("-" : Str)) ++ twoF d
theorem dash_tl : TL.tl ("-" : Str) = [45] := by decide +kernel
theorem star_tl : TL.tl ("*" : Str) = [42] := by decide +kernel
theorem two_cps {i : Int} (h0 : 0 ≤ i) : (twoF i).cps.toList = (if i < 10 then [48] else []) ++ (numT 10 i).cps.toList := by
  have hc : (numT 10 i).cps.toList = (lsd 10 i.natAbs).reverse.map dg := by
    unfold numT
    rw [if_neg (by omega)]
    rfl
  have hl : (numT 10 i).length = (lsd 10 i.natAbs).length := by
    unfold numT
    rw [if_neg (by omega), txt_len, List.length_reverse]
  unfold twoF Txt.zfill
  by_cases h : i < 10
  · have e1 : lsd 10 i.natAbs = [i.natAbs] := lsd_lt (by omega)
    rw [hl, e1, if_neg (by simp), if_pos h]
    have e2 : numT 10 i = ⟨#[dg i.natAbs]⟩ := str_ext (by rw [hc, e1]; rfl)
    rw [e2]
    have hd : dg i.natAbs = 48 + i.natAbs := by unfold dg; rw [if_pos (by omega)]
    have : ∀ k : Fin 10, (zfilled ⟨#[48 + k.val]⟩ ((2 : Int).toNat - [k.val].length)).cps.toList = [48] ++ [48 + k.val] := by decide +kernel
    have z := this ⟨i.natAbs, by omega⟩
    rw [hd]
    exact z
  · have e1 : lsd 10 i.natAbs = (i.natAbs % 10) :: lsd 10 (i.natAbs / 10) := lsd_ge (by decide) (by omega)
    have e2 : 2 ≤ (lsd 10 i.natAbs).length := by
      rw [e1, List.length_cons]
      have := List.length_pos_iff.mpr (lsd_ne 10 (i.natAbs / 10))
      omega
    rw [hl, if_pos (by omega), if_neg h]
    rfl
theorem two_neg {i : Int} (h : i < 0) : twoF i = ("-" : Str) ++ numT 10 (-i) := by
  have e : numT 10 i = ("-" : Str) ++ txt (lsd 10 i.natAbs).reverse := by
    unfold numT
    rw [if_pos h]
  have e2 : numT 10 (-i) = txt (lsd 10 i.natAbs).reverse := by
    unfold numT
    rw [if_neg (by omega), show (-i).natAbs = i.natAbs by omega]
  have hl : (2 : Int) ≤ (numT 10 i).length := by
    rw [e, dash_txt_len, List.length_reverse]
    have := List.length_pos_iff.mpr (lsd_ne 10 i.natAbs)
    omega
  unfold twoF Txt.zfill
  rw [if_pos hl, e, e2]
theorem two_len' {i : Int} {n : Nat} (z : (numT 10 i).length ≤ n) : (twoF i).length ≤ n + 1 := by
  by_cases h : i < 0
  · have hl : (2 : Int) ≤ (numT 10 i).length := by
      have e : numT 10 i = ("-" : Str) ++ txt (lsd 10 i.natAbs).reverse := by
        unfold numT
        rw [if_pos h]
      rw [e, dash_txt_len, List.length_reverse]
      have := List.length_pos_iff.mpr (lsd_ne 10 i.natAbs)
      omega
    unfold twoF Txt.zfill
    rw [if_pos hl]
    omega
  · rw [len_cps, two_cps (by omega), List.length_append, ← len_cps]
    split <;> simp <;> omega
theorem num_dig {i : Int} (h : 0 ≤ i) : ∀ c ∈ (numT 10 i).cps.toList, 48 ≤ c ∧ c ≤ 57 := by
  intro c hc
  rw [numT_cps, if_neg (by omega), List.nil_append] at hc
  obtain ⟨d, hd, rfl⟩ := List.mem_map.mp hc
  have := lsd_small (b := 10) (by decide) i.natAbs d (List.mem_reverse.mp hd)
  unfold dg
  rw [if_pos this]
  omega
theorem two_dig {i : Int} (h : 0 ≤ i) : ∀ c ∈ (twoF i).cps.toList, 48 ≤ c ∧ c ≤ 57 := by
  intro c hc
  rw [two_cps h] at hc
  rcases List.mem_append.mp hc with z | z
  · split at z
    · rw [List.mem_singleton.mp z]
      decide
    · cases z
  · exact num_dig h c z
theorem ninL_zero (b : Int) (l : List Nat) : ninL b (48 :: l) = ninL b l := by
  unfold ninL
  rw [List.foldl_cons]
  have : fv 48 = 0 := fv_dg (d := 0) (by decide)
  rw [this, Int.zero_mul, Int.add_zero]
theorem nin_two {i : Int} (h : 0 ≤ i) : nin ((10 : Nat) : Int) (twoF i) = i := by
  have e := nin_num (b := 10) (by decide) (by decide) i
  have hd : ∀ t : Str, (∀ c ∈ t.cps.toList, 48 ≤ c ∧ c ≤ 57) → hasD t.cps.toList = false := fun t ht => by
    unfold hasD
    cases hc : t.cps.toList with
    | nil => rfl
    | cons x xs =>
      have := ht x (by rw [hc]; exact List.mem_cons_self)
      show (some x == some 45) = false
      exact beq_eq_false_iff_ne.mpr fun z => by injection z with z; omega
  unfold nin unm at e ⊢
  rw [hd _ (num_dig h)] at e
  rw [hd _ (two_dig h)]
  simp only [Bool.false_eq_true, if_false] at e ⊢
  rw [two_cps h]
  split
  · rw [List.singleton_append, ninL_zero]
    exact e
  · rw [List.nil_append]
    exact e
theorem two_inj {i j : Int} (h : 0 ≤ i) (h' : 0 ≤ j) (e : twoF i = twoF j) : i = j := by
  rw [← nin_two h, e, nin_two h']
/-! a text cut at its last sign of one kind is cut so but once -/
theorem cut_once {c : Nat} {l1 l2 r1 r2 : List Nat} (e : l1 ++ c :: r1 = l2 ++ c :: r2) (h1 : c ∉ r1) (h2 : c ∉ r2) : l1 = l2 ∧ r1 = r2 := by
  rcases List.append_eq_append_iff.mp e with ⟨a, e1, e2⟩ | ⟨a, e1, e2⟩
  · cases a with
    | nil =>
      rw [List.nil_append] at e2
      injection e2 with _ e3
      exact ⟨by rw [e1, List.append_nil], e3⟩
    | cons x a =>
      rw [List.cons_append] at e2
      injection e2 with _ e3
      exact absurd (by rw [e3]; simp) h1
  · cases a with
    | nil =>
      rw [List.nil_append] at e2
      injection e2 with _ e3
      exact ⟨by rw [e1, List.append_nil], e3.symm⟩
    | cons x a =>
      rw [List.cons_append] at e2
      injection e2 with _ e3
      exact absurd (by rw [e3]; simp) h2
theorem cutd {a b a' b' : Str} (e : a ++ ("-" : Str) ++ b = a' ++ ("-" : Str) ++ b') (h : 45 ∉ b.cps.toList) (h' : 45 ∉ b'.cps.toList) : a = a' ∧ b = b' := by
  have e1 := congrArg TL.tl e
  rw [TL.tl_append, TL.tl_append, TL.tl_append, TL.tl_append, dash_tl, List.append_assoc, List.append_assoc] at e1
  obtain ⟨h1, h2⟩ := cut_once (c := 45) e1 h h'
  exact ⟨TL.ext_tl h1, TL.ext_tl h2⟩
theorem app_assoc (a b c : Str) : a ++ b ++ c = a ++ (b ++ c) := str_ext (by simp only [app_cps, List.append_assoc])
theorem emp_app (a : Str) : Str.empty ++ a = a := str_ext (by rw [app_cps]; rfl)
theorem app_emp (a : Str) : a ++ ("" : Str) = a := str_ext (by rw [app_cps, show ("" : Str).cps.toList = [] by decide +kernel, List.append_nil])
theorem daS_eq (y n d : Int) (o : Bool) : daS y n d o = numT 10 y ++ ("-" : Str) ++ (twoF n ++ oddS o) ++ ("-" : Str) ++ twoF d := by
  unfold daS
  rw [emp_app, app_assoc (numT 10 y ++ ("-" : Str)) (twoF n)]
theorem two_no {i : Int} (h : 0 ≤ i) : 45 ∉ (twoF i).cps.toList ∧ 42 ∉ (twoF i).cps.toList := ⟨fun z => by have := two_dig h _ z; omega, fun z => by have := two_dig h _ z; omega⟩
theorem num_no {i : Int} (h : 0 ≤ i) : 45 ∉ (numT 10 i).cps.toList ∧ 42 ∉ (numT 10 i).cps.toList := ⟨fun z => by have := num_dig h _ z; omega, fun z => by have := num_dig h _ z; omega⟩
theorem odd_no (o : Bool) : 45 ∉ (oddS o).cps.toList := by cases o <;> decide +kernel
theorem mid_no {w : Str} (h : 45 ∉ w.cps.toList) (o : Bool) : 45 ∉ (w ++ oddS o).cps.toList := fun z => by
  rw [app_cps] at z
  rcases List.mem_append.mp z with z | z
  · exact h z
  · exact odd_no o z
/-! a star at the end -/
theorem ends_iff (x : Str) : Txt.endswith x ("*" : Str) = true ↔ x.cps.toList.getLast? = some 42 := by
  have sl : ("*" : Str).length = 1 := by decide +kernel
  unfold Txt.endswith
  rw [sl, Bool.and_eq_true, decide_eq_true_eq, List.getLast?_eq_getElem?, len_cps]
  constructor
  · rintro ⟨h1, h2⟩
    have := sub_one star_tl x _ h2 (by rw [len_cps]; omega)
    exact this
  · intro h
    have hl := (List.getElem?_eq_some_iff.mp h).1
    exact ⟨by omega, sub_of star_tl x _ h⟩
theorem suff_yes (w : Str) : Txt.removesuffix (w ++ ("*" : Str)) ("*" : Str) = w := by
  have sl : ("*" : Str).length = 1 := by decide +kernel
  have wl : (w ++ ("*" : Str)).length = w.length + 1 := by rw [len_cps, app_cps, List.length_append, ← len_cps, ← len_cps, sl]
  have ha : (TL.tl (w ++ ("*" : Str)))[w.length]? = some 42 := by
    rw [TL.tl_append, star_tl, List.getElem?_append_right (by rw [TL.len_tl]; exact Nat.le_refl _), TL.len_tl, Nat.sub_self]
    rfl
  unfold Txt.removesuffix
  rw [wl, sl, show w.length + 1 - 1 = w.length by omega, sub_of star_tl _ _ ha]
  rw [show (decide (1 ≤ w.length + 1) && true) = true by simp, if_pos rfl]
  unfold Txt.affix
  show (if (w.length - 0 == (w ++ ("*" : Str)).length) = true then w ++ ("*" : Str) else Builtin.Str.strSub (w ++ ("*" : Str)) 0 w.length) = w
  rw [wl, Nat.sub_zero, show (w.length == w.length + 1) = false by simp]
  refine TL.ext_tl ?_
  simp only [Bool.false_eq_true, if_false]
  rw [TL.tl_strSub, TL.tl_append, List.drop_zero, Nat.sub_zero, TL.len_tl, List.take_left]
theorem suff_no {x : Str} (h : x.cps.toList.getLast? ≠ some 42) : Txt.removesuffix x ("*" : Str) = x := by
  have sl : ("*" : Str).length = 1 := by decide +kernel
  unfold Txt.removesuffix
  have : (decide (("*" : Str).length ≤ x.length) && Builtin.Str.subAt x ("*" : Str) (x.length - ("*" : Str).length)) = false := by
    cases hb : (decide (("*" : Str).length ≤ x.length) && Builtin.Str.subAt x ("*" : Str) (x.length - ("*" : Str).length)) with
    | false => rfl
    | true =>
      rw [Bool.and_eq_true, decide_eq_true_eq, sl] at hb
      refine absurd ?_ h
      rw [List.getLast?_eq_getElem?, ← len_cps]
      exact sub_one star_tl x _ hb.2 (by omega)
  rw [this]
  rfl
theorem last_app (w : Str) : (w ++ ("*" : Str)).cps.toList.getLast? = some 42 := by
  rw [app_cps, show ("*" : Str).cps.toList = [42] from star_tl]
  simp
theorem last_no {w : Str} (h : 42 ∉ w.cps.toList) : w.cps.toList.getLast? ≠ some 42 := fun z => h (List.mem_of_getLast? z)
theorem suff_odd {w : Str} (h : 42 ∉ w.cps.toList) (o : Bool) : Txt.removesuffix (w ++ oddS o) ("*" : Str) = w ∧ Txt.endswith (w ++ oddS o) ("*" : Str) = o := by
  cases o with
  | true => exact ⟨suff_yes w, (ends_iff _).mpr (last_app w)⟩
  | false =>
    have e : w ++ oddS false = w := app_emp w
    rw [e]
    refine ⟨suff_no (last_no h), ?_⟩
    cases hb : Txt.endswith w ("*" : Str) with
    | false => rfl
    | true => exact absurd ((ends_iff w).mp hb) (last_no h)
/-! read_date, as maths -/
structure Rdd where
  y : Int
  n : Int
  d : Int
  o : Bool
def rdd (t : Str) : Rdd :=
  let r1 := Txt.rpartition t ("-" : Str)
  let r2 := Txt.rpartition r1.1 ("-" : Str)
  ⟨nin ((10 : Nat) : Int) r2.1, nin ((10 : Nat) : Int) (Txt.removesuffix r2.2.2 ("*" : Str)), nin ((10 : Nat) : Int) r1.2.2, Txt.endswith r2.2.2 ("*" : Str)⟩
theorem rp_app {a b : Str} (h : 45 ∉ b.cps.toList) : Txt.rpartition (a ++ ("-" : Str) ++ b) ("-" : Str) = (a, ("-" : Str), b) := by
  rcases rpart_cases dash_tl (a ++ ("-" : Str) ++ b) with ⟨_, hn⟩ | ⟨a', b', e, ht, hb⟩
  · refine absurd ?_ hn
    rw [app_cps, app_cps, dash_cps]
    simp
  · obtain ⟨e1, e2⟩ := cutd ht h hb
    rw [e, ← e1, ← e2]
theorem rdd_of {t : Str} {y n d : Int} {o : Bool} (hn : 0 ≤ n) (hd : 0 ≤ d) (e : t = daS y n d o) : (rdd t).y = y ∧ (rdd t).n = n ∧ (rdd t).d = d ∧ (rdd t).o = o := by
  have m := mid_no (two_no hn).1 o
  have e1 : Txt.rpartition t ("-" : Str) = (numT 10 y ++ ("-" : Str) ++ (twoF n ++ oddS o), ("-" : Str), twoF d) := by
    rw [e, daS_eq]
    exact rp_app (two_no hd).1
  have e2 := rp_app (a := numT 10 y) m
  obtain ⟨s1, s2⟩ := suff_odd (two_no hn).2 o
  unfold rdd
  simp only [e1, e2, s1, s2]
  exact ⟨nin_num (b := 10) (by decide) (by decide) y, nin_two hn, nin_two hd, trivial⟩
theorem rdd_ok {t : Str} (e : daS (rdd t).y (rdd t).n (rdd t).d (rdd t).o = t) : 0 ≤ (rdd t).n ∧ 0 ≤ (rdd t).d := by
  have e0 := e
  rw [daS_eq] at e
  rcases rpart_cases dash_tl t with ⟨_, hn⟩ | ⟨r, dd, e1, ht, hb⟩
  · refine absurd ?_ hn
    rw [← e, app_cps, app_cps, dash_cps]
    simp
  have hd : 0 ≤ (rdd t).d := by
    refine Int.not_lt.mp fun z => ?_
    have ed : (rdd t).d = nin ((10 : Nat) : Int) dd := by
      unfold rdd
      simp only [e1]
    rw [two_neg z, ← app_assoc] at e
    obtain ⟨_, e3⟩ := cutd (e.trans ht) (num_no (by omega)).1 hb
    rw [← e3, nin_num (b := 10) (by decide) (by decide)] at ed
    omega
  refine ⟨?_, hd⟩
  obtain ⟨e3, _⟩ := cutd (e.trans ht) (two_no hd).1 hb
  rcases rpart_cases dash_tl r with ⟨_, hn⟩ | ⟨yy, mm, e4, hr, hm⟩
  · refine absurd ?_ hn
    rw [← e3, app_cps, app_cps, dash_cps]
    simp
  refine Int.not_lt.mp fun z => ?_
  have en : (rdd t).n = nin ((10 : Nat) : Int) (Txt.removesuffix mm ("*" : Str)) := by
    unfold rdd
    simp only [e1, e4]
  rw [two_neg z, app_assoc ("-" : Str), ← app_assoc (numT 10 (rdd t).y ++ ("-" : Str))] at e3
  obtain ⟨_, e5⟩ := cutd (e3.trans hr) (mid_no (num_no (by omega)).1 _) hm
  rw [← e5, (suff_odd (num_no (by omega)).2 _).1, nin_num (b := 10) (by decide) (by decide)] at en
  omega
end MM
namespace MM
open PySem PySem.Spec PySem.Calls PyProof.Rows L2
open AutoSeq1 (wpAny_loadPart')
open GQ (FinOf call_here)
/-! ### lists whose first things differ, == -/
section
variable {prog : Program} {w : World} {A : Around} {R : Result → Shared → Prop}
def ListF (prog : Program) (w : World) (A : Around) (E : Value → Shared → Prop) (l b : Addr) (N : Nat) (I : Shared → Prop) : Prop :=
  ∀ s, I s → ∃ (xs ys : Array Value) (n m : Nat), s.heap.get? l = some { cls := .type "list", data := .seq xs n } ∧ s.heap.get? b = some { cls := .type "list", data := .seq ys m } ∧ xs.size = N ∧ ys.size = N ∧
    ∀ (h1 : 0 < xs.size) (h2 : 0 < ys.size), wpAny (model prog w) A.in1 (eqBool xs[0] ys[0]) (fun r s' => r = false ∧ I s') E s
theorem eq_loopF (l b : Addr) (N : Nat) (hN : 0 < N) (Iv : Shared → Prop) (hl : ListF prog w A (fun e s' => R (.error e) s') l b N Iv) (fin : ∀ s, Iv s → R (.ok (.ret (.bool false))) s) {s : Shared} (h : Iv s) :
    wpAny (model prog w) A.in1 (Builtin.«list.__eq__.loop» ⟨[.ref l, .ref b, rawInt 0, rawInt 2], []⟩) (FinOf prog w A R) (fun e s' => R (.error e) s') s := by
  obtain ⟨xs, ys, n, m, gx, gy, zx, zy, turn⟩ := hl _ h
  have l1 : 0 < xs.size := by omega
  have l2 : 0 < ys.size := by omega
  have ht := turn l1 l2
  obtain ⟨hp, g, dd, tk, os⟩ := s
  wp_walk using wpAny_loadPart' gx, wpAny_loadPart' gy
  rw [show xs[(0 : Int).toNat]? = some xs[0] by simp [l1], show ys[(0 : Int).toNat]? = some ys[0] by simp [l2]]
  refine wpAny_bind (wpAny_mono ht (fun r s2 q2 => ?_) fun _ _ x => x)
  obtain ⟨hr, q2⟩ := q2
  subst hr
  obtain ⟨xs2, ys2, n2, m2, gx2, gy2, zx2, zy2, _⟩ := hl _ q2
  have hR := fin _ q2
  have k1 : 0 < xs2.size := by omega
  have k2 : 0 < ys2.size := by omega
  obtain ⟨hp2, g2, d2, tk2, os2⟩ := s2
  wp_walk using wpAny_loadPart' gx2, wpAny_loadPart' gy2
  rw [show xs2[(0 : Int).toNat]? = some xs2[0] by simp [k1], show ys2[(0 : Int).toNat]? = some ys2[0] by simp [k2]]
  wp_walk
  exact hR
theorem list_eqF (l b : Addr) (N : Nat) (hN : 0 < N) (Iv : Shared → Prop) (hl : ListF prog w A (fun e s' => R (.error e) s') l b N Iv) (fin : ∀ s, Iv s → R (.ok (.ret (.bool false))) s) {s : Shared} (h : Iv s) :
    wpAny (model prog w) A.in1 (Builtin.«list.__eq__» ⟨[.ref l, .ref b], []⟩) (FinOf prog w A R) (fun e s' => R (.error e) s') s := by
  obtain ⟨xs, ys, n, m, gx, gy, zx, zy, _⟩ := hl _ h
  have first := eq_loopF (A := A) (R := R) l b N hN Iv hl fin h
  obtain ⟨hp, g, d, tk, os⟩ := s
  have f3 := AutoSeq1.sub_list_list
  have nz : ¬ (xs.size != ys.size) = true := by simp [zx, zy]
  wp_walk using wpAny_loadPart' gx, wpAny_loadPart' gy
  exact ⟨plainId_quiet MeetsSeq3.plain_eq_loop _, codeAny_builtin MeetsSeq3.entry_eq_loop (by
    rw [Around.under_plainId MeetsSeq3.plain_eq_loop _]
    exact first)⟩
end
/-- x == y, lists of one length whose first things are not == -/
def rEqLF (D : V → V → Hp → Bool → Prop) : R2 := fun x y H Q => ∃ (a b : Addr) (p q : V) (xs ys : List V), x = .ref a ∧ y = .ref b ∧ H a = some (.lst (p :: xs)) ∧ H b = some (.lst (q :: ys)) ∧ xs.length = ys.length ∧ (∀ H', Ext H H' → D p q H' false) ∧ ∀ H', Ext H H' → Q (.bl false) H'
theorem op_eqLF {X : Cx} {n : Nat} {D : V → V → Hp → Bool → Prop} (h : EqB X n D) (hr : Room (n + 1) X.A) : OpR X (compareOp .Eq) (rEqLF D) := by
  intro pins s σ H x y v u Q I rx ry hq
  obtain ⟨a, b, p, q, xs, ys, rfl, rfl, ha, hb, hlen, hD, k⟩ := hq
  cases (show v = Value.ref a from rx)
  cases (show u = Value.ref b from ry)
  have sb : L2.Sub X (n + 1) X.A := ⟨hr, rfl⟩
  have hL : ListF X.prog X.w X.A X.xe a b (xs.length + 1) (fun s' => LoopI X pins σ H s') := fun s' z => by
    obtain ⟨H1, I1, e1⟩ := id z
    obtain ⟨_, its, k, r, e⟩ := I1.hok a _ (e1 _ _ ha)
    obtain ⟨_, its2, k2, r2, e2⟩ := I1.hok b _ (e1 _ _ hb)
    refine ⟨its.toArray, its2.toArray, k, k2, e, e2, by rw [List.size_toArray, ← r.length]; rfl, by rw [List.size_toArray, ← r2.length, List.length_cons, hlen], fun h1 h2 => ?_⟩
    obtain ⟨p', hp', rp⟩ := get_arr r h1
    obtain ⟨q', hq', rq⟩ := get_arr r2 h2
    cases hp'
    cases hq'
    refine wpAny_mono (h X.A.in1 pins s' σ H1 _ _ _ _ false sb.in1 I1 rp rq (hD H1 e1)) (fun c s2 z2 => ?_) fun _ _ y => y
    obtain ⟨hc, H2, I2, x2⟩ := z2
    exact ⟨hc, H2, I2, e1.trans x2⟩
  obtain ⟨xa, ya, n1, n2, g1, g2, _⟩ := hL s ⟨H, I, Ext.rfl'⟩
  show wpAny (model X.prog X.w) X.A (richCompare .Eq (.ref a) (.ref b)) (EP X pins σ Q) X.xe s
  refine wpAny_richCompare_same_room (op := .Eq) ⟨_, g1, rfl⟩ ⟨_, g2, rfl⟩ PySem.F.slot_list_eq (call_here PySem.F.slot_list_eq ⟨_, g1, rfl⟩ PySem.F.entry_list_eq (PySem.F.args_list_eq_2 _ _) ?_) sb.room.units0
  refine list_eqF (R := wants (fun v s' => v ≠ .notImplemented ∧ EP X pins σ Q v s') X.xe) a b (xs.length + 1) (Nat.succ_pos _) _ hL (fun s' z => ⟨(fun x => nomatch x), ?_⟩) ⟨H, I, Ext.rfl'⟩
  obtain ⟨H', I', e'⟩ := z
  exact ⟨.bl false, H', I', rfl, k H' e'⟩
end MM
namespace MM
open PySem PySem.Spec PySem.Calls PyProof.Rows L2
/-! ### len(x) of an instance with its own __len__ -/
section
variable {prog : Program} {w : World} {A : Around} {E : Value → Shared → Prop} {s : Shared} {K : PySem.W.Frag} {x C f : Addr} {ox : Obj} {od : Option Obj}
open PySem.Builtin in
theorem len_fn {Q : Value → Shared → Prop} (X : K.In s.heap) (I : PySem.W.InstAt s.heap x ox C od) (hs : PySem.W.findIn K (.ref C) "__len__" = some (some (.ref f))) (hf : PySem.W.isFn K (.ref f) = true)
    (hcall : wpAny (model prog w) A.in1 (call (.ref f) [.ref x]) (fun r s' => ∃ n u, r = .int n u ∧ 0 ≤ n ∧ n < 2 ^ 63 ∧ Q (.int n s'.toks) { s' with toks := s'.toks + 1 }) E s) :
    wpAny (model prog w) A (call (.builtin "len") [.ref x]) Q E s := by
  refine PySem.Calls.call_function_entry kind_len plain_len entry_len (args_len1 _) ?_
  unfold Builtin.«len»
  refine wpAny_bind (m := oneArg "len" _) (wpAny_pure ?_)
  refine wpAny_bind (m := callSpecial? (.ref x) (Str.ofString "__len__")) (PySem.W.special_fn X I hs (beq_iff_eq.mp hf) (wpAny_mono hcall (fun r s' hr => ?_) fun _ _ y => y))
  obtain ⟨n, u, rfl, h0, h1, hq⟩ := hr
  refine wpAny_bind (wpAny_holding (wpAny_pure ?_))
  refine wpAny_bind (wpAny_letGo ?_)
  show wpAny _ _ (if n < 0 then _ else _) _ _ _
  rw [if_neg (by omega)]
  show wpAny _ _ (if n ≥ 2 ^ 63 then _ else _) _ _ _
  rw [if_neg (by omega)]
  exact wpAny_bind (wpAny_mkInt (wpAny_pure ⟨_, rfl, hq⟩))
end
def rLenO (C : Addr) (sp : Sp) (E : XK) : List V → Hp → VK → Prop := fun xs H Q => ∃ (a dx : Addr) (fs : List (Str × V)), xs = [.ref a] ∧ H a = some (.ins C dx fs) ∧ sp [.ref a] H (fun v H' => ∃ n : Nat, v = .int n ∧ n < 2 ^ 60 ∧ Q (.int n) H') E
theorem call_lenO {X : Cx} {CX : CXT} {k : Nat} {C f : Addr} {fd : FuncData} {ps : List Str} {sp : Sp} {E : XK} (F : FnOk X.prog X.w X.K X.mg X.base CX k f fd ps sp) (hs : PySem.W.findIn X.K (.ref C) "__len__" = some (some (.ref f))) (hf : PySem.W.isFn X.K (.ref f) = true) (hb : Binds X.K fd ps []) (hx : Passes CX X E) (hr : Room (k + 1) X.A) : CallR X (.builtin "len") (rLenO C sp E) := by
  intro pins s σ H xs us Q I r h
  obtain ⟨a, dx, fs, rfl, ha, hq⟩ := h
  obtain ⟨u, rfl, r1⟩ := vals1 r
  cases (show u = Value.ref a from r1)
  obtain ⟨mA, J, _⟩ := ins_get I.hok ha
  obtain ⟨od, J, _⟩ := J.look
  have hr1 : Room k X.A.in1 := hr.in1
  have hl : ([Value.ref a] ++ []).length = ps.length := (show ([V.ref a] : List V).length = _ from F.len _ _ _ _ hq)
  refine len_fn I.kIn J hs hf (wpAny_call (codeAny_mono (F.run X.A.in1 X.stack s H ⟨[.ref a], []⟩ [.ref a] [.ref a] _ E hr1 I.env0.in1 (hb s [.ref a] I.kIn hl) (.cons rfl .nil) hq) fun res s' hres => ?_))
  match res, hres with
  | .error er, hres => exact hx pins σ H s er s' I hres
  | .ok .next, hres => exact hres.elim
  | .ok .brk, hres => exact hres.elim
  | .ok .cont, hres => exact hres.elim
  | .ok (.ret u), hres =>
    obtain ⟨z, H', I', rz, n, rfl, hn, q⟩ := I.after hres
    obtain ⟨t, rfl⟩ := rz
    refine ⟨(n : Int), t, rfl, by omega, by omega, .int n, H', I'.tok _, ⟨_, rfl⟩, q⟩
theorem call_lenC {X : Cx} {CX : CXT} {k : Nat} {C : Addr} {qual : Str} {st : Stmt} {ps : List Str} {sp : Sp} {E : XK} (c : Cm X.prog X.w X.K X.mg X.base CX k C "__len__" qual st ps sp) (b : Bd "__len__" qual st ps) (hr : Room (k + 1) X.A) (hx : Passes CX X E) :
    CallR X (.builtin "len") (rLenO C sp E) := by
  obtain ⟨f, fd, F, M, hc, G⟩ := c.ex
  exact call_lenO G M.1 M.2 (F.bindsN b) hx hr
/-! ### classes whose __init__ has no defaults -/
theorem di_mk0 {K : PySem.W.Frag} {mg : Str → Option Value} {x qual : Str} {st : Stmt} {f C : Addr} {oc kV doc pm cdv ct : Value} {od an : Option Addr} {osl : Array (Option Value)} (hC : mg x = some (.ref C)) (a : PySem.W.findIn K (.ref C) "__init__" = some (some (.ref f))) (i : PySem.W.isFn K (.ref f) = true)
    (l : K.lookup f = some ⟨oc, od, .func (PySem.W.fnOf "__init__" qual (defArgs st) (defBody st) (defScope st) .none kV doc pm an cdv ct), osl⟩) (c : PySem.W.codeIn K cdv qual = true) (k : PySem.W.keepIn K (.ref f) = true)
    (mk : PySem.W.makesIn K C = true) (kc : PySem.W.keepIn K (.ref C) = true) : Di K mg x C qual st [] :=
  ⟨f, _, ⟨⟨oc, od, .none, kV, doc, pm, an, cdv, ct, osl, rfl, l, c, .inl ⟨rfl, rfl⟩, .inl rfl⟩, k⟩, ⟨mk, a, i, kc⟩, hC⟩
section
variable {X : Cx} {CX : CXT} {k j n d : Nat} {C : Addr} {x m qual : Str} {st : Stmt} {sp : Sp} {ps ks : List Str} {E : XK} {p pos apos : Pos} {e o : Expr} {es : List Expr} {kws : List Keyword} {ta : TE} {t tk : TA}
/-- C(e, ..), all by place -/
theorem pe_ciN (c : Ci X.prog X.w X.K X.mg X.base CX k x C qual st [] ps sp) (b : Bd "__init__" qual st ps) (hr : Room j X.A) (hk : k + 1 ≤ j) (hx : Passes CX X E) (hg : Gl X x) (ha : PA X (e :: es) t)
    (hdb : (x == ("__debug__" : Str)) = false := by decide) (he : starEach (e :: es) X.env = (false, eval e X.env) :: starEach es X.env := by rfl) (hpl : (backTo pos (starEach es X.env)).any (·.1) = false := by rfl) :
    PE X (.Call (.Name x p) (e :: es) [] pos) (tMake C sp [] E t) := by
  obtain ⟨f, fd, F, M, hm, G⟩ := c.ex
  exact pe_make M G (hr.mono hk) hg hm (F.bindsN b) .nil hx ha hdb he hpl
/-- o.m() -/
theorem pe_cm0 {pl : Sem Bool} (c : Cm X.prog X.w X.K X.mg X.base CX k C m qual st ps sp) (b : Bd m qual st ps) (hr : Room j X.A) (hk : k ≤ j) (hx : Passes CX X E) (he : PE X o ta)
    (ht : eval (.Call (.Attribute o m apos) [] [] pos) X.env = (do
      let ov ← eval o X.env
      standAt apos.atName
      let (f, first) ← holding [ov] (getMethod ov m pl)
      callWith pos f first (backTo pos (starEach [] X.env)) (backToKw pos (keywordEach [] X.env))) := by rfl) :
    PE X (.Call (.Attribute o m apos) [] [] pos) (tMeth C m sp [] E ta tNil) := by
  obtain ⟨f, fd, F, M, hc, G⟩ := c.ex
  exact pe_meth0 (pl := pl) he hc M G (hr.mono hk) (F.bindsN b) .nil hx ht
/-- C(k = v, ..), all by keywords -/
theorem pe_ciNK {g : {α : Type} → List α → List α → List α} (c : Ci X.prog X.w X.K X.mg X.base CX k x C qual st [] ps sp) (b : Kbm "__init__" qual st 1 ks ps g) (hrel : ∀ {vs : List V} {us : List Value} {zs : List V} {ws : List Value}, Vals vs us → Vals zs ws → Vals (g vs zs) (g us ws)) (hr : Room j X.A) (hk : k + 1 ≤ j) (hx : Passes CX X E) (hg : Gl X x) (hkw : PK X kws tk)
    (hall : (backToKw pos (keywordEach kws X.env)).all (·.1.isSome) = true := by rfl) (hks : (backToKw pos (keywordEach kws X.env)).filterMap (·.1) = ks := by rfl) (hdb : (x == ("__debug__" : Str)) = false := by decide)
    (hpl : ((backTo pos (starEach [] X.env)).any (·.1) || (backToKw pos (keywordEach kws X.env)).any (·.1.isNone)) = false := by rfl) :
    PE X (.Call (.Name x p) [] kws pos) (tMakeK C 0 ks.length sp g E tNil tk) := by
  obtain ⟨f, fd, F, M, hm, G⟩ := c.ex
  obtain ⟨kV, doc, pm, an, cdv, ct, rfl⟩ := FunD.none F
  exact pe_makeK0 (g := g) (gV := g) M G (hr.mono hk) hg hm ⟨fun s us ws _ l1 l2 => .of_eq (b.bind kV doc pm an cdv ct us ws l1 l2), hrel⟩ hx hkw hall hks hdb hpl
end
end MM
/-! len(set(xs)) of a list of any texts: how many unlike ones there are -/
namespace MM
open PySem PySem.Spec PyProof.Rows L2
/-- the unlike texts among the first i -/
def nun (xs : List Str) : Nat → Nat
  | 0 => 0
  | i + 1 => if (xs.take i).any (· == xs.getD i Str.empty) then nun xs i else nun xs i + 1
theorem nun_le (xs : List Str) : ∀ i, nun xs i ≤ i
  | 0 => Nat.le_refl 0
  | i + 1 => by
    have := nun_le xs i
    unfold nun
    split <;> omega
theorem take_one {xs : List Str} {i : Nat} (h : i < xs.length) : xs.take (i + 1) = xs.take i ++ [xs.getD i Str.empty] := by
  rw [List.take_succ, List.getD_eq_getElem?_getD, List.getElem?_eq_getElem h] <;> rfl
section
variable {prog : Program} {w : World} {A : Around} {R : Result → Shared → Prop} {I S : Addr} {fp wr : List Addr} {G : Array GenState → Array GenState → Prop} {n : Nat} {P : Nat → Value → Prop} {St : Nat → Shared → Prop}
theorem set_keep {h h' : Heap} {T : Str → Bool} {m : Nat} (q : h.SetOf (PySem.strKind prog w) S T m) (k : ∀ o, h.get? S = some o → h'.get? S = some o) : h'.SetOf (PySem.strKind prog w) S T m :=
  let ⟨o, es, ep, t, ho, z⟩ := q
  ⟨o, es, ep, t, k o ho, z⟩
theorem set_texts (W : WalksS prog w A.in1 I fp wr G n P St) (hS : S ∉ fp) (xs : List Str) (hl : xs.length = n) (hb : n < scanBound)
    (hv : ∀ i v, P i v → ∃ t, v = .str (xs.getD i Str.empty) t) (d : Nat) : ∀ (i : Nat) (s : Shared), n - i = d → i ≤ n → St i s →
      s.heap.SetOf (PySem.strKind prog w) S (fun k => (xs.take i).any (· == k)) (nun xs i) →
      (∀ s', Moved (S :: wr) G s s' → s'.heap.SetOf (PySem.strKind prog w) S (fun k => (xs.take n).any (· == k)) (nun xs n) → R (.ok (.ret .none)) s') →
      codeAny (model prog w) A (.builtin "set.update.loop" ⟨[.ref S, .ref I], []⟩) R s := by
  have hw : S ∉ wr := fun h => hS (W.sub _ h)
  have up : ∀ b ∈ wr, b ∈ S :: wr := fun b hb => List.mem_cons_of_mem _ hb
  induction d with
  | zero =>
    intro i s hd hi hst hs hR
    obtain rfl : i = n := by omega
    refine codeAny_builtin PyProof.Rows.F.entry_set_update_loop ?_
    rw [Around.under_plainId PyProof.Rows.F.plain_set_update_loop _]
    show wpAny _ A.in1 (pyNext (.ref I) >>= _) _ _ s
    refine wpAny_bind (W.done s _ _ hst fun s' hm => ?_)
    show wpAny _ A.in1 (ret Value.none) _ _ s'
    exact wpAny_pure (hR s' (hm.mono up) (set_keep hs fun o ho => hm.heap S o hw ho))
  | succ d ih =>
    intro i s hd hi hst hs hR
    have lt : i < n := by omega
    refine codeAny_builtin PyProof.Rows.F.entry_set_update_loop ?_
    rw [Around.under_plainId PyProof.Rows.F.plain_set_update_loop _]
    show wpAny _ A.in1 (pyNext (.ref I) >>= _) _ _ s
    refine wpAny_bind (W.item i s _ _ lt hst fun v s' hP hst' hm => ?_)
    obtain ⟨t, rfl⟩ := hv i v hP
    have hs' := set_keep (h' := s'.heap) hs fun o ho => hm.heap S o hw ho
    show wpAny _ A.in1 (holding [Value.str (xs.getD i Str.empty) t] (setAdd S (.str (xs.getD i Str.empty) t)) >>= _) _ _ s'
    refine wpAny_bind (wpAny_holding ?_)
    unfold setAdd
    refine wpAny_holding (wpAny_bind ((PySem.strKind prog w).pyHash (k := xs.getD i Str.empty) (strKind_is _ _ _ _) ?_))
    have nl := nun_le xs i
    refine wpAny_setAddHashed_of (knd := PySem.strKind prog w) (s := { s' with toks := s'.toks + 1 }) (strKind_is _ _ _ _) rfl hs' (by omega) fun h' sb new => ?_
    have new' : h'.SetOf (PySem.strKind prog w) S (fun k => (xs.take (i + 1)).any (· == k)) (nun xs (i + 1)) :=
      SetOf_congr new (fun k => by
        rw [take_one (by omega), List.any_append]
        simp only [List.any_cons, List.any_nil, Bool.or_false]
        congr 1
        by_cases e : k = xs.getD i Str.empty
        · subst e; simp
        · rw [decide_eq_false e]
          exact (beq_eq_false_iff_ne.mpr fun h => e h.symm).symm) rfl
    refine wpAny_pure ⟨plainId_quiet PyProof.Rows.F.plain_set_update_loop _, ih (i + 1) _ (by omega) lt (W.frame _ s' _ _ hst' (Nat.le_succ _) fun b hb o e => ?_) new' fun s'' hm' hs'' => ?_⟩
    · rw [sb.2 b (fun h : b = S => hS (by rw [← h]; exact hb))]
      exact e
    · refine hR s'' (Moved.trans W.gtrans ((hm.mono up).then_heap (Nat.le_succ _) fun b o hb e => ?_) hm') hs''
      rw [sb.2 b (fun h : b = S => hb (by rw [h]; exact List.mem_cons_self))]
      exact e
end
end MM
namespace MM
open PySem PySem.Spec PyProof.Rows L2
section
variable {prog : Program} {w : World} {A : Around} {E : Value → Shared → Prop} {s : Shared}
/-- the new set that set(xs) lays -/
def bareSet (led : Bool) : Obj := { cls := .type "set", dict := none, data := .set #[] 0 (.fresh 0 0 led) }
/-- what set.__init__ leaves -/
def Filled (prog : Program) (w : World) (s s2 : Shared) (xs : List Str) : Prop := ∃ h' tk, s2 = { s with heap := h', toks := tk } ∧
  h'.SetOf (PySem.strKind prog w) s.heap.objs.size (fun k => xs.any (· == k)) (nun xs xs.length) ∧ ∀ b o, b < s.heap.objs.size → s.heap.get? b = some o → h'.get? b = some o
theorem init_texts {l : Addr} {items : Array Value} {xs : List Str} (led : Bool) (hh : A.handled = none) (hl : s.heap.IsList l items) (hi : StrsAre items.toList xs) (hb : xs.length < scanBound) {Q : Fin → Shared → Prop} (h : ∀ s2, Filled prog w s s2 xs → Q (.done (.ret .none)) s2) :
    wpAny (model prog w) A (Builtin.«set.__init__» ⟨[.ref s.heap.objs.size, .ref l], []⟩) Q E { s with heap := s.heap.push (bareSet led) } := by
  obtain ⟨⟨cls, od, dt, sl⟩, ho, hc, nl, hd⟩ := hl
  simp only at hc hd
  subst hc
  subst hd
  have lS : l < s.heap.objs.size := Heap.lt_size ho
  have hS : (s.heap.push (bareSet led)).get? s.heap.objs.size = some (bareSet led) := Heap.get?_push_size _ rfl
  have ho' : (s.heap.push (bareSet led)).get? l = some { cls := .type "list", dict := od, data := .seq items nl, slots := sl } := Heap.get?_push_of_some _ ho
  have il : (s.heap.push (bareSet led)).IsList l items := ⟨_, ho', rfl, nl, rfl⟩
  have h1 := PySem.F.sub_list_set
  have h2 := PySem.F.sub_list_frozenset
  have h3 : (Value.type "list" == Value.type "dict") = false := by decide
  unfold Builtin.«set.__init__» noKeywords Builtin.Frozenset.updateFrom
  generalize hPI : pyIter = PI
  wp_walk
  subst hPI
  refine wpAny_pyIter_list il ?_
  refine wpAny_bind (wpAny_runValue ?_)
  have sz : xs.length = items.size := by rw [← StrsAre.len_eq hi, Array.length_toList]
  have ne : l ≠ (s.heap.push (bareSet led)).objs.size := by
    rw [Heap.size_push]
    exact Nat.ne_of_lt (Nat.lt_succ_of_lt lS)
  have out : s.heap.objs.size ∉ [(s.heap.push (bareSet led)).objs.size, l] := by
    rw [Heap.size_push]
    simp only [List.mem_cons, List.not_mem_nil, or_false, not_or]
    exact ⟨Nat.ne_of_lt (Nat.lt_succ_self _), Nat.ne_of_gt lS⟩
  have hh3 : A.in1.handled = none := by simp [hh]
  refine set_texts ((Walks.list hh3 _ l ne items).toS) out xs sz (by omega) (fun i v hv => SS.strs_at hi i v (by rw [Array.getElem?_toList]; exact hv)) (items.size - 0) 0 _ (by omega) (Nat.zero_le _)
    (by exact ⟨⟨_, Heap.get?_push_size _ rfl, rfl, rfl⟩, il.push _⟩) ?_ ?_
  · exact SetOf_congr ((setObjOf_fresh (knd := PySem.strKind prog w) led).setOf (Heap.get?_push_of_some _ hS) (by unfold scanBound; omega)) (fun _ => rfl) rfl
  · intro s' hm hs'
    obtain ⟨h', g', d', tk', os'⟩ := s'
    have e1 : g' = s.gens := hm.gens
    have e2 : d' = s.drawn := hm.drawn
    have e3 : os' = s.os := hm.os
    subst e1; subst e2; subst e3
    show wpAny _ _ _ _ _ _
    refine wpAny_pure ?_
    show wpAny _ _ (ret Value.none) _ _ _
    rw [← sz] at hs'
    refine wpAny_pure (h _ ⟨h', tk', rfl, by simpa using hs', fun b o hb e => ?_⟩)
    refine hm.heap b o ?_ (Heap.get?_push_of_some _ (Heap.get?_push_of_some _ e))
    rw [Heap.size_push]
    simp only [List.mem_cons, List.not_mem_nil, or_false, not_or]
    exact ⟨Nat.ne_of_lt hb, Nat.ne_of_lt (Nat.lt_succ_of_lt hb)⟩
theorem set_of_texts {l : Addr} {items : Array Value} {xs : List Str} {Q : Value → Shared → Prop}
    (hh : A.handled = none) (hl : s.heap.IsList l items) (hi : StrsAre items.toList xs) (hb : xs.length < scanBound)
    (h : ∀ s2, Filled prog w s s2 xs → Q (.ref s.heap.objs.size) s2) : wpAny (model prog w) A (call (.type "set") [.ref l]) Q E s := by
  obtain ⟨c, tl, hmro⟩ := PySem.F.called_set.mro
  have hmade := PySem.F.called_set.made
  have hsub := PySem.F.called_set.sub
  refine wpAny_call (codeAny_of_tree ?_)
  show wpAny _ _ (callAny (.type "set") _) _ _ _
  refine wpAny_pure ⟨Code.quiet_builtin _ (by decide +kernel), codeAny_builtin PySem.F.entry_type_call ?_⟩
  rw [Around.under_plain (weight_type_call_type "set" [.ref l] []) rfl]
  have h1 := PySem.F.called_set.notType
  have h2 := PySem.F.called_set.canCreate
  have h3 := PySem.F.typeCall_set_1 (.ref l)
  repeat (any_goals (first | assumption | wp_step))
  refine codeAny_mono (code_set_new_1 (.ref l) (E := E) (Q₁ := fun obj s₁ => ∃ led : Bool, obj = .ref s.heap.objs.size ∧ s₁ = { s with heap := s.heap.push (bareSet led) }) fun led => ⟨led, rfl, rfl⟩) fun r s₁ hr => ?_
  rcases r with e | (obj | _ | _ | _) <;> first | exact hr | exact hr.elim | skip
  obtain ⟨led, rfl, rfl⟩ := hr
  have hT : Shared.TypeIs { s with heap := s.heap.push (bareSet led) } (.ref s.heap.objs.size) "set" := ⟨_, Heap.get?_push_size _ rfl, rfl⟩
  have h4 := PySem.F.called_set.init.lookup
  have h5 := PySem.F.called_set.init.bind (.ref s.heap.objs.size)
  repeat (any_goals (first | assumption | wp_step))
  refine codeAny_mono (codeAny_call_builtin (R := wants (fun r s2 => r = .none ∧ Filled prog w s s2 xs) E) PySem.F.called_set.init.plain PySem.F.entry_set_init (check_set_init_1 hT (init_texts led ?_ hl hi hb fun s2 q => ⟨rfl, q⟩))) fun r s2 z => ?_
  · simp [hh]
  · rcases r with e | (v | _ | _ | _) <;> first | exact z | exact z.elim | skip
    obtain ⟨rfl, z⟩ := z
    repeat (any_goals (first | assumption | wp_step))
    exact h _ z
end
end MM
namespace L2
open PySem PySem.Spec PyProof.Rows MM
/-- len(set(xs)), xs a list of texts -/
def tLenSetL (K : PySem.W.Frag) (ta : TE) : TE := fun σ H Q => ta σ H fun x H1 => ∃ l, ∃ xs : List Str, x = .ref l ∧ SqL K H1 l (xs.map V.str) ∧ xs.length < scanBound ∧ Q (.int (nun xs xs.length : Nat)) H1
section
variable {X : Cx}
theorem pe_lenSetL {a : Expr} {ta : TE} {p p2 q pos : Pos} (hc : X.calm = true) (hg : Gl X "len") (hm : X.mg "len" = none) (hg2 : Gl X "set") (hm2 : X.mg "set" = none) (ha : PE X a ta)
    (na : starEach [a] X.env = (false, eval a X.env) :: starEach [] X.env := by rfl) : PE X (.Call (.Name "len" p) [.Call (.Name "set" p2) [a] [] q] [] pos) (tLenSetL X.K ta) := by
  refine ⟨fun pins s σ H Q I h => ?_⟩
  refine Call_ (ld_blt I hg hm boot_len ?_)
  refine PyProof.Rows.callWith_builtin1 (PyProof.Rows.args_cons ?_ rfl) rfl rfl
  refine Call_ (ld_blt I hg2 hm2 boot_set ?_)
  refine PyProof.Rows.callWith_type1 (PyProof.Rows.args_cons (thn (ha.run pins s σ H _ I h) fun v s1 ⟨x, H1, I1, r1, q1⟩ => PyProof.Rows.args_nil ?_) na) na rfl
  obtain ⟨l, xs, rfl, hq, hb, q1⟩ := q1
  cases r1
  obtain ⟨its, r, pl, hz⟩ := I1.list hq
  refine set_of_texts (I1.ok.hd hc) pl.isList (by simpa using strsAre_of r) hb fun s2 ⟨h', tk, e2, hS, hk⟩ => PyProof.Rows.args_nil ?_
  subst e2
  obtain ⟨o, es, ep, t, ho, hex, hd, _, _, hs, hf, hn⟩ := hS
  have I2 : Inv X pins σ H1 { s1 with heap := h', toks := tk } := I1.kept fun b o e => hk b o (Heap.lt_size e) e
  have lt := nun_le xs xs.length
  refine call_len_set ho hex hd hf (by unfold scanBound at hb; omega) ⟨.int (nun xs xs.length : Nat), H1, I2.tok _, ⟨_, by rw [hn]⟩, q1⟩
end
end L2
/-! ### how many are unlike -/
namespace MM
open PySem
theorem nun_all {xs : List Str} (h : xs.Nodup) : ∀ i, i ≤ xs.length → nun xs i = i
  | 0, _ => rfl
  | i + 1, hi => by
    have e := nun_all h i (by omega)
    have lt : i < xs.length := by omega
    have no : (xs.take i).any (· == xs.getD i Str.empty) = false := by
      rw [List.any_eq_false]
      intro y hy
      rw [List.getD_eq_getElem?_getD, List.getElem?_eq_getElem lt]
      simp only [Option.getD_some, beq_iff_eq]
      intro e
      obtain ⟨j, hj, rfl⟩ := List.mem_iff_getElem.mp hy
      rw [List.getElem_take] at e
      rw [List.length_take] at hj
      have := (List.getElem_inj h).mp e
      omega
    unfold nun
    rw [no, e]
    simp
theorem nun_less {xs : List Str} (h : ¬ xs.Nodup) : nun xs xs.length < xs.length := by
  have key : ∀ i, i ≤ xs.length → nun xs i = i → (xs.take i).Nodup := by
    intro i
    induction i with
    | zero => intro _ _; simp
    | succ i ih =>
      intro hi e
      have l := nun_le xs i
      have lt : i < xs.length := by omega
      unfold nun at e
      split at e
      · omega
      · rename_i c
        rw [take_one lt, List.nodup_append]
        refine ⟨ih (by omega) (by omega), by simp, ?_⟩
        intro a ha b hb e
        rw [List.mem_singleton] at hb
        refine c (List.any_eq_true.mpr ⟨a, ha, ?_⟩)
        rw [e, hb]
        exact beq_self_eq_true _
  have l := nun_le xs xs.length
  by_cases e : nun xs xs.length = xs.length
  · have := key _ (Nat.le_refl _) e
    rw [List.take_length] at this
    exact absurd this h
  · omega
end MM
/-! own classes of errors over KeyError: it is made by LookupError's own maker -/
namespace MM
open PySem PySem.Spec PySem.Calls
open PyProof.Rows (ExcClass)
section
variable {M : Model} {prog : Program} {w : World} {A : Around} {E : Value → Shared → Prop} {R : Result → Shared → Prop} {h : Heap} {g : Array GenState} {d : Drawn} {t : Nat} {os : OsState}
variable {nm q : Str} {C N : Addr} {bs bm bN : List Value} {hdct : Bool} {sn : List Str} {sub : List Value} {ab : Bool} {col : Option Bool} {dd : Option Addr} {k0 k1 k2 k3 k5 : Option Value} {B Bn newId iN initId : String}
theorem over_own (C : Addr) {X : String} {b : Bool} (h : bm.contains (.type X) = b) : (Value.ref C :: bm).contains (.type X) = b := by
  rw [List.contains_cons, h]
  cases b <;> rfl
theorem check_new_y (F : ExcBaseFacts Bn newId iN bN) (hB : bm.contains (.type Bn) = true) {rest : List Value} {Q : Unit → Shared → Prop}
    (hC : h.get? C = some (excClassObj nm q C N bs bm hdct sn sub ab col dd k0 k1 k2 k3 k5 newId)) (hq : Q () ⟨h, g, d, t, os⟩) : wpAny M A (checkBuiltinCall newId ⟨.ref C :: rest, []⟩) Q E ⟨h, g, d, t, os⟩ := by
  have c1 := over_own C hB
  have c2 := F.noStar
  simp only [checkBuiltinCall, F.newKind, F.newSplit, F.newRow]
  repeat (first | refine wpAny_loadPart_at hC ?_ | (refine wpAny_isSubtype_exc hC ?_; rw [c1]) | refine wpAny_staticBase_exc hC ?_ | refine wpAny_madeBy_exc hC ?_ | simp only [bne_self_eq_false, Bool.false_eq_true, if_false] | wp_step)
  exact hq
theorem check_init_y (F : ExcClass B newId initId) (hB : bm.contains (.type B) = true) {e : Addr} {oe : Obj} {rest : List Value} {Q : Unit → Shared → Prop}
    (hC : h.get? C = some (excClassObj nm q C N bs bm hdct sn sub ab col dd k0 k1 k2 k3 k5 newId)) (he : h.get? e = some oe) (hcls : oe.cls = .ref C) (hq : Q () ⟨h, g, d, t, os⟩) :
    wpAny M A (checkBuiltinCall initId ⟨.ref e :: rest, []⟩) Q E ⟨h, g, d, t, os⟩ := by
  have c1 := over_own C hB
  have c2 := F.notStar
  simp only [checkBuiltinCall, F.initKind, F.initSplit, F.initSig]
  repeat (first | (with_reducible refine wpAny_loadPart_at he ?_; rw [hcls]) | with_reducible refine wpAny_loadPart_at hC ?_ | (with_reducible refine wpAny_isSubtype_exc hC ?_; rw [c1]) | wp_step)
  refine wpAny_onRaise ?_
  rw [show ∀ (a b : String) (n : Nat), Bind.check ⟨.positional, "*", B, .self, [⟨"args", .varPos, false⟩]⟩ a b n (List.map (fun x => x.fst) ({ pos := Value.ref e :: rest } : Args).kw) = pure () from fun a b n => check_star_args _ _ _ _ _ _]
  exact wpAny_pure hq
theorem new_y (F : ExcBaseFacts Bn newId iN bN) (hB : bm.contains (.type Bn) = true) (hA : bm.contains (.type "AttributeError") = false) (hN : bm.contains (.type "NameError") = false) {rest : List Value}
    (hC : h.get? C = some (excClassObj nm q C N bs bm hdct sn sub ab col dd k0 k1 k2 k3 k5 newId))
    (hq : R (.ok (.ret (.ref (h.objs.size + 1)))) ⟨(h.push (PySem.W.kdv_tup rest)).push (PySem.HandSPX.excO C h.objs.size), g, d, t, os⟩) (hl : rest.length ≤ sizeLine) :
    codeAny (model prog w) A (.builtin newId ⟨.ref C :: rest, []⟩) R ⟨h, g, d, t, os⟩ := by
  have c0 := F.ends
  have c1 := over_own C hB
  have c2 := over_own C hA
  have c3 := over_own C hN
  refine codeAny_builtinAt F.entry ?_
  unfold Builtin.«BaseException.__new__»
  refine wpAt_bind ?_
  show wpAt _ _ _ (stack >>= _) _ _ _
  refine wpAt_bind (wpAt_stack fun p below => wpAt_of_wpAny ?_)
  wp_walk
  refine wpAt_of_wpAny ?_
  rw [F.owner]
  repeat (first | with_reducible refine wpAny_madeHere_exc F.canon hC ?_ | with_reducible refine wpAny_loadPart_at hC ?_ | (with_reducible refine wpAny_isSubtype_exc hC ?_; first | rw [c1] | rw [c2] | rw [c3]) | wp_step)
  show R _ _
  rw [Heap.size_push]
  exact hq
theorem type_call_y (F : ExcBaseFacts Bn newId iN bN) (hA : bm.contains (.type "AttributeError") = false) (hN : bm.contains (.type "NameError") = false) (hB : bm.contains (.type Bn) = true) {rest : List Value} {fI : Addr} {Q : Fin → Shared → Prop}
    (hC : h.get? C = some (excClassObj nm q C N bs bm hdct sn sub ab col dd k0 k1 k2 k3 k5 newId))
    (hi : PySem.W.Looks (model prog w) h (typeLookup (.ref C) "__init__") (some (.ref fI))) (hb : ∀ self, PySem.W.Looks (model prog w) h (bindSpecial (.ref fI) self) (.ref fI, [self])) (hl : rest.length ≤ sizeLine)
    (hq : codeAny (model prog w) A (.call (.ref fI) ⟨.ref (h.objs.size + 1) :: rest, []⟩)
      (fun r s' => match r with | .ok (.ret v) => v = .none ∧ Q (.done (.ret (.ref (h.objs.size + 1)))) s' | .ok _ => False | .error e => E e s')
      ⟨(h.push (PySem.W.kdv_tup rest)).push (PySem.HandSPX.excO C h.objs.size), g, d, t, os⟩) :
    wpAny (model prog w) A (Builtin.«type.__call__» ⟨.ref C :: rest, []⟩) Q E ⟨h, g, d, t, os⟩ := by
  repeat (first | with_reducible refine wpAny_loadPart_at hC ?_ | with_reducible refine wpAny_madeBy_exc hC ?_ | wp_step)
  refine codeAny_call_builtin_code (Code.quiet_builtin _ F.quiet) (check_new_y F hB hC ?_)
  refine new_y F hB hA hN hC ?_ hl
  show wpAny _ _ _ _ _ _
  have k : ∀ b o, h.get? b = some o → ((h.push (PySem.W.kdv_tup rest)).push (PySem.HandSPX.excO C h.objs.size)).get? b = some o := fun b o e => Heap.get?_push_of_some _ (Heap.get?_push_of_some _ e)
  have hC1 := k _ _ hC
  have he : ((h.push (PySem.W.kdv_tup rest)).push (PySem.HandSPX.excO C h.objs.size)).get? (h.objs.size + 1) = some (PySem.HandSPX.excO C h.objs.size) := by heap_get
  have cC : (Value.ref C :: bm).contains (.ref C) = true := by simp
  have i1 := hi.keeps k
  have b1 := (hb (.ref (h.objs.size + 1))).keeps k
  unfold isInstance
  repeat (first | with_reducible refine wpAny_loadPart_at he ?_ | (with_reducible refine wpAny_isSubtype_exc hC1 ?_; rw [cC]) | wp_step)
  show wpAny _ _ (typeLookup (.ref C) _) _ _ _
  refine i1.at (wpAny_holding (wpAny_bind (b1.at ?_)))
  refine wpAny_bind (wpAny_call (codeAny_mono hq fun r s' z => ?_))
  rcases r with e | (v | _ | _ | _) <;> first | exact z | exact z.elim | skip
  obtain ⟨rfl, z⟩ := z
  first
    | exact wpAny_pure (wpAny_pure z)
    | (wp_walk; exact z)
theorem call_y (F : ExcBaseFacts Bn newId iN bN) (hA : bm.contains (.type "AttributeError") = false) (hN : bm.contains (.type "NameError") = false) (hB : bm.contains (.type Bn) = true) {rest : List Value} {fI : Addr}
    (hC : h.get? C = some (excClassObj nm q C N bs bm hdct sn sub ab col dd k0 k1 k2 k3 k5 newId))
    (hi : PySem.W.Looks (model prog w) h (typeLookup (.ref C) "__init__") (some (.ref fI))) (hb : ∀ self, PySem.W.Looks (model prog w) h (bindSpecial (.ref fI) self) (.ref fI, [self])) (hl : rest.length ≤ sizeLine)
    (hq : codeAny (model prog w) (A.under (.builtin "type.__call__" ⟨.ref C :: rest, []⟩)) (.call (.ref fI) ⟨.ref (h.objs.size + 1) :: rest, []⟩) (PySem.W.InitBack (h.objs.size + 1) R)
      ⟨(h.push (PySem.W.kdv_tup rest)).push (PySem.HandSPX.excO C h.objs.size), g, d, t, os⟩) :
    codeAny (model prog w) A (.call (.ref C) ⟨rest, []⟩) R ⟨h, g, d, t, os⟩ := by
  have f1 := tc_lookup
  have f2 := tc_bind (.ref C)
  have hTy : (⟨h, g, d, t, os⟩ : Shared).TypeIs (.ref C) "type" := ⟨_, hC, rfl⟩
  refine codeAny_of_tree ?_
  show wpAny _ _ (callAny (.ref C) _) _ _ _
  repeat (any_goals (first | assumption | with_reducible refine wpAny_loadPart_at hC ?_ | wp_step))
  refine ⟨rfl, ?_⟩
  refine codeAny_call_builtin_at (Code.quiet_builtin _ (by decide +kernel)) PySem.entry_typeCall (wpAny_check_type_call_sub hC (type_call_y F hA hN hB hC hi hb hl (codeAny_mono hq fun r s' z => ?_)))
  rcases r with e | (v | _ | _ | _) <;> exact z
theorem init_y (F : ExcClass B newId initId) (hB : bm.contains (.type B) = true) {e t0 : Addr} {rest : List Value}
    (hC : h.get? C = some (excClassObj nm q C N bs bm hdct sn sub ab col dd k0 k1 k2 k3 k5 newId)) (he : h.get? e = some (PySem.HandSPX.excO C t0)) (hl : rest.length ≤ sizeLine)
    (hq : ∀ h' t1, (∀ b o, b ≠ e → h.get? b = some o → h'.get? b = some o) → h'.get? e = some (PySem.HandSPX.excO C t1) → R (.ok (.ret .none)) ⟨h', g, d, t, os⟩) :
    codeAny (model prog w) A (.call (.builtin initId) ⟨.ref e :: rest, []⟩) R ⟨h, g, d, t, os⟩ := by
  refine codeAny_call_builtin F.init.plain F.initEntry (check_init_y F hB hC he rfl ?_)
  wp_walk
  refine hq _ h.objs.size (fun b o hb ho => ?_) ?_
  · rw [Heap.get?_update_other _ _ (Ne.symm hb)]
    exact Heap.get?_push_of_some _ ho
  · rw [Heap.get?_update_self _ (Heap.get?_push_of_some _ he) rfl]
    rfl
end
end MM
namespace MM
open PySem PySem.Spec PySem.Calls PyProof.Rows L2
/-- what the written part says of the class at C, which stands right over the built-in B -/
structure OxY (K : PySem.W.Frag) (C : Addr) (B newId initId : String) (bm : List Value) : Prop where
  nf : ∃ Bn iN bN, ExcBaseFacts Bn newId iN bN ∧ bm.contains (.type Bn) = true
  nA : bm.contains (.type "AttributeError") = false
  nN : bm.contains (.type "NameError") = false
  cf : PyProof.Rows.ExcClass B newId initId
  cB : bm.contains (.type B) = true
  sf : StoreFacts B bm "object.__setattr__" "object"
  tl : PySem.W.excTail bm bm = true
  cls : ∃ nm q N bs sn sub ab col dd k0 k1 k2 k3 k5, K.lookup C = some (excClassObj nm q C N bs bm true sn sub ab col dd k0 k1 k2 k3 k5 newId)
  sa : PySem.W.findIn K (.ref C) "__setattr__" = some (some (.builtin "object.__setattr__"))
  exC : PySem.W.subIn K (.ref C) (.type "BaseException") = some true
  tyC : PySem.W.typeIn K (.ref C) = some (.type "type")
  kC : PySem.W.keepIn K (.ref C) = true
section
variable {K : PySem.W.Frag} {C : Addr} {B newId initId : String} {bm : List Value}
theorem OxY.dat (T : OxY K C B newId initId bm) : ∃ cd, PySem.W.clsIn K C = some cd ∧ cd.mro = .ref C :: bm ∧ cd.hasDict = true := by
  obtain ⟨nm, q, N, bs, sn, sub, ab, col, dd, k0, k1, k2, k3, k5, hC⟩ := T.cls
  exact ⟨_, (by unfold PySem.W.clsIn; rw [hC] <;> rfl), rfl, rfl⟩
theorem OxY.over (T : OxY K C B newId initId bm) : PySem.W.excOver K C bm = true := by
  obtain ⟨cd, hc, hm, _⟩ := T.dat
  unfold PySem.W.excOver
  rw [hc]
  show (match cd.mro with | .ref C' :: b => C' == C && PySem.W.excTail bm b | _ => false) = true
  rw [hm]
  show (C == C && PySem.W.excTail bm bm) = true
  rw [T.tl]
  simp
theorem OxY.taker (T : OxY K C B newId initId bm) {f : Str} (hno : PySem.W.findIn K (.ref C) f = some none) : PySem.W.takerIn K C f = some none := by
  unfold PySem.W.takerIn
  rw [hno]
  rfl
end
section
variable {X : Cx} {pins : List (Addr × Obj)} {σ : L2.St} {H : Hp} {s : Shared} {a C dx : Addr} {f : Str} {y : V} {u : Value} {fs : List (Str × V)} {Q : Unit → Shared → Prop} {E : Value → Shared → Prop} {A : Around} {B newId initId : String} {bm : List Value}
/-- the first field -/
theorem gy_new (T : OxY X.K C B newId initId bm) (I : Inv X pins σ H s) (e : H a = some (exo a C none)) (hno : PySem.W.findIn X.K (.ref C) f = some none) (ry : RelV y u)
    (h : ∀ dx s', H dx = none → dx ≠ a → Inv X pins σ (L2.upd (L2.upd H dx (exd dx [(f, y)])) a (exo a C (some dx))) s' → Q () s') : wpAny (model X.prog X.w) A (setAttr (.ref a) f u) Q E s := by
  obtain ⟨cd, hcd, hmr, hhd⟩ := T.dat
  obtain ⟨t1, ho⟩ := exo_at I.hok e
  obtain ⟨hp, g, dn, t, os⟩ := s
  have key : ∀ (h' : Heap) (tk' : Nat), (∀ b o, b ≠ a → hp.get? b = some o → h'.get? b = some o) → h'.get? a = some ({ cls := .ref C, dict := some hp.objs.size, data := .fields #[.ref t1, .none, .none, .none, .bool false, .none] } : Obj) →
      h'.Ns1 hp.objs.size (fun z => if z = f then some u else none) → Q () ⟨h', g, dn, tk', os⟩ := by
    intro h' tk' k hx hn
    have nlt : ∀ {b : Addr} {o : Obj}, hp.get? b = some o → b ≠ hp.objs.size := fun q => Nat.ne_of_lt (Heap.lt_size q)
    have hnd : H hp.objs.size = none := I.hok.fresh (Nat.le_refl _)
    have dne : hp.objs.size ≠ a := (nlt ho).symm
    have na : ∀ {b : Addr}, H b = none → b ≠ a := fun n z => by
      subst z
      cases e.symm.trans n
    refine h hp.objs.size _ hnd dne (I.un (t' := tk') ⟨fun b o q n _ _ => k b o (na n) q, fun b o q n _ _ => ⟨o.slots, k b o (na n) q⟩, fun b o q n _ => ?_, fun b o q _ => ?_, fun b xs q => ?_, fun b o v q => ?_, fun b ps q => ⟨#[], ?_⟩⟩ fun b o q => ?_)
    · rw [upd_ne (na n), upd_ne (nlt q)]
      exact n
    · by_cases hb : b = a
      · exact ⟨_, by rw [hb]; exact hx⟩
      · exact ⟨o, k b o hb q⟩
    · rw [upd_ne (at_ne e q exo_tup), upd_ne (ne_of_none q hnd)]
      exact q
    · rw [upd_ne (at_ne e q exo_frz), upd_ne (ne_of_none q hnd)]
      exact q
    · rw [upd_ne (at_ne e q exo_tbl), upd_ne (ne_of_none q hnd), q]
      simp
    · by_cases hb : b = a
      · subst hb
        cases upd_same.symm.trans q
        exact exo_ok hx
      rw [upd_ne hb] at q
      by_cases hd : b = hp.objs.size
      · subst hd
        cases upd_same.symm.trans q
        exact exd_ok hn (relO_put (fs := []) ry fun g => True.intro)
      rw [upd_ne hd] at q
      refine (I.hok b o q).stay (fun c v hc z => k c v ?_ z) (fun c hc => ?_) (fun c xs hc => ?_)
      · rcases hc with hc | hc
        · exact fun z => hb (hc ▸ z)
        · exact at_ne e hc exo_own
      · rw [upd_ne (at_ne e hc exo_own), upd_ne (ne_of_none hc hnd)]
        exact hc
      · rw [upd_ne (at_ne e hc exo_tup), upd_ne (ne_of_none hc hnd)]
        exact hc
  have J : PySem.W.InstAt hp a ({ cls := .ref C, dict := none, data := .fields #[.ref t1, .none, .none, .none, .bool false, .none] } : Obj) C none := ⟨ho, rfl, rfl, trivial⟩
  refine PySem.W.set_plain I.kIn J T.sa (PySem.W.osa_openX T.sf I.kIn J T.over (T.taker hno) fun b => ?_)
  have hs : a ≠ hp.objs.size := Nat.ne_of_lt (Heap.lt_size ho)
  refine wpAny_bind (wpAny_pure (wpAny_bind (PySem.W.instanceDict_exc (t := t1) (c2 := .none) ho (PySem.W.looks_clsIn I.kIn hcd) hhd ?_)))
  refine PySem.HandSPX.store_in_new ?_ fun h' tk' hn' hsb => ?_
  · exact ⟨_, #[], _, (Heap.get?_update_ne _ _ _ _ hs.symm).trans (Heap.get?_push_at rfl rfl), rfl, fun e he => absurd he (by simp), fun _ => rfl⟩
  · refine key h' _ (fun b o hb hq => ?_) ?_ hn'
    · exact (hsb.2 b (Nat.ne_of_lt (Heap.lt_size hq))).trans ((Heap.get?_update_ne _ _ _ _ hb).trans (Heap.get?_push_of_some _ hq))
    · exact (hsb.2 a hs).trans (Heap.get?_update_self _ (Heap.get?_push_of_some _ ho) rfl)
/-- a further field -/
theorem gy_old (T : OxY X.K C B newId initId bm) (I : Inv X pins σ H s) (e : H a = some (exo a C (some dx))) (ed : H dx = some (exd dx fs)) (hl : fs.length ≤ 900) (hno : PySem.W.findIn X.K (.ref C) f = some none) (ry : RelV y u)
    (h : ∀ s', Inv X pins σ (L2.upd H dx (exd dx ((f, y) :: fs))) s' → Q () s') : wpAny (model X.prog X.w) A (setAttr (.ref a) f u) Q E s := by
  obtain ⟨t1, ho⟩ := exo_at I.hok e
  obtain ⟨mA, hns, rel⟩ := exd_at I.hok ed
  obtain ⟨hp, g, dn, t, os⟩ := s
  obtain ⟨oD, _, _, hoD, _, _⟩ := hns.count (within_of rel)
  have J : PySem.W.InstAt hp a ({ cls := .ref C, dict := some dx, data := .fields #[.ref t1, .none, .none, .none, .bool false, .none] } : Obj) C (some oD) := ⟨ho, rfl, rfl, hoD⟩
  refine PySem.W.set_plain I.kIn J T.sa (PySem.W.osa_openX T.sf I.kIn J T.over (T.taker hno) fun b => ?_)
  refine wpAny_bind (wpAny_pure (wpAny_bind ?_))
  show wpAny _ _ (instanceDict a true) _ _ _
  unfold instanceDict
  refine wpAny_bind (wpAny_loadPart ho ?_)
  obtain ⟨cd, hcd, hmr, hhd⟩ := T.dat
  dsimp only
  refine wpAny_bind ((PySem.W.looks_clsIn I.kIn hcd).at ?_)
  rw [hhd]
  refine wpAny_pure ?_
  refine PySem.OEX.store_in_old hns (within_of rel) (by rw [List.length_map]; omega) fun h' tk' hn hsb => ?_
  have hd : ∃ o, h'.get? dx = some o := by
    obtain ⟨o, _, _, e', _⟩ := hn
    exact ⟨o, e'⟩
  exact h _ (I.write (t' := tk') (x := dx) (e := dx) (o := exd dx ((f, y) :: fs)) (by rw [ed]; exact True.intro) (.inl rfl) (fun b o hb q => (hsb.2 b hb).trans q) hd (exd_ok hn (relO_put ry rel)))
/-- B.__init__(self, ..) -/
theorem gy_init {us : List Value} {Q : Value → Shared → Prop} (T : OxY X.K C B newId initId bm) (I : Inv X pins σ H s) (e : H a = some (exo a C none)) (hl : us.length ≤ sizeLine) (h : ∀ s', Inv X pins σ H s' → Q .none s') : wpAny (model X.prog X.w) A (call (.builtin initId) (.ref a :: us)) Q E s := by
  obtain ⟨nm, q, N, bs, sn, sub, ab, col, dd, k0, k1, k2, k3, k5, hC⟩ := T.cls
  obtain ⟨t1, ho⟩ := exo_at I.hok e
  obtain ⟨hp, g, dn, t, os⟩ := s
  refine wpAny_call (init_y T.cf T.cB (I.kIn _ _ hC) ho hl fun h' t2 k hx => h _ ?_)
  have J := I.write (t' := t) (x := a) (e := a) (o := exo a C none) (by rw [e]; exact True.intro) (.inl rfl) k ⟨_, hx⟩ (exo_ok hx)
  rwa [show L2.upd H a (exo a C none) = H from funext fun b => by
    by_cases hb : b = a
    · rw [hb, upd_same, e]
    · rw [upd_ne hb]] at J
end
/-! ### the rules -/
/-- B.__init__(self, ..) -/
def tBy (K : PySem.W.Frag) (B newId initId : String) (bm : List Value) (ta : TA) : TE := fun σ H Q => ta σ H fun vs H1 => ∃ (a C : Addr) (ws : List V), vs = .ref a :: ws ∧ ws.length ≤ 1000 ∧ OxY K C B newId initId bm ∧ H1 a = some (exo a C none) ∧ Q .non H1
/-- self.f = e -/
def tGy (K : PySem.W.Frag) (B newId initId : String) (bm : List Value) (f : Str) (to te : TE) : TS := fun D σ H => te σ H fun y H1 => to σ H1 fun x H2 => ∃ a C : Addr, x = .ref a ∧ OxY K C B newId initId bm ∧ PySem.W.findIn K (.ref C) f = some none ∧
  ((H2 a = some (exo a C none) ∧ ∀ dx, H2 dx = none → dx ≠ a → D.nx σ (L2.upd (L2.upd H2 dx (exd dx [(f, y)])) a (exo a C (some dx)))) ∨
    ∃ (dx : Addr) (fs : List (Str × V)), H2 a = some (exo a C (some dx)) ∧ H2 dx = some (exd dx fs) ∧ fs.length ≤ 900 ∧ D.nx σ (L2.upd H2 dx (exd dx ((f, y) :: fs))))
section
variable {X : Cx} {o e : Expr} {es : List Expr} {to te : TE} {ta : TA} {f : Str} {p p' p1 p2 pos : Pos} {B newId initId : String} {bm : List Value} {bn : Str}
theorem pe_biny {pl : Sem Bool} (hg : Gl X bn) (hm : X.mg bn = none) (hbt : bootBuiltins bn = some (.type B)) (hty : typeOf (.type B) = pure (.type "type")) (vV : PySem.W.findCls X.K (.type B) (.type "type") "__init__" = some (.val (.builtin initId))) (ha : PA X (e :: es) ta)
    (hn : bn ≠ "__name__" := by decide) (hdb : (bn == ("__debug__" : Str)) = false := by decide) (hst : Manifest.isStub B = false := by decide +kernel) (hha : PySem.W.handedIn (.builtin initId) = true := by decide +kernel)
    (hc : eval (.Call (.Attribute (.Name bn p1) "__init__" p2) (e :: es) [] pos) X.env = (do
      let v0 ← eval (.Name bn p1) X.env
      standAt p2.atName
      let (f, first) ← holding [v0] (getMethod v0 "__init__" pl)
      callWith pos f first (backTo pos (starEach (e :: es) X.env)) (backToKw pos (keywordEach [] X.env))) := by rfl)
    (he : starEach (e :: es) X.env = (false, eval e X.env) :: starEach es X.env := by rfl) (hpl : (backTo pos (starEach es X.env)).any (·.1) = false := by rfl) :
    PE X (.Call (.Attribute (.Name bn p1) "__init__" p2) (e :: es) [] pos) (tBy X.K B newId initId bm ta) := by
  refine ⟨fun pins s σ H Q I h => ?_⟩
  refine PySem.W.methodCall_KW (ld_blt I hg hm hbt ?_ hn hdb) hc
  obtain ⟨m, fr⟩ := I.fr
  refine PySem.W.method_type fr I.ok.mod.kin hty hst vV hha ?_
  show wpAny _ _ (callWith pos (Value.builtin initId) [] (backTo pos (starEach (e :: es) X.env)) []) _ _ _
  refine PyProof.Rows.callWith_method1 (thn (ha.run pos pins _ σ H _ (I.tok _) h) fun us s1 hh => ?_) he hpl
  obtain ⟨vs, H1, I1, r1, a, C, ws, rfl, hl, T, ea, q⟩ := hh
  cases r1 with
  | @cons _ u0 _ ur ra rr =>
    cases (show u0 = Value.ref a from ra)
    exact gy_init T I1 ea (by rw [← Paired.length rr, sizeLine_eq]; omega) fun s' J => ⟨.non, H1, J, rfl, q⟩
theorem ps_gsy (ho : PE X o to) (he : PE X e te) (hs : swapsWith e (some (.Attribute o f p')) pos.line X.env = pure false := by rfl) : PS X (.Assign [.Attribute o f p'] e pos) (tGy X.K B newId initId bm f to te) := by
  refine ⟨fun pins s σ H D I h => ?_⟩
  refine plainObj_wpAny_Assign_Attribute (thn (he.run pins s σ H _ I h) fun v s1 ⟨y, H1, I1, r1, q1⟩ => thn (ho.run pins s1 σ H1 _ I1 q1) fun u s2 hh => ?_) hs
  obtain ⟨x, H2, I2, r2, a, C, rfl, T, hno, q⟩ := hh
  cases (show u = Value.ref a from r2)
  rcases q with ⟨ea, q⟩ | ⟨dx, fs, ea, ed, hl, q⟩
  · exact gy_new T I2 ea hno r1 fun dx s' n ne J => ⟨σ, _, J, q dx n ne⟩
  · exact gy_old T I2 ea ed hl hno r1 fun s' J => ⟨σ, _, J, q⟩
/-- C(e, ..), C's own __init__ keeping sp -/
theorem pmk_y {CX : CXT} {x : Str} {C fI : Addr} {k : Nat} {fd : FuncData} {ps : List Str} {sp : Sp} {ds : List Value} {dvs : List V} (T : OxY X.K C B newId initId bm) (iC : PySem.W.findIn X.K (.ref C) "__init__" = some (some (.ref fI))) (tI : PySem.W.typeIn X.K (.ref fI) = some (.type "function"))
    (F1 : FnOk X.prog X.w X.K X.mg X.base CX k fI fd ps sp) (hr : Room (k + 1) X.A) (hb : Binds X.K fd ps ds) (hd : Vals dvs ds) (hx : Passes CX X (fun _ _ _ => False)) (hg : Gl X x) (hm : X.mg x = some (.ref C)) (ha : PA X (e :: es) ta)
    (hdb : (x == ("__debug__" : Str)) = false := by decide) (he : starEach (e :: es) X.env = (false, eval e X.env) :: starEach es X.env := by rfl) (hpl : (backTo pos (starEach es X.env)).any (·.1) = false := by rfl) : PMk X (.Call (.Name x p) (e :: es) [] pos) (tMkO C sp dvs ta) := by
  intro pins s σ H Q I h
  obtain ⟨nm, q, N, bs, sn, sub, ab, col, dd, k0, k1, k2, k3, k5, hC⟩ := T.cls
  obtain ⟨Bn, iN, bN, nf, hnB⟩ := T.nf
  refine wpAny_Call_Name_kw (ld_glob I hg hm ?_ hdb)
  refine PySem.W.callWith_K (h₀ := X.base) I.ok.mod.kin T.kC (thn (ha.run pos pins s σ H _ I h) fun us s1 hh => ?_) he hpl
  obtain ⟨vs, H1, I1, r1, hz, q1⟩ := hh
  refine ⟨I1.kIn, ?_⟩
  show wpAny _ _ (call (.ref C) us) _ _ _
  obtain ⟨hp, g, dr, tk, os⟩ := s1
  have le1 : hp.objs.size ≤ hp.objs.size + 1 := Nat.le_succ _
  have hq := q1 (hp.objs.size + 1) (I1.hok.fresh le1)
  have grow : ∀ b o', hp.get? b = some o' → ((hp.push (PySem.W.kdv_tup us)).push (PySem.HandSPX.excO C hp.objs.size)).get? b = some o' := fun b o' z => Heap.get?_push_of_some _ (Heap.get?_push_of_some _ z)
  have got : ((hp.push (PySem.W.kdv_tup us)).push (PySem.HandSPX.excO C hp.objs.size)).get? (hp.objs.size + 1) = some (PySem.HandSPX.excO C hp.objs.size) := by heap_get
  have I2 := I1.laid (t' := tk) (a := hp.objs.size + 1) (o := exo (hp.objs.size + 1) C none) (h' := (hp.push (PySem.W.kdv_tup us)).push (PySem.HandSPX.excO C hp.objs.size)) grow le1 (exo_ok got)
  have r2 : Vals (V.ref (hp.objs.size + 1) :: (vs ++ dvs)) (Value.ref (hp.objs.size + 1) :: (us ++ ds)) := .cons rfl (r1.append hd)
  have hl : (Value.ref (hp.objs.size + 1) :: us ++ ds).length = ps.length := r2.length.symm.trans (F1.len _ _ _ _ hq)
  have hus : us.length ≤ sizeLine := by rw [← Paired.length r1, sizeLine_eq]; omega
  refine wpAny_call (call_y nf T.nA T.nN hnB (I1.kIn _ _ hC) (PySem.W.looks_findIn I1.kIn iC) (fun self => PySem.W.bind_fn I1.kIn self tI) hus (codeAny_mono (F1.run _ X.stack _ _ ⟨Value.ref (hp.objs.size + 1) :: us, []⟩ (Value.ref (hp.objs.size + 1) :: (us ++ ds)) _ _ (fun _ _ _ => False)
    (hr.make C us []) (I2.env0.make C us []) (hb _ (Value.ref (hp.objs.size + 1) :: us) I2.kIn hl) r2 hq) fun r s' hq' => ?_))
  match r, hq' with
  | .error er, hq' => exact hx pins σ _ _ er s' I2 hq'
  | .ok .next, hq' => exact hq'.elim
  | .ok .brk, hq' => exact hq'.elim
  | .ok .cont, hq' => exact hq'.elim
  | .ok (.ret u), hq' =>
    obtain ⟨v, H2, os2, bare2, un2, hok2, rv, rfl, d, fs, ea, ed, hd1, q2⟩ := hq'
    obtain ⟨h2, g2, d2, t2, os'⟩ := s'
    exact ⟨rv, mk_end (raises_own T.exC T.tyC) I1 le1 grow un2 hok2 os2 bare2 ea ed hd1 q2⟩
end
end MM
namespace MM
open PySem PySem.Spec PySem.Calls PyProof.Rows L2
abbrev bmK : List Value := [.type "KeyError", .type "LookupError", .type "Exception", .type "BaseException", .type "object"]
theorem store_K : StoreFacts "KeyError" bmK "object.__setattr__" "object" where
  mro := by kernel_rfl
  slot := .of (owner := "object") (n := "__setattr__") (by rw [typeLookup_type, builtinLookup_eq_fast]; kernel_rfl) (by decide +kernel) (by decide +kernel) (by decide +kernel)
    (by first | exact .inl (by decide +kernel) | exact .inr (by decide +kernel)) (by rw [isSubtype_type]; kernel_rfl)
  entry := PySem.F.entry_object_sa
  kind := by decide +kernel
  split := by decide +kernel
  hasOwner := by decide +kernel
  args := fun a b c => by unfold argsOk; kernel_rfl
  passes := fun self => by kernel_rfl
abbrev OxK (K : PySem.W.Frag) (C : Addr) : Prop := OxY K C "KeyError" "LookupError.__new__" "KeyError.__init__" bmK
theorem oxk_mk {K : PySem.W.Frag} {C : Addr} {nm q N bs sn sub ab col dd k0 k1 k2 k3 k5} (l : K.lookup C = some (excClassObj nm q C N bs bmK true sn sub ab col dd k0 k1 k2 k3 k5 "LookupError.__new__")) (sa : PySem.W.findIn K (.ref C) "__setattr__" = some (some (.builtin "object.__setattr__")))
    (exC : PySem.W.subIn K (.ref C) (.type "BaseException") = some true) (tyC : PySem.W.typeIn K (.ref C) = some (.type "type")) (kC : PySem.W.keepIn K (.ref C) = true) : OxK K C :=
  ⟨⟨_, _, _, PySem.F.excBase_LookupError, by decide +kernel⟩, by decide +kernel, by decide +kernel, PyProof.Rows.excClass_KeyError, by decide +kernel, store_K, by decide +kernel, ⟨_, _, _, _, _, _, _, _, _, _, _, _, _, _, l⟩, sa, exC, tyC, kC⟩
theorem typ_K : typeOf (.type "KeyError") = pure (.type "type") := by kernel_rfl
end MM
/-! a text times a small number -/
namespace MM
open PySem PySem.Spec PyProof.Rows L2
def rpS (z : Str) (n : Nat) : Str := ⟨(List.replicate n z.cps).foldl (· ++ ·) #[]⟩
theorem rp_zero (z : Str) : rpS z 0 = Str.empty := rfl
theorem rp_one (z : Str) : rpS z 1 = z := by
  show (⟨#[] ++ z.cps⟩ : Str) = z
  rw [Array.empty_append]
theorem rp_nil {z : Str} (h : z.length = 0) (n : Nat) : rpS z n = z := by
  have e : z.cps = #[] := Array.size_eq_zero_iff.mp h
  have key : ∀ n : Nat, (List.replicate n (#[] : Array Nat)).foldl (· ++ ·) #[] = #[] := fun n => by
    induction n with
    | zero => rfl
    | succ n ih => rw [List.replicate_succ, List.foldl_cons, Array.append_empty, ih]
  unfold rpS
  cases z with
  | mk c =>
    cases (show c = #[] from e)
    rw [key]
theorem rp_len (z : Str) (n : Nat) : (rpS z n).length = n * z.length := by
  have key : ∀ (n : Nat) (a : Array Nat), ((List.replicate n z.cps).foldl (· ++ ·) a).size = a.size + n * z.cps.size := fun n => by
    induction n with
    | zero => intro a; simp
    | succ n ih =>
      intro a
      rw [List.replicate_succ, List.foldl_cons, ih, Array.size_append, Nat.succ_mul]
      omega
  show ((List.replicate n z.cps).foldl (· ++ ·) #[]).size = n * z.cps.size
  rw [key]
  simp
theorem op_mulR {X : Cx} : OpR X (binaryOp .Mult) (fun x y H Q => ∃ (z : Str) (n : Nat), x = .str z ∧ y = .int (n : Int) ∧ n ≤ 1000 ∧ z.length ≤ 1000 ∧ Q (.str (rpS z n)) H) := by
  intro pins s σ H x y v u Q I rx ry h
  obtain ⟨z, n, rfl, rfl, hn, hz, q⟩ := h
  obtain ⟨t, rfl⟩ := rx
  obtain ⟨t', rfl⟩ := ry
  have p1 : z.length * n ≤ 1000 * 1000 := Nat.mul_le_mul hz hn
  refine P.mul_str (by rw [decide_eq_false (by omega), decide_eq_false (by omega)]; rfl) (fun h1 _ => ?_) (fun _ _ => ?_) ?_
  · have h2 : (z.length : Int) ≤ (2 ^ 63 - 1) / (n : Int) := Int.le_ediv_of_mul_le (by omega) (by
      have : ((z.length * n : Nat) : Int) ≤ ((1000 * 1000 : Nat) : Int) := by exact_mod_cast p1
      rw [Int.natCast_mul] at this
      omega)
    omega
  · rw [Int.toNat_natCast]
    show decide (z.length * n > sizeLine) = false
    exact decide_eq_false (by rw [sizeLine_eq]; omega)
  · by_cases h0 : (n : Int) < 1
    · rw [if_pos h0]
      have e : n = 0 := by omega
      subst e
      exact ⟨by decide, ⟨.str Str.empty, H, I.tok _, ⟨_, rfl⟩, q⟩⟩
    · rw [if_neg h0]
      by_cases h1 : ((n : Int) == 1 || z.length == 0) = true
      · rw [if_pos h1]
        have e : rpS z n = z := by
          rcases Bool.or_eq_true _ _ ▸ h1 with h2 | h2
          · have e1 : n = 1 := by have := beq_iff_eq.mp h2; omega
            rw [e1, rp_one]
          · exact rp_nil (beq_iff_eq.mp h2) n
        rw [e] at q
        exact ⟨.str z, H, I, ⟨_, rfl⟩, q⟩
      · rw [if_neg h1]
        rw [Int.toNat_natCast]
        refine ⟨?_, ⟨.str (rpS z n), H, I.tok _, ⟨_, rfl⟩, q⟩⟩
        show (rpS z n).length ≤ sizeLine
        rw [rp_len, sizeLine_eq]
        rw [Nat.mul_comm] at p1
        omega
end MM
/-! own errors over IndexError and RuntimeError; an error without any field -/
namespace MM
open PySem PySem.Spec PySem.Calls PyProof.Rows L2
section
variable {X : Cx} {C a : Addr}
/-- C() is made and let go: it has no dict of its own -/
theorem mk_endN {pins : List (Addr × Obj)} {σ : L2.St} {K1 K2 : Hp} {Q : XK} {hA hB hC : Heap} {gA gC : Array GenState} {dA dC : Drawn} {tA tC : Nat} {oA oC : OsState} (T : Raises X (.ref C)) (I : Inv X pins σ K1 ⟨hA, gA, dA, tA, oA⟩)
    (le : hA.objs.size ≤ a) (grow : ∀ b o, hA.get? b = some o → hB.get? b = some o) (U : Un (frs X.stack) [] (L2.upd K1 a (exo a C none)) K2 hB hC) (ok : HOk X.prog X.w K2 hC) (eo : oC = oA) (bare : AllBare gC) (e2 : K2 a = some (exo a C none)) (q : Q (.ref C) none (del K2 a)) :
    MkP X pins σ Q (.ref a) ⟨hC, gC, dC, tC, oC⟩ := by
  obtain ⟨tt, there⟩ := exo_at ok e2
  have free1 : K1 a = none := I.hok.fresh le
  obtain ⟨G, keepG, dropG⟩ := restrict hC fun b => decide (b ≠ a)
  have same : ∀ {b}, b ≠ a → G.get? b = hC.get? b := fun n => keepG _ (decide_eq_true n)
  have gone : G.get? a = none := dropG _ (decide_eq_false fun n => n rfl)
  have old : ∀ {b : Addr} {o : Obj}, hA.get? b = some o → b ≠ a := fun z => Nat.ne_of_lt (Nat.lt_of_lt_of_le (Heap.lt_size z) le)
  have none1 : ∀ {b : Addr}, b ≠ a → K1 b = none → (L2.upd K1 a (exo a C none)) b = none := fun n z => (upd_ne n).trans z
  have some1 : ∀ {b : Addr} {u : HO}, K1 b = some u → (L2.upd K1 a (exo a C none)) b = some u := fun z => (upd_ne (ne_of_none z free1)).trans z
  have V : Un (frs X.stack) [] K1 (del K2 a) hA G :=
    ⟨fun b o z n f x => (same (old z)).trans (U.keep b o (grow b o z) (none1 (old z) n) f x), fun b o z n f x => by rw [same (old z)]; exact U.slot b o (grow b o z) (none1 (old z) n) f x,
      fun b o z n x => by rw [del_ne (old z)]; exact U.free b o (grow b o z) (none1 (old z) n) x, fun b o z x => by rw [same (old z)]; exact U.there b o (grow b o z) x,
      fun b xs z => by rw [del_ne (ne_of_none z free1)]; exact U.tups b xs (some1 z), fun b o v z => by rw [del_ne (ne_of_none z free1)]; exact U.frzs b o v (some1 z), fun b ps z => by rw [del_ne (ne_of_none z free1)]; exact U.tbls b ps (some1 z)⟩
  have ok' : HOk X.prog X.w (del K2 a) G := fun b o z => by
    have n : b ≠ a := fun e => by subst e; cases del_same.symm.trans z
    rw [del_ne n] at z
    have own : ∀ {c : Addr}, K2 c = some (.own b) → c ≠ a := fun hc => at_ne e2 hc exo_own
    refine (ok b o z).stay (fun c v hc y => ?_) (fun c hc => (del_ne (own hc)).trans hc) fun c xs hc => (del_ne (at_ne e2 hc exo_tup)).trans hc
    refine (same ?_).trans y
    rcases hc with rfl | hc
    · exact n
    · exact own hc
  have J : Inv X pins σ (del K2 a) ⟨G, gC, dC, tC, oC⟩ := I.call' (ch := []) eo V ok' bare fun b z => absurd z (by simp)
  refine ⟨a, _, _, ⟨G, gC, dC, tC, oC⟩, _, .ref C, none, rfl, J, fun b o z => ?_, gone, there, ⟨rfl, rfl⟩, rfl, rfl, del_same, rfl, bare, T, q⟩
  by_cases n : b = a
  · subst n
    cases gone.symm.trans z
  · exact (same n).symm.trans z
/-- what raise C() wishes -/
def tMkN (C : Addr) (sp : Sp) : L2.St → Hp → XK → Prop := fun _ H Q => ∀ a, H a = none → sp [.ref a] (L2.upd H a (exo a C none)) (fun v H2 => v = .non ∧ H2 a = some (exo a C none) ∧ Q (.ref C) none (del H2 a)) (fun _ _ _ => False)
theorem pmk_g0 {CX : CXT} {x : Str} {fI : Addr} {k : Nat} {fd : FuncData} {ps : List Str} {sp : Sp} {p pos : Pos} {B newId initId : String} {bm : List Value} (T : OxG X.K C B newId initId bm) (iC : PySem.W.findIn X.K (.ref C) "__init__" = some (some (.ref fI)))
    (tI : PySem.W.typeIn X.K (.ref fI) = some (.type "function")) (F1 : FnOk X.prog X.w X.K X.mg X.base CX k fI fd ps sp) (hr : Room (k + 1) X.A) (hb : Binds X.K fd ps []) (hx : Passes CX X (fun _ _ _ => False)) (hg : Gl X x) (hm : X.mg x = some (.ref C))
    (hdb : (x == ("__debug__" : Str)) = false := by decide) : PMk X (.Call (.Name x p) [] [] pos) (tMkN C sp) := by
  intro pins s σ H Q I h
  obtain ⟨_, _, _, _, _, _, _, _, _, _, _, _, _, _, hC⟩ := T.cls
  refine wpAny_Call_Name_kw (ld_glob I hg hm ?_ hdb)
  refine PySem.W.callWith_K0 I.kIn T.kC ?_
  show wpAny _ _ (call (.ref C) []) _ _ _
  obtain ⟨hp, g, dr, tk, os⟩ := s
  have le1 : hp.objs.size ≤ hp.objs.size + 1 := Nat.le_succ _
  have hq := h (hp.objs.size + 1) (I.hok.fresh le1)
  have grow : ∀ b o', hp.get? b = some o' → ((hp.push (PySem.W.kdv_tup [])).push (PySem.HandSPX.excO C hp.objs.size)).get? b = some o' := fun b o' z => Heap.get?_push_of_some _ (Heap.get?_push_of_some _ z)
  have got : ((hp.push (PySem.W.kdv_tup [])).push (PySem.HandSPX.excO C hp.objs.size)).get? (hp.objs.size + 1) = some (PySem.HandSPX.excO C hp.objs.size) := by heap_get
  have I2 := I.laid (t' := tk) (a := hp.objs.size + 1) (o := exo (hp.objs.size + 1) C none) (h' := (hp.push (PySem.W.kdv_tup [])).push (PySem.HandSPX.excO C hp.objs.size)) grow le1 (exo_ok got)
  have r2 : Vals [V.ref (hp.objs.size + 1)] [Value.ref (hp.objs.size + 1)] := .cons rfl .nil
  have hl : ([Value.ref (hp.objs.size + 1)] : List Value).length = ps.length := r2.length.symm.trans (F1.len _ _ _ _ hq)
  refine wpAny_call (PySem.HandSPX.call_own T.bf (fun _ => rfl) (I.kIn _ _ hC) (PySem.W.looks_findIn I.kIn iC) (fun self => PySem.W.bind_fn I.kIn self tI) (Nat.zero_le _) (codeAny_mono (F1.run _ X.stack _ _ ⟨[Value.ref (hp.objs.size + 1)], []⟩ ([Value.ref (hp.objs.size + 1)] ++ []) _ _ (fun _ _ _ => False)
    (hr.make C [] []) (I2.env0.make C [] []) (hb _ [Value.ref (hp.objs.size + 1)] I2.kIn (by simpa using hl)) (by simpa using r2) hq) fun r s' hq' => ?_))
  match r, hq' with
  | .error er, hq' => exact hx pins σ _ _ er s' I2 hq'
  | .ok .next, hq' => exact hq'.elim
  | .ok .brk, hq' => exact hq'.elim
  | .ok .cont, hq' => exact hq'.elim
  | .ok (.ret u), hq' =>
    obtain ⟨v, H2, os2, bare2, un2, hok2, rv, rfl, ea, q2⟩ := hq'
    obtain ⟨h2, g2, d2, t2, os'⟩ := s'
    exact ⟨rv, mk_endN (raises_own T.exC T.tyC) I le1 grow un2 hok2 os2 bare2 ea q2⟩
/-- a kept error without a dict, asked for its class -/
def rIsN (K : PySem.W.Frag) (D : Addr) : List V → Hp → VK → Prop := fun xs H Q => ∃ (a : Addr) (c : V) (u : Value) (b : Bool), xs = [.ref a, c] ∧ H a = some (KX a (.ref D) none) ∧ ClsV c u ∧ PySem.W.kitOne K (.ref D) u = some b ∧ Q (.bl b) H
theorem kept_instN {D : Addr} {pins : List (Addr × Obj)} {σ : L2.St} {H : Hp} {s : Shared} (I : Inv X pins σ H s) (ha : H a = some (KX a (.ref D) none)) : ∃ ox, PySem.W.InstAt s.heap a ox D none := by
  have x1 : ObjOk X.prog X.w H s.heap a (KX a (.ref D) none) := I.hok a _ ha
  obtain ⟨⟨ox, vs, e, z, dd⟩, _, _⟩ := x1
  exact ⟨ox, e, z.1, by unfold PySem.W.notCls; rw [dd], by rw [z.2]; trivial⟩
theorem call_isN {D : Addr} (Y : XcF X.K D) : CallR X (.builtin "isinstance") (rIsN X.K D) := by
  intro pins s σ H xs us Q I r h
  obtain ⟨a, c, u, b, rfl, ha, hc, e, q⟩ := h
  obtain ⟨u1, u2, rfl, r1, r2⟩ := vals2 r
  cases (show u1 = Value.ref a from r1)
  cases hc.eq r2
  obtain ⟨ox, J⟩ := kept_instN I ha
  exact PySem.W.kia_one (kitx_kept Y) I.kIn ⟨ox, _, J⟩ e (fun z => nomatch z) fun tk => ⟨.bl b, H, I.kept (t' := tk) fun _ _ z => z, rfl, q⟩
end
section
variable {P : Program} {w : World} {K : PySem.W.Frag} {mg : Str → Option Value} {base : Heap} {m qual : Str} {C : Addr} {st : Stmt} {N ps : List Str} {k : Nat} {sp : Sp}
/-- a method that may raise -/
theorem cmX (D : Dm K C m qual st) (S : FnScope N ps (defScope st)) (len : ∀ vs H Q E, sp vs H Q E → vs.length = ps.length)
    (body : ∀ (f : Addr) (cdv : Value) (A : Around) (outer : List Env) (s : Shared) (H : Hp) (vs : List V) (Q : VK) (E : XK), Room k (A.deeper (envOfC qual (defScope st) s.heap.objs.size f cdv)) → sp vs H Q E →
      ∃ t, PSs (cxOf (L2.CX P w) P w K mg base N qual (defScope st) f cdv A outer s H E) (defBody st) t ∧ t { nx := fun _ H' => Q .non H', rt := Q } (start N vs) H) : Cm P w K mg base (L2.CX P w) (k + 1) C m qual st ps sp := by
  obtain ⟨f, fd, F, M, hc⟩ := D.ex
  exact ⟨f, fd, F, M, hc, F.ok S len fun cdv A outer s H vs Q E hr h => body f cdv A outer s H vs Q E hr h⟩
end
abbrev bmI : List Value := [.type "IndexError", .type "LookupError", .type "Exception", .type "BaseException", .type "object"]
abbrev bmR : List Value := [.type "RuntimeError", .type "Exception", .type "BaseException", .type "object"]
theorem store_I : StoreFacts "IndexError" bmI "object.__setattr__" "object" where
  mro := by kernel_rfl
  slot := .of (owner := "object") (n := "__setattr__") (by rw [typeLookup_type, builtinLookup_eq_fast]; kernel_rfl) (by decide +kernel) (by decide +kernel) (by decide +kernel) (by first | exact .inl (by decide +kernel) | exact .inr (by decide +kernel)) (by rw [isSubtype_type]; kernel_rfl)
  entry := PySem.F.entry_object_sa
  kind := by decide +kernel
  split := by decide +kernel
  hasOwner := by decide +kernel
  args := fun a b c => by unfold argsOk; kernel_rfl
  passes := fun self => by kernel_rfl
theorem store_R : StoreFacts "RuntimeError" bmR "object.__setattr__" "object" where
  mro := by kernel_rfl
  slot := .of (owner := "object") (n := "__setattr__") (by rw [typeLookup_type, builtinLookup_eq_fast]; kernel_rfl) (by decide +kernel) (by decide +kernel) (by decide +kernel) (by first | exact .inl (by decide +kernel) | exact .inr (by decide +kernel)) (by rw [isSubtype_type]; kernel_rfl)
  entry := PySem.F.entry_object_sa
  kind := by decide +kernel
  split := by decide +kernel
  hasOwner := by decide +kernel
  args := fun a b c => by unfold argsOk; kernel_rfl
  passes := fun self => by kernel_rfl
abbrev OxI (K : PySem.W.Frag) (C : Addr) : Prop := OxG K C "IndexError" "IndexError.__new__" "IndexError.__init__" bmI
abbrev OxR (K : PySem.W.Frag) (C : Addr) : Prop := OxG K C "RuntimeError" "RuntimeError.__new__" "RuntimeError.__init__" bmR
theorem oxi_mk {K : PySem.W.Frag} {C : Addr} {nm q N bs sn sub ab col dd k0 k1 k2 k3 k5} (l : K.lookup C = some (excClassObj nm q C N bs bmI true sn sub ab col dd k0 k1 k2 k3 k5 "IndexError.__new__")) (sa : PySem.W.findIn K (.ref C) "__setattr__" = some (some (.builtin "object.__setattr__")))
    (exC : PySem.W.subIn K (.ref C) (.type "BaseException") = some true) (tyC : PySem.W.typeIn K (.ref C) = some (.type "type")) (kC : PySem.W.keepIn K (.ref C) = true) : OxI K C := ⟨PySem.F.excBase_IndexError, store_I, by decide +kernel, ⟨_, _, _, _, _, _, _, _, _, _, _, _, _, _, l⟩, sa, exC, tyC, kC⟩
theorem oxr_mk {K : PySem.W.Frag} {C : Addr} {nm q N bs sn sub ab col dd k0 k1 k2 k3 k5} (l : K.lookup C = some (excClassObj nm q C N bs bmR true sn sub ab col dd k0 k1 k2 k3 k5 "RuntimeError.__new__")) (sa : PySem.W.findIn K (.ref C) "__setattr__" = some (some (.builtin "object.__setattr__")))
    (exC : PySem.W.subIn K (.ref C) (.type "BaseException") = some true) (tyC : PySem.W.typeIn K (.ref C) = some (.type "type")) (kC : PySem.W.keepIn K (.ref C) = true) : OxR K C := ⟨PySem.F.excBase_RuntimeError, store_R, by decide +kernel, ⟨_, _, _, _, _, _, _, _, _, _, _, _, _, _, l⟩, sa, exC, tyC, kC⟩
theorem typ_I : typeOf (.type "IndexError") = pure (.type "type") := by kernel_rfl
theorem typ_R : typeOf (.type "RuntimeError") = pure (.type "type") := by kernel_rfl
end MM
/-! set(xs) of a list of whole numbers, as a set that may be sorted -/
namespace MM
open PySem PySem.Spec PyProof.Rows L2
section
variable {prog : Program} {w : World} {A : Around} {E : Value → Shared → Prop} {s : Shared}
/-- what set.__init__ leaves -/
def FilledI (w : World) (s s2 : Shared) (xs : List Int) : Prop := ∃ h' tk c, s2 = { s with heap := h', toks := tk } ∧ c ≤ xs.length ∧
  SetR w h' s.heap.objs.size (fun k => decide (k ∈ xs)) c ∧ ∀ b o, b < s.heap.objs.size → s.heap.get? b = some o → h'.get? b = some o
theorem init_ints {l : Addr} {items : Array Value} {xs : List Int} (hh : A.handled = none) (hl : s.heap.IsList l items) (hi : IntsAre items.toList xs) (hb : xs.length + 1 < scanBound) {Q : Fin → Shared → Prop} (h : ∀ s2, FilledI w s s2 xs → Q (.done (.ret .none)) s2) :
    wpAny (model prog w) A (Builtin.«set.__init__» ⟨[.ref s.heap.objs.size, .ref l], []⟩) Q E { s with heap := s.heap.push (bareSet (!w.params.followText "set-order")) } := by
  obtain ⟨⟨cls, od, dt, sl⟩, ho, hc, nl, hd⟩ := hl
  simp only at hc hd
  subst hc
  subst hd
  generalize hled : (!w.params.followText "set-order") = led at *
  have lS : l < s.heap.objs.size := Heap.lt_size ho
  have hS : (s.heap.push (bareSet led)).get? s.heap.objs.size = some (bareSet led) := Heap.get?_push_size _ rfl
  have ho' : (s.heap.push (bareSet led)).get? l = some { cls := .type "list", dict := od, data := .seq items nl, slots := sl } := Heap.get?_push_of_some _ ho
  have il : (s.heap.push (bareSet led)).IsList l items := ⟨_, ho', rfl, nl, rfl⟩
  have h1 := PySem.F.sub_list_set
  have h2 := PySem.F.sub_list_frozenset
  have h3 : (Value.type "list" == Value.type "dict") = false := by decide
  unfold Builtin.«set.__init__» noKeywords Builtin.Frozenset.updateFrom
  generalize hPI : pyIter = PI
  wp_walk
  subst hPI
  refine wpAny_pyIter_list il ?_
  refine wpAny_bind (wpAny_runValue ?_)
  have sz : items.size = xs.length := by rw [← Array.length_toList]; exact IntsAre.length hi
  have ne : l ≠ (s.heap.push (bareSet led)).objs.size := by
    rw [Heap.size_push]
    exact Nat.ne_of_lt (Nat.lt_succ_of_lt lS)
  have out : s.heap.objs.size ∉ [(s.heap.push (bareSet led)).objs.size, l] := by
    rw [Heap.size_push]
    simp only [List.mem_cons, List.not_mem_nil, or_false, not_or]
    exact ⟨Nat.ne_of_lt (Nat.lt_succ_self _), Nat.ne_of_gt lS⟩
  have hh3 : A.in1.handled = none := by simp [hh]
  have val : ∀ (i : Nat) (v : Value), items[i]? = some v → ∃ k t, xs[i]? = some k ∧ v = .int k t := fun i v hv => by
    have lt : i < xs.length := by
      have := (Array.getElem?_eq_some_iff.mp hv).1
      omega
    obtain ⟨t, e⟩ := IntsAre.int_at hi i v (by rw [Array.getElem?_toList]; exact hv)
    exact ⟨xs[i], t, List.getElem?_eq_getElem lt, by rw [e, List.getD_eq_getElem?_getD, List.getElem?_eq_getElem lt] <;> rfl⟩
  refine set_update_ints ((Walks.list hh3 _ l ne items).toS) s.heap.objs.size out xs sz hb val (items.size - 0) 0 _ (by omega) (Nat.zero_le _) (by exact ⟨⟨_, Heap.get?_push_size _ rfl, rfl, rfl⟩, il.push _⟩) ⟨0, Nat.le_refl _, ?_⟩ ?_
  · subst hled
    exact setR_new_at (Heap.get?_push_of_some _ hS)
  · intro s' c hm hc hs'
    obtain ⟨h', g', d', tk', os'⟩ := s'
    have e1 : g' = s.gens := hm.gens
    have e2 : d' = s.drawn := hm.drawn
    have e3 : os' = s.os := hm.os
    subst e1; subst e2; subst e3
    show wpAny _ _ _ _ _ _
    refine wpAny_pure ?_
    show wpAny _ _ (ret Value.none) _ _ _
    refine wpAny_pure (h _ ⟨h', tk', c, rfl, by omega, hs', fun b o hb e => ?_⟩)
    refine hm.heap b o ?_ (Heap.get?_push_of_some _ (Heap.get?_push_of_some _ e))
    rw [Heap.size_push]
    simp only [List.mem_cons, List.not_mem_nil, or_false, not_or]
    exact ⟨Nat.ne_of_lt hb, Nat.ne_of_lt (Nat.lt_succ_of_lt hb)⟩
theorem set_of_ints {l : Addr} {items : Array Value} {xs : List Int} {Q : Value → Shared → Prop}
    (hh : A.handled = none) (hl : s.heap.IsList l items) (hi : IntsAre items.toList xs) (hb : xs.length + 1 < scanBound)
    (h : ∀ s2, FilledI w s s2 xs → Q (.ref s.heap.objs.size) s2) : wpAny (model prog w) A (call (.type "set") [.ref l]) Q E s := by
  obtain ⟨c, tl, hmro⟩ := PySem.F.called_set.mro
  have hmade := PySem.F.called_set.made
  have hsub := PySem.F.called_set.sub
  refine wpAny_call (codeAny_of_tree ?_)
  show wpAny _ _ (callAny (.type "set") _) _ _ _
  refine wpAny_pure ⟨Code.quiet_builtin _ (by decide +kernel), codeAny_builtin PySem.F.entry_type_call ?_⟩
  rw [Around.under_plain (weight_type_call_type "set" [.ref l] []) rfl]
  have h1 := PySem.F.called_set.notType
  have h2 := PySem.F.called_set.canCreate
  have h3 := PySem.F.typeCall_set_1 (.ref l)
  repeat (any_goals (first | assumption | wp_step))
  refine codeAny_mono (code_set_led1 (.ref l) (E := E) (Q₁ := fun obj s₁ => obj = .ref s.heap.objs.size ∧ s₁ = { s with heap := s.heap.push (bareSet (!w.params.followText "set-order")) }) ⟨rfl, rfl⟩) fun r s₁ hr => ?_
  rcases r with e | (obj | _ | _ | _) <;> first | exact hr | exact hr.elim | skip
  obtain ⟨rfl, rfl⟩ := hr
  have hT : Shared.TypeIs { s with heap := s.heap.push (bareSet (!w.params.followText "set-order")) } (.ref s.heap.objs.size) "set" := ⟨_, Heap.get?_push_size _ rfl, rfl⟩
  have h4 := PySem.F.called_set.init.lookup
  have h5 := PySem.F.called_set.init.bind (.ref s.heap.objs.size)
  repeat (any_goals (first | assumption | wp_step))
  refine codeAny_mono (codeAny_call_builtin (R := wants (fun r s2 => r = .none ∧ FilledI w s s2 xs) E) PySem.F.called_set.init.plain PySem.F.entry_set_init (check_set_init_1 hT (init_ints ?_ hl hi hb fun s2 q => ⟨rfl, q⟩))) fun r s2 z => ?_
  · simp [hh]
  · rcases r with e | (v | _ | _ | _) <;> first | exact z | exact z.elim | skip
    obtain ⟨rfl, z⟩ := z
    repeat (any_goals (first | assumption | wp_step))
    exact h _ z
end
end MM
namespace L2
open PySem PySem.Spec PyProof.Rows MM
/-- set(xs), xs a list of whole numbers -/
def rSetI (w : World) (K : PySem.W.Frag) : List V → Hp → VK → Prop := fun vs H Q => ∃ (l : Addr) (xs : List Int), vs = [.ref l] ∧ SqL K H l (xs.map V.int) ∧ xs.length < 64 ∧ ∀ (p : Addr) (n : Nat), H p = none → n ≤ xs.length → Q (.ref p) (upd H p (SetO w p (fun k => decide (k ∈ xs)) n))
section
variable {X : Cx}
theorem cr_setI (hc : X.calm = true) : CallR X (.type "set") (rSetI X.w X.K) := by
  intro pins s σ H vs us Q I r h
  obtain ⟨l, xs, rfl, hq, hb, q⟩ := h
  obtain ⟨u, rfl, ru⟩ := r.one
  cases (show u = Value.ref l from ru)
  obtain ⟨its, rv, pl, hz⟩ := I.list hq
  refine set_of_ints (xs := xs) (I.ok.hd hc) pl.isList (by simpa using ints_of_vals rv) (by unfold scanBound; omega) fun s2 hz2 => ?_
  obtain ⟨h', tk, c, e2, hcl, hS, hk⟩ := hz2
  subst e2
  exact ⟨.ref _, upd H s.heap.objs.size (SetO X.w s.heap.objs.size (fun k => decide (k ∈ xs)) c), I.laid (t' := tk) (fun b u e => hk b u (Heap.lt_size e) e) (Nat.le_refl _) (setO_new hS), rfl, q _ c (I.hok.fresh (Nat.le_refl _)) hcl⟩
end
end L2
/-! xs[::v] of a list of two, v 1 or -1 -/
namespace MM
open PySem PySem.Spec PyProof.Rows L2
def tStep2 (K : PySem.W.Frag) (te ts : TE) : TE := fun σ H Q => te σ H fun x H1 => tPart ts σ H1 fun o Hz => ∃ (c : Addr) (u v : V) (j : Int), o = some j ∧ x = .ref c ∧ (j = 1 ∨ j = -1) ∧ SqL K Hz c [u, v] ∧
  ∀ p, Hz p = none → Q (.ref p) (L2.upd Hz p (.lst (if j = 1 then [u, v] else [v, u])))
theorem pick2 (a b : Value) (j : Int) (h : j = 1 ∨ j = -1) : slicePick #[a, b] none none (some j) = (if j = 1 then [a, b] else [b, a]).toArray := by
  rcases h with rfl | rfl
  · rw [if_pos rfl]
    have e : sliceBounds none none (some 1) 2 = (0, 2, 1) := by decide +kernel
    have e2 : sliceRange 0 2 1 = [0, 1] := by decide +kernel
    unfold slicePick
    show ((sliceRange (sliceBounds none none (some 1) 2).1 (sliceBounds none none (some 1) 2).2.1 (sliceBounds none none (some 1) 2).2.2).filterMap ((#[a, b] : Array Value)[·]?)).toArray = _
    rw [e]
    show ((sliceRange 0 2 1).filterMap ((#[a, b] : Array Value)[·]?)).toArray = _
    rw [e2]
    rfl
  · rw [PySem.W.krv_pick]
    rfl
theorem pe_stepL {X : Cx} {e st : Expr} {te ts : TE} {q3 pos : Pos} (he : PE X e te) (hs : PE X st ts) : PE X (.Subscript e (.Slice none none (some st) q3) pos) (tStep2 X.K te ts) := by
  refine ⟨fun pins s σ H Q I w => ?_⟩
  refine Subscript_ (thn (he.run pins s σ H _ I w) fun v0 sA ⟨x, HA, IA, rA, w⟩ => ?_)
  refine wpAny_Slice (thn (po_none.run pins sA σ HA (fun o Hz => o = none ∧ Hz = HA) IA ⟨rfl, rfl⟩) fun v1 sB hB => ?_)
  obtain ⟨_, _, IB, pB, rfl, rfl⟩ := hB
  refine thn (po_none.run pins sB σ _ (fun o Hz => o = none ∧ Hz = _) IB ⟨rfl, rfl⟩) fun v2 sC hC => ?_
  obtain ⟨_, _, IC, pC, rfl, rfl⟩ := hC
  have part : PO X (some st) (tPart ts) := po_some hs
  refine thn (part.run pins sC σ _ _ IC w) fun v3 sD hD => ?_
  obtain ⟨o, HD, ID, pD, c, u, v, j, rfl, rfl, hj, hq, w⟩ := hD
  have IE : Inv X pins σ HD { sD with heap := sD.heap.push { cls := .type "slice", data := .fields #[v1, v2, v3] } } := ID.kept (t' := sD.toks) fun b o z => Heap.get?_push_of_some _ z
  obtain ⟨its, r, isT, lz⟩ := IE.list hq
  cases (show v0 = Value.ref c from rA)
  show wpAny (model X.prog X.w) X.A (subscriptTail e (.Slice none none (some st) q3) (.ref c) (.ref sD.heap.objs.size)) _ _ _
  refine tail_any (ops := [.ref c, .ref sD.heap.objs.size]) isT.isList.typeIs (PySem.slot_list_getitem.lookup) ?_ (by with_unfolding_all rfl)
  have nz : some j ≠ some (0 : Int) := by rcases hj with rfl | rfl <;> decide
  cases r with
  | @cons _ w1 _ wr r1 rr =>
    cases rr with
    | @cons _ w2 _ wr2 r2 rr2 =>
      cases rr2
      refine wpAny_getItem_list_slice (items := #[w1, w2]) isT.isList (Heap.IsSliceOf.new _ v1 v2 v3) pB pC pD nz ?_ (by show 2 ≤ sizeLine; decide)
      rw [pick2 w1 w2 j hj]
      refine ⟨.ref _, _, IE.laid (t' := sD.toks) (o := .lst (if j = 1 then [u, v] else [v, u])) (fun b o z => Heap.get?_push_of_some _ z) (Nat.le_refl _) ?_, rfl, w _ (IE.hok.fresh (Nat.le_refl _))⟩
      refine ⟨?_, _, 0, ?_, Heap.get?_push_size _ rfl⟩
      · split <;> (show 2 ≤ sizeLine; decide)
      · rcases hj with rfl | rfl
        · exact .cons r1 (.cons r2 .nil)
        · exact .cons r2 (.cons r1 .nil)
end MM
namespace MM
open PySem PySem.Spec PyProof.Rows L2
/-! ### a small head: what the end asks of the written part, looked at by one hook -/
abbrev AlB : Type := Bool × (Bool × List He.FnW)
def obsB (chk : PySem.W.Frag → List Bool) (fn : List He.DefD) (K : PySem.W.Frag) : AlB := ((chk K).all (fun b => b), (fn.all fun d => d.ok K, fn.map fun d => He.fnW K d.at_))
def valB (fn : List He.DefD) : AlB := (true, (true, fn.map He.DefD.val))
def SaysB (chk : PySem.W.Frag → List Bool) (fn : List He.DefD) (K : PySem.W.Frag) : Prop := obsB chk fn K = valB fn
/-- the first n objects -/
def frB (n : Nat) (g : Addr → Option Obj) : PySem.W.Frag := He.frG g (List.range n)
def hookB (n : Nat) (chk : PySem.W.Frag → List Bool) (fn : List He.DefD) : PySem.W.Hook where
  α := AlB
  obs := fun s => obsB chk fn (frB n s.heap.get?)
  val := fun _ => valB fn
  says := fun _ h => ∃ K : PySem.W.Frag, K.In h ∧ SaysB chk fn K
  of := fun _ _ e => ⟨_, He.frG_in, e⟩
  keeps := fun _ _ _ ⟨K, hi, cc⟩ kk => ⟨K, PySem.W.Frag.In.keeps hi kk, cc⟩
theorem obsB_eq {n : Nat} {chk : PySem.W.Frag → List Bool} {fn : List He.DefD} {g : Addr → Option Obj} {s : Shared} (h : ∀ a, g a = s.heap.get? a) : obsB chk fn (frB n g) = (hookB n chk fn).obs s := by
  have eg : g = s.heap.get? := funext h
  rw [eg] <;> rfl
/-- the run looked at in five goes -/
theorem run_join {α β γ δ : Type} {x : Option α} {f : α → β} {g : α → γ} {h h1 h2 : α → Bool} {i i1 i2 : α → Bool × List δ} {a : β} {b : γ} {l1 l2 : List δ} (e1 : x.map (fun s => (f s, g s)) = some (a, b)) (e2 : x.map h1 = some true) (e3 : x.map h2 = some true) (e4 : x.map i1 = some (true, l1)) (e5 : x.map i2 = some (true, l2))
    (hh : ∀ s, h s = (h1 s && h2 s)) (hi : ∀ s, i s = ((i1 s).1 && (i2 s).1, (i1 s).2 ++ (i2 s).2)) : x.map (fun s => (f s, g s, (h s, i s))) = some (a, b, (true, (true, l1 ++ l2))) := by
  cases x with
  | none => cases e1
  | some s =>
    have e1 := Option.some.inj e1
    have e2 : h1 s = true := Option.some.inj e2
    have e3 : h2 s = true := Option.some.inj e3
    have e4 : i1 s = (true, l1) := Option.some.inj e4
    have e5 : i2 s = (true, l2) := Option.some.inj e5
    injection e1 with e6 e7
    show some (f s, g s, (h s, i s)) = _
    rw [hh, hi, e2, e3, e4, e5, e6, e7]
    rfl
section
variable {chk : PySem.W.Frag → List Bool} {fn : List He.DefD} {K : PySem.W.Frag}
theorem SaysB.fact (c : SaysB chk fn K) (i : Nat) {b : Bool} (h : (chk K)[i]? = some b) : b = true := by
  have c1 : (chk K).all (fun b => b) = true := congrArg (fun z : AlB => z.1) c
  exact List.all_eq_true.mp c1 b (List.mem_of_getElem? h)
theorem SaysB.dec (c : SaysB chk fn K) (i : Nat) {p : Prop} [Decidable p] (h : (chk K)[i]? = some (decide p)) : p := of_decide_eq_true (c.fact i h)
theorem SaysB.def_ (c : SaysB chk fn K) (i : Nat) {d : He.DefD} (h : fn[i]? = some d) : ∃ fd, FunD K d.name d.qual d.params d.body d.scope (d.dvs K) (d.kws K) (He.fAd K d.at_) fd := by
  have c2 : (fn.all fun d => d.ok K) = true := congrArg (fun z : AlB => z.2.1) c
  have e : fn.map (fun d => He.fnW K d.at_) = fn.map He.DefD.val := congrArg (fun z : AlB => z.2.2) c
  have e3 : (fn.map fun d => He.fnW K d.at_)[i]? = (fn.map He.DefD.val)[i]? := by rw [e]
  rw [List.getElem?_map, h, List.getElem?_map, h] at e3
  exact He.DefD.funD (Option.some.inj e3) (List.all_eq_true.mp c2 d (List.mem_of_getElem? h))
end
def slB (newId : String) : List (Option Value) → Bool
  | [_, _, _, _, some (.builtin n), _] => decide (n = newId)
  | _ => false
theorem slB_ok {newId : String} {l : List (Option Value)} (h : slB newId l = true) : ∃ k0 k1 k2 k3 k5, l = [k0, k1, k2, k3, some (.builtin newId), k5] := by
  unfold slB at h
  split at h
  · rw [of_decide_eq_true h]
    exact ⟨_, _, _, _, _, rfl⟩
  · cases h
/-- a class right over bm, its maker newId -/
def clsB (K : PySem.W.Frag) (C : Addr) (bm : List Value) (hd : Bool) (newId : String) : Bool := match K.lookup C with
  | some ⟨.type t, _, .cls cd, sl⟩ => decide (t = "type") && (decide (cd.mro = .ref C :: bm) && (decide (cd.hasDict = hd) && (!cd.hasDel && slB newId sl.toList)))
  | _ => false
theorem clsB_ok {K : PySem.W.Frag} {C : Addr} {bm : List Value} {hd : Bool} {newId : String} (h : clsB K C bm hd newId = true) : ∃ nm q N bs sn sub ab col dd k0 k1 k2 k3 k5, K.lookup C = some (excClassObj nm q C N bs bm hd sn sub ab col dd k0 k1 k2 k3 k5 newId) := by
  unfold clsB at h
  cases q : K.lookup C with
  | none =>
    rw [q] at h
    cases h
  | some o =>
    obtain ⟨oc, od, dt, osl⟩ := o
    rw [q] at h
    cases oc with
    | type t =>
      cases dt with
      | cls cd =>
        obtain ⟨h1, h'⟩ := He.ba (show (decide (t = "type") && (decide (cd.mro = .ref C :: bm) && (decide (cd.hasDict = hd) && (!cd.hasDel && slB newId osl.toList)))) = true from h)
        obtain ⟨h2, h'⟩ := He.ba h'
        obtain ⟨h3, h'⟩ := He.ba h'
        obtain ⟨h4, h5⟩ := He.ba h'
        clear h q h'
        have h1 := of_decide_eq_true h1
        have h2 := of_decide_eq_true h2
        have h3 := of_decide_eq_true h3
        obtain ⟨k0, k1, k2, k3, k5, h6⟩ := slB_ok h5
        have h7 : osl = #[k0, k1, k2, k3, some (.builtin newId), k5] := Array.toList_inj.mp h6
        have h4 : cd.hasDel = false := by simpa using h4
        obtain ⟨a1, a2, a3, a4, a5, a6, a7, a8, a9, a10, a11⟩ := cd
        have h2 : a3 = .ref C :: bm := h2
        have h3 : a6 = hd := h3
        have h4 : a11 = false := h4
        rw [h1, h2, h3, h4, h7]
        exact ⟨_, _, _, _, _, _, _, _, _, _, _, _, _, _, rfl⟩
      | _ => cases h
    | _ => cases dt <;> cases h
def valC (r : Option PySem.W.CFound) (v : Value) : Bool := match r with
  | some (.val u) => decide (u = v)
  | _ => false
theorem valC_ok {r : Option PySem.W.CFound} {v : Value} (h : valC r v = true) : r = some (.val v) := by
  unfold valC at h
  split at h
  · rw [of_decide_eq_true h]
  · cases h
section
variable {K : PySem.W.Frag} {h : Heap} {mg : Str → Option Value} {C f : Addr} {x m qual : Str} {st : Stmt} {dvs : List V}
theorem dfB (X : K.In h) (G : h.Ns mainGlobals mg) (e : ∃ fd, FunD K x x (defArgs st) (defBody st) (defScope st) dvs [] f fd) (a : PySem.W.nsIn K mainGlobals x = some (some (.ref f))) : Df K mg x st dvs :=
  let ⟨fd, F⟩ := e
  ⟨f, fd, F, PySem.W.mg_of X G a⟩
theorem dmB (cl : Cls K C) (e : ∃ fd, FunD K m qual (defArgs st) (defBody st) (defScope st) [] [] f fd) (a : PySem.W.findIn K (.ref C) m = some (some (.ref f))) (i : PySem.W.isFn K (.ref f) = true) : Dm K C m qual st :=
  let ⟨fd, F⟩ := e
  ⟨f, fd, F, ⟨a, i, F.kp⟩, cl⟩
theorem diB (hC : mg x = some (.ref C)) (e : ∃ fd, FunD K "__init__" qual (defArgs st) (defBody st) (defScope st) dvs [] f fd) (a : PySem.W.findIn K (.ref C) "__init__" = some (some (.ref f))) (i : PySem.W.isFn K (.ref f) = true)
    (mk : PySem.W.makesIn K C = true) (kc : PySem.W.keepIn K (.ref C) = true) : Di K mg x C qual st dvs :=
  let ⟨fd, F⟩ := e
  ⟨f, fd, F, ⟨mk, a, i, kc⟩, hC⟩
end
end MM
namespace MM
open PySem PySem.Spec PyProof.Rows L2
/-- the text by places -/
def top (i : Nat) : Stmt := PySem.Challenge.pw_meanmoon_k82_diaries_refuse.main.body.getD i (.Pass ⟨0, 0, 0, 0⟩)
abbrev s_NoShare_init : Stmt := inClass (top 1) 0
theorem c_NoShare_init : FnScope ["self", "top"] ["self", "top"] (defScope s_NoShare_init) := ⟨rfl, rfl, rfl, by decide +kernel, rfl, by decide +kernel, by decide +kernel⟩
theorem b_NoShare_init : Bd "__init__" "NoShare.__init__" s_NoShare_init ["self", "top"] := fun _ _ _ _ _ _ us hl => match us, hl with | [_, _], _ => rfl
abbrev s_NoCalendar_init : Stmt := inClass (top 2) 0
theorem c_NoCalendar_init : FnScope ["self", "why"] ["self", "why"] (defScope s_NoCalendar_init) := ⟨rfl, rfl, rfl, by decide +kernel, rfl, by decide +kernel, by decide +kernel⟩
theorem b_NoCalendar_init : Bd "__init__" "NoCalendar.__init__" s_NoCalendar_init ["self", "why"] := fun _ _ _ _ _ _ us hl => match us, hl with | [_, _], _ => rfl
abbrev s_NoDate_init : Stmt := inClass (top 3) 0
theorem c_NoDate_init : FnScope ["self", "date", "why"] ["self", "date", "why"] (defScope s_NoDate_init) := ⟨rfl, rfl, rfl, by decide +kernel, rfl, by decide +kernel, by decide +kernel⟩
theorem b_NoDate_init : Bd "__init__" "NoDate.__init__" s_NoDate_init ["self", "date", "why"] := fun _ _ _ _ _ _ us hl => match us, hl with | [_, _, _], _ => rfl
abbrev s_NoWheel_init : Stmt := inClass (top 4) 0
theorem c_NoWheel_init : FnScope ["self", "names"] ["self", "names"] (defScope s_NoWheel_init) := ⟨rfl, rfl, rfl, by decide +kernel, rfl, by decide +kernel, by decide +kernel⟩
theorem b_NoWheel_init : Bd "__init__" "NoWheel.__init__" s_NoWheel_init ["self", "names"] := fun _ _ _ _ _ _ us hl => match us, hl with | [_, _], _ => rfl
abbrev s_NoName_init : Stmt := inClass (top 5) 0
theorem c_NoName_init : FnScope ["self", "name"] ["self", "name"] (defScope s_NoName_init) := ⟨rfl, rfl, rfl, by decide +kernel, rfl, by decide +kernel, by decide +kernel⟩
theorem b_NoName_init : Bd "__init__" "NoName.__init__" s_NoName_init ["self", "name"] := fun _ _ _ _ _ _ us hl => match us, hl with | [_, _], _ => rfl
abbrev s_NoDay_init : Stmt := inClass (top 6) 0
theorem c_NoDay_init : FnScope ["self", "one", "two"] ["self", "one", "two"] (defScope s_NoDay_init) := ⟨rfl, rfl, rfl, by decide +kernel, rfl, by decide +kernel, by decide +kernel⟩
theorem b_NoDay_init : Bd "__init__" "NoDay.__init__" s_NoDay_init ["self", "one", "two"] := fun _ _ _ _ _ _ us hl => match us, hl with | [_, _, _], _ => rfl
abbrev s_Taken_init : Stmt := inClass (top 7) 0
theorem c_Taken_init : FnScope ["self", "name"] ["self", "name"] (defScope s_Taken_init) := ⟨rfl, rfl, rfl, by decide +kernel, rfl, by decide +kernel, by decide +kernel⟩
theorem b_Taken_init : Bd "__init__" "Taken.__init__" s_Taken_init ["self", "name"] := fun _ _ _ _ _ _ us hl => match us, hl with | [_, _], _ => rfl
abbrev s_NoText_init : Stmt := inClass (top 8) 0
theorem c_NoText_init : FnScope ["self", "at"] ["self", "at"] (defScope s_NoText_init) := ⟨rfl, rfl, rfl, by decide +kernel, rfl, by decide +kernel, by decide +kernel⟩
theorem b_NoText_init : Bd "__init__" "NoText.__init__" s_NoText_init ["self", "at"] := fun _ _ _ _ _ _ us hl => match us, hl with | [_, _], _ => rfl
abbrev s_NoNote_init : Stmt := inClass (top 9) 0
theorem c_NoNote_init : FnScope ["self", "at"] ["self", "at"] (defScope s_NoNote_init) := ⟨rfl, rfl, rfl, by decide +kernel, rfl, by decide +kernel, by decide +kernel⟩
theorem b_NoNote_init : Bd "__init__" "NoNote.__init__" s_NoNote_init ["self", "at"] := fun _ _ _ _ _ _ us hl => match us, hl with | [_, _], _ => rfl
abbrev s_NoDeed_init : Stmt := inClass (top 10) 0
theorem c_NoDeed_init : FnScope ["self"] ["self"] (defScope s_NoDeed_init) := ⟨rfl, rfl, rfl, by decide +kernel, rfl, by decide +kernel, by decide +kernel⟩
theorem b_NoDeed_init : Bd "__init__" "NoDeed.__init__" s_NoDeed_init ["self"] := fun _ _ _ _ _ _ us hl => match us, hl with | [_], _ => rfl
abbrev s_numeral : Stmt := top 13
theorem c_numeral : FnScope ["number", "base", "rest", "signs"] ["number", "base"] (defScope s_numeral) := ⟨rfl, rfl, rfl, by decide +kernel, rfl, by decide +kernel, by decide +kernel⟩
abbrev s_Share_init : Stmt := inClass (top 15) 0
theorem c_Share_init : FnScope ["self", "top", "bottom", "common"] ["self", "top", "bottom"] (defScope s_Share_init) := ⟨rfl, rfl, rfl, by decide +kernel, rfl, by decide +kernel, by decide +kernel⟩
abbrev s_Share_eq : Stmt := inClass (top 15) 1
theorem c_Share_eq : FnScope ["self", "other"] ["self", "other"] (defScope s_Share_eq) := ⟨rfl, rfl, rfl, by decide +kernel, rfl, by decide +kernel, by decide +kernel⟩
theorem b_Share_eq : Bd "__eq__" "Share.__eq__" s_Share_eq ["self", "other"] := fun _ _ _ _ _ _ us hl => match us, hl with | [_, _], _ => rfl
abbrev s_Share_str : Stmt := inClass (top 15) 2
theorem c_Share_str : FnScope ["self"] ["self"] (defScope s_Share_str) := ⟨rfl, rfl, rfl, by decide +kernel, rfl, by decide +kernel, by decide +kernel⟩
theorem b_Share_str : Bd "__str__" "Share.__str__" s_Share_str ["self"] := fun _ _ _ _ _ _ us hl => match us, hl with | [_], _ => rfl
abbrev s_Share_repr : Stmt := inClass (top 15) 3
theorem c_Share_repr : FnScope ["self"] ["self"] (defScope s_Share_repr) := ⟨rfl, rfl, rfl, by decide +kernel, rfl, by decide +kernel, by decide +kernel⟩
theorem b_Share_repr : Bd "__repr__" "Share.__repr__" s_Share_repr ["self"] := fun _ _ _ _ _ _ us hl => match us, hl with | [_], _ => rfl
abbrev s_common_divisor : Stmt := top 16
theorem c_common_divisor : FnScope ["one", "two"] ["one", "two"] (defScope s_common_divisor) := ⟨rfl, rfl, rfl, by decide +kernel, rfl, by decide +kernel, by decide +kernel⟩
theorem b_common_divisor : Bd "common_divisor" "common_divisor" s_common_divisor ["one", "two"] := fun _ _ _ _ _ _ us hl => match us, hl with | [_, _], _ => rfl
abbrev s_as_share : Stmt := top 17
theorem c_as_share : FnScope ["number"] ["number"] (defScope s_as_share) := ⟨rfl, rfl, rfl, by decide +kernel, rfl, by decide +kernel, by decide +kernel⟩
theorem b_as_share : Bd "as_share" "as_share" s_as_share ["number"] := fun _ _ _ _ _ _ us hl => match us, hl with | [_], _ => rfl
abbrev s_plus : Stmt := top 18
theorem c_plus : FnScope ["one", "two", "first", "second"] ["one", "two"] (defScope s_plus) := ⟨rfl, rfl, rfl, by decide +kernel, rfl, by decide +kernel, by decide +kernel⟩
theorem b_plus : Bd "plus" "plus" s_plus ["one", "two"] := fun _ _ _ _ _ _ us hl => match us, hl with | [_, _], _ => rfl
abbrev s_minus : Stmt := top 19
theorem c_minus : FnScope ["one", "two", "first", "second"] ["one", "two"] (defScope s_minus) := ⟨rfl, rfl, rfl, by decide +kernel, rfl, by decide +kernel, by decide +kernel⟩
theorem b_minus : Bd "minus" "minus" s_minus ["one", "two"] := fun _ _ _ _ _ _ us hl => match us, hl with | [_, _], _ => rfl
abbrev s_times : Stmt := top 20
theorem c_times : FnScope ["one", "two", "first", "second"] ["one", "two"] (defScope s_times) := ⟨rfl, rfl, rfl, by decide +kernel, rfl, by decide +kernel, by decide +kernel⟩
theorem b_times : Bd "times" "times" s_times ["one", "two"] := fun _ _ _ _ _ _ us hl => match us, hl with | [_, _], _ => rfl
abbrev s_over : Stmt := top 21
theorem c_over : FnScope ["one", "two", "first", "second"] ["one", "two"] (defScope s_over) := ⟨rfl, rfl, rfl, by decide +kernel, rfl, by decide +kernel, by decide +kernel⟩
theorem b_over : Bd "over" "over" s_over ["one", "two"] := fun _ _ _ _ _ _ us hl => match us, hl with | [_, _], _ => rfl
abbrev s_before : Stmt := top 22
theorem c_before : FnScope ["one", "two", "first", "second"] ["one", "two"] (defScope s_before) := ⟨rfl, rfl, rfl, by decide +kernel, rfl, by decide +kernel, by decide +kernel⟩
theorem b_before : Bd "before" "before" s_before ["one", "two"] := fun _ _ _ _ _ _ us hl => match us, hl with | [_, _], _ => rfl
abbrev s_whole : Stmt := top 23
theorem c_whole : FnScope ["share", "number"] ["share"] (defScope s_whole) := ⟨rfl, rfl, rfl, by decide +kernel, rfl, by decide +kernel, by decide +kernel⟩
theorem b_whole : Bd "whole" "whole" s_whole ["share"] := fun _ _ _ _ _ _ us hl => match us, hl with | [_], _ => rfl
abbrev s_rounded_up : Stmt := top 24
theorem c_rounded_up : FnScope ["share", "number"] ["share"] (defScope s_rounded_up) := ⟨rfl, rfl, rfl, by decide +kernel, rfl, by decide +kernel, by decide +kernel⟩
theorem b_rounded_up : Bd "rounded_up" "rounded_up" s_rounded_up ["share"] := fun _ _ _ _ _ _ us hl => match us, hl with | [_], _ => rfl
abbrev s_Calendar_init : Stmt := inClass (top 27) 0
theorem c_Calendar_init : FnScope ["self", "month", "year", "moon", "mark"] ["self", "month", "year", "moon", "mark"] (defScope s_Calendar_init) := ⟨rfl, rfl, rfl, by decide +kernel, rfl, by decide +kernel, by decide +kernel⟩
abbrev s_Calendar_start : Stmt := inClass (top 27) 1
theorem c_Calendar_start : FnScope ["self", "k"] ["self", "k"] (defScope s_Calendar_start) := ⟨rfl, rfl, rfl, by decide +kernel, rfl, by decide +kernel, by decide +kernel⟩
theorem b_Calendar_start : Bd "start" "Calendar.start" s_Calendar_start ["self", "k"] := fun _ _ _ _ _ _ us hl => match us, hl with | [_, _], _ => rfl
abbrev s_Calendar_month_at : Stmt := inClass (top 27) 2
theorem c_Calendar_month_at : FnScope ["self", "day"] ["self", "day"] (defScope s_Calendar_month_at) := ⟨rfl, rfl, rfl, by decide +kernel, rfl, by decide +kernel, by decide +kernel⟩
theorem b_Calendar_month_at : Bd "month_at" "Calendar.month_at" s_Calendar_month_at ["self", "day"] := fun _ _ _ _ _ _ us hl => match us, hl with | [_, _], _ => rfl
abbrev s_Calendar_mark_day : Stmt := inClass (top 27) 3
theorem c_Calendar_mark_day : FnScope ["self", "j"] ["self", "j"] (defScope s_Calendar_mark_day) := ⟨rfl, rfl, rfl, by decide +kernel, rfl, by decide +kernel, by decide +kernel⟩
theorem b_Calendar_mark_day : Bd "mark_day" "Calendar.mark_day" s_Calendar_mark_day ["self", "j"] := fun _ _ _ _ _ _ us hl => match us, hl with | [_, _], _ => rfl
abbrev s_Calendar_month_with : Stmt := inClass (top 27) 4
theorem c_Calendar_month_with : FnScope ["self", "j"] ["self", "j"] (defScope s_Calendar_month_with) := ⟨rfl, rfl, rfl, by decide +kernel, rfl, by decide +kernel, by decide +kernel⟩
theorem b_Calendar_month_with : Bd "month_with" "Calendar.month_with" s_Calendar_month_with ["self", "j"] := fun _ _ _ _ _ _ us hl => match us, hl with | [_, _], _ => rfl
abbrev s_Calendar_mark_in : Stmt := inClass (top 27) 5
theorem c_Calendar_mark_in : FnScope ["self", "k", "j"] ["self", "k"] (defScope s_Calendar_mark_in) := ⟨rfl, rfl, rfl, by decide +kernel, rfl, by decide +kernel, by decide +kernel⟩
theorem b_Calendar_mark_in : Bd "mark_in" "Calendar.mark_in" s_Calendar_mark_in ["self", "k"] := fun _ _ _ _ _ _ us hl => match us, hl with | [_, _], _ => rfl
abbrev s_Calendar_name_of : Stmt := inClass (top 27) 6
theorem c_Calendar_name_of : FnScope ["self", "k", "j", "odd"] ["self", "k"] (defScope s_Calendar_name_of) := ⟨rfl, rfl, rfl, by decide +kernel, rfl, by decide +kernel, by decide +kernel⟩
theorem b_Calendar_name_of : Bd "name_of" "Calendar.name_of" s_Calendar_name_of ["self", "k"] := fun _ _ _ _ _ _ us hl => match us, hl with | [_, _], _ => rfl
abbrev s_Calendar_eq : Stmt := inClass (top 27) 7
theorem c_Calendar_eq : FnScope ["self", "other"] ["self", "other"] (defScope s_Calendar_eq) := ⟨rfl, rfl, rfl, by decide +kernel, rfl, by decide +kernel, by decide +kernel⟩
theorem b_Calendar_eq : Bd "__eq__" "Calendar.__eq__" s_Calendar_eq ["self", "other"] := fun _ _ _ _ _ _ us hl => match us, hl with | [_, _], _ => rfl
abbrev s_Calendar_str : Stmt := inClass (top 27) 8
theorem c_Calendar_str : FnScope ["self"] ["self"] (defScope s_Calendar_str) := ⟨rfl, rfl, rfl, by decide +kernel, rfl, by decide +kernel, by decide +kernel⟩
theorem b_Calendar_str : Bd "__str__" "Calendar.__str__" s_Calendar_str ["self"] := fun _ _ _ _ _ _ us hl => match us, hl with | [_], _ => rfl
abbrev s_Calendar_repr : Stmt := inClass (top 27) 9
theorem c_Calendar_repr : FnScope ["self"] ["self"] (defScope s_Calendar_repr) := ⟨rfl, rfl, rfl, by decide +kernel, rfl, by decide +kernel, by decide +kernel⟩
theorem b_Calendar_repr : Bd "__repr__" "Calendar.__repr__" s_Calendar_repr ["self"] := fun _ _ _ _ _ _ us hl => match us, hl with | [_], _ => rfl
abbrev s_refuse_unfit : Stmt := top 28
theorem c_refuse_unfit : FnScope ["month", "year"] ["month", "year"] (defScope s_refuse_unfit) := ⟨rfl, rfl, rfl, by decide +kernel, rfl, by decide +kernel, by decide +kernel⟩
theorem b_refuse_unfit : Bd "refuse_unfit" "refuse_unfit" s_refuse_unfit ["month", "year"] := fun _ _ _ _ _ _ us hl => match us, hl with | [_, _], _ => rfl
abbrev s_moment_or_nought : Stmt := top 29
theorem c_moment_or_nought : FnScope ["moment"] ["moment"] (defScope s_moment_or_nought) := ⟨rfl, rfl, rfl, by decide +kernel, rfl, by decide +kernel, by decide +kernel⟩
theorem b_moment_or_nought : Bd "moment_or_nought" "moment_or_nought" s_moment_or_nought ["moment"] := fun _ _ _ _ _ _ us hl => match us, hl with | [_], _ => rfl
abbrev s_twelfth : Stmt := top 30
theorem c_twelfth : FnScope ["year"] ["year"] (defScope s_twelfth) := ⟨rfl, rfl, rfl, by decide +kernel, rfl, by decide +kernel, by decide +kernel⟩
theorem b_twelfth : Bd "twelfth" "twelfth" s_twelfth ["year"] := fun _ _ _ _ _ _ us hl => match us, hl with | [_], _ => rfl
abbrev s_nth_day : Stmt := top 31
theorem c_nth_day : FnScope ["first", "step", "n"] ["first", "step", "n"] (defScope s_nth_day) := ⟨rfl, rfl, rfl, by decide +kernel, rfl, by decide +kernel, by decide +kernel⟩
theorem b_nth_day : Bd "nth_day" "nth_day" s_nth_day ["first", "step", "n"] := fun _ _ _ _ _ _ us hl => match us, hl with | [_, _, _], _ => rfl
abbrev s_first_from : Stmt := top 32
theorem c_first_from : FnScope ["first", "step", "day"] ["first", "step", "day"] (defScope s_first_from) := ⟨rfl, rfl, rfl, by decide +kernel, rfl, by decide +kernel, by decide +kernel⟩
theorem b_first_from : Bd "first_from" "first_from" s_first_from ["first", "step", "day"] := fun _ _ _ _ _ _ us hl => match us, hl with | [_, _, _], _ => rfl
abbrev s_kept_form : Stmt := top 33
theorem c_kept_form : FnScope ["calendar", "month", "moon", "first_moon", "mark"] ["calendar"] (defScope s_kept_form) := ⟨rfl, rfl, rfl, by decide +kernel, rfl, by decide +kernel, by decide +kernel⟩
theorem b_kept_form : Bd "kept_form" "kept_form" s_kept_form ["calendar"] := fun _ _ _ _ _ _ us hl => match us, hl with | [_], _ => rfl
abbrev s_least_alike : Stmt := top 34
theorem c_least_alike : FnScope ["first", "step"] ["first", "step"] (defScope s_least_alike) := ⟨rfl, rfl, rfl, by decide +kernel, rfl, by decide +kernel, by decide +kernel⟩
theorem b_least_alike : Bd "least_alike" "least_alike" s_least_alike ["first", "step"] := fun _ _ _ _ _ _ us hl => match us, hl with | [_, _], _ => rfl
abbrev s_days_of : Stmt := top 36
theorem c_days_of : FnScope ["calendar", "k", "many"] ["calendar", "k", "many"] (defScope s_days_of) := ⟨rfl, rfl, rfl, by decide +kernel, rfl, by decide +kernel, by decide +kernel⟩
theorem b_days_of : Bd "days_of" "days_of" s_days_of ["calendar", "k", "many"] := fun _ _ _ _ _ _ us hl => match us, hl with | [_, _, _], _ => rfl
abbrev s_Date_init : Stmt := inClass (top 38) 0
theorem c_Date_init : FnScope ["self", "year", "number", "day", "odd"] ["self", "year", "number", "day", "odd"] (defScope s_Date_init) := ⟨rfl, rfl, rfl, by decide +kernel, rfl, by decide +kernel, by decide +kernel⟩
abbrev s_Date_eq : Stmt := inClass (top 38) 1
theorem c_Date_eq : FnScope ["self", "other"] ["self", "other"] (defScope s_Date_eq) := ⟨rfl, rfl, rfl, by decide +kernel, rfl, by decide +kernel, by decide +kernel⟩
theorem b_Date_eq : Bd "__eq__" "Date.__eq__" s_Date_eq ["self", "other"] := fun _ _ _ _ _ _ us hl => match us, hl with | [_, _], _ => rfl
abbrev s_Date_str : Stmt := inClass (top 38) 2
theorem c_Date_str : FnScope ["self"] ["self"] (defScope s_Date_str) := ⟨rfl, rfl, rfl, by decide +kernel, rfl, by decide +kernel, by decide +kernel⟩
theorem b_Date_str : Bd "__str__" "Date.__str__" s_Date_str ["self"] := fun _ _ _ _ _ _ us hl => match us, hl with | [_], _ => rfl
abbrev s_Date_repr : Stmt := inClass (top 38) 3
theorem c_Date_repr : FnScope ["self"] ["self"] (defScope s_Date_repr) := ⟨rfl, rfl, rfl, by decide +kernel, rfl, by decide +kernel, by decide +kernel⟩
theorem b_Date_repr : Bd "__repr__" "Date.__repr__" s_Date_repr ["self"] := fun _ _ _ _ _ _ us hl => match us, hl with | [_], _ => rfl
abbrev s_two_figures : Stmt := top 39
theorem c_two_figures : FnScope ["number"] ["number"] (defScope s_two_figures) := ⟨rfl, rfl, rfl, by decide +kernel, rfl, by decide +kernel, by decide +kernel⟩
theorem b_two_figures : Bd "two_figures" "two_figures" s_two_figures ["number"] := fun _ _ _ _ _ _ us hl => match us, hl with | [_], _ => rfl
abbrev s_odd_sign : Stmt := top 40
theorem c_odd_sign : FnScope ["odd"] ["odd"] (defScope s_odd_sign) := ⟨rfl, rfl, rfl, by decide +kernel, rfl, by decide +kernel, by decide +kernel⟩
theorem b_odd_sign : Bd "odd_sign" "odd_sign" s_odd_sign ["odd"] := fun _ _ _ _ _ _ us hl => match us, hl with | [_], _ => rfl
abbrev s_plain_month : Stmt := top 41
theorem c_plain_month : FnScope ["calendar", "year", "number"] ["calendar", "year", "number"] (defScope s_plain_month) := ⟨rfl, rfl, rfl, by decide +kernel, rfl, by decide +kernel, by decide +kernel⟩
theorem b_plain_month : Bd "plain_month" "plain_month" s_plain_month ["calendar", "year", "number"] := fun _ _ _ _ _ _ us hl => match us, hl with | [_, _, _], _ => rfl
abbrev s_odd_month : Stmt := top 42
theorem c_odd_month : FnScope ["calendar", "year", "number", "k"] ["calendar", "year", "number"] (defScope s_odd_month) := ⟨rfl, rfl, rfl, by decide +kernel, rfl, by decide +kernel, by decide +kernel⟩
theorem b_odd_month : Bd "odd_month" "odd_month" s_odd_month ["calendar", "year", "number"] := fun _ _ _ _ _ _ us hl => match us, hl with | [_, _, _], _ => rfl
abbrev s_month_of : Stmt := top 43
theorem c_month_of : FnScope ["calendar", "date", "k"] ["calendar", "date"] (defScope s_month_of) := ⟨rfl, rfl, rfl, by decide +kernel, rfl, by decide +kernel, by decide +kernel⟩
theorem b_month_of : Bd "month_of" "month_of" s_month_of ["calendar", "date"] := fun _ _ _ _ _ _ us hl => match us, hl with | [_, _], _ => rfl
abbrev s_date_of : Stmt := top 44
theorem c_date_of : FnScope ["calendar", "day", "k", "year", "number", "odd"] ["calendar", "day"] (defScope s_date_of) := ⟨rfl, rfl, rfl, by decide +kernel, rfl, by decide +kernel, by decide +kernel⟩
theorem b_date_of : Bd "date_of" "date_of" s_date_of ["calendar", "day"] := fun _ _ _ _ _ _ us hl => match us, hl with | [_, _], _ => rfl
abbrev s_day_of : Stmt := top 45
theorem c_day_of : FnScope ["calendar", "date", "k"] ["calendar", "date"] (defScope s_day_of) := ⟨rfl, rfl, rfl, by decide +kernel, rfl, by decide +kernel, by decide +kernel⟩
theorem b_day_of : Bd "day_of" "day_of" s_day_of ["calendar", "date"] := fun _ _ _ _ _ _ us hl => match us, hl with | [_, _], _ => rfl
abbrev s_day_in : Stmt := top 46
theorem c_day_in : FnScope ["calendar", "k", "count"] ["calendar", "k", "count"] (defScope s_day_in) := ⟨rfl, rfl, rfl, by decide +kernel, rfl, by decide +kernel, by decide +kernel⟩
theorem b_day_in : Bd "day_in" "day_in" s_day_in ["calendar", "k", "count"] := fun _ _ _ _ _ _ us hl => match us, hl with | [_, _, _], _ => rfl
abbrev s_number_in : Stmt := top 48
theorem c_number_in : FnScope ["text", "base", "number", "sign"] ["text", "base"] (defScope s_number_in) := ⟨rfl, rfl, rfl, by decide +kernel, rfl, by decide +kernel, by decide +kernel⟩
abbrev s_read_date : Stmt := top 49
theorem c_read_date : FnScope ["text", "rest", "dash", "day", "year", "month", "number", "date"] ["text"] (defScope s_read_date) := ⟨rfl, rfl, rfl, by decide +kernel, rfl, by decide +kernel, by decide +kernel⟩
theorem b_read_date : Bd "read_date" "read_date" s_read_date ["text"] := fun _ _ _ _ _ _ us hl => match us, hl with | [_], _ => rfl
abbrev s_year_with : Stmt := top 51
theorem c_year_with : FnScope ["calendar", "day"] ["calendar", "day"] (defScope s_year_with) := ⟨rfl, rfl, rfl, by decide +kernel, rfl, by decide +kernel, by decide +kernel⟩
theorem b_year_with : Bd "year_with" "year_with" s_year_with ["calendar", "day"] := fun _ _ _ _ _ _ us hl => match us, hl with | [_, _], _ => rfl
abbrev s_Diary_init : Stmt := inClass (top 53) 0
theorem c_Diary_init : FnScope ["self", "calendar"] ["self", "calendar"] (defScope s_Diary_init) := ⟨rfl, rfl, rfl, by decide +kernel, rfl, by decide +kernel, by decide +kernel⟩
theorem b_Diary_init : Bd "__init__" "Diary.__init__" s_Diary_init ["self", "calendar"] := fun _ _ _ _ _ _ us hl => match us, hl with | [_, _], _ => rfl
abbrev s_Diary_note : Stmt := inClass (top 53) 1
theorem c_Diary_note : FnScope ["self", "date", "text", "day"] ["self", "date", "text"] (defScope s_Diary_note) := ⟨rfl, rfl, rfl, by decide +kernel, rfl, by decide +kernel, by decide +kernel⟩
theorem b_Diary_note : Bd "note" "Diary.note" s_Diary_note ["self", "date", "text"] := fun _ _ _ _ _ _ us hl => match us, hl with | [_, _, _], _ => rfl
abbrev s_Diary_strike : Stmt := inClass (top 53) 2
theorem c_Diary_strike : FnScope ["self", "date", "at", "day", "texts"] ["self", "date", "at"] (defScope s_Diary_strike) := ⟨rfl, rfl, rfl, by decide +kernel, rfl, by decide +kernel, by decide +kernel⟩
theorem b_Diary_strike : Bd "strike" "Diary.strike" s_Diary_strike ["self", "date", "at"] := fun _ _ _ _ _ _ us hl => match us, hl with | [_, _, _], _ => rfl
abbrev s_Diary_moved : Stmt := inClass (top 53) 3
theorem c_Diary_moved : FnScope ["self", "date", "other", "day", "target", "texts"] ["self", "date", "other"] (defScope s_Diary_moved) := ⟨rfl, rfl, rfl, by decide +kernel, rfl, by decide +kernel, by decide +kernel⟩
theorem b_Diary_moved : Bd "moved" "Diary.moved" s_Diary_moved ["self", "date", "other"] := fun _ _ _ _ _ _ us hl => match us, hl with | [_, _, _], _ => rfl
abbrev s_Diary_undo : Stmt := inClass (top 53) 4
theorem c_Diary_undo : FnScope ["self", "deed", "day", "texts"] ["self"] (defScope s_Diary_undo) := ⟨rfl, rfl, rfl, by decide +kernel, rfl, by decide +kernel, by decide +kernel⟩
theorem b_Diary_undo : Bd "undo" "Diary.undo" s_Diary_undo ["self"] := fun _ _ _ _ _ _ us hl => match us, hl with | [_], _ => rfl
abbrev s_Diary_notes_on : Stmt := inClass (top 53) 5
theorem c_Diary_notes_on : FnScope ["self", "date"] ["self", "date"] (defScope s_Diary_notes_on) := ⟨rfl, rfl, rfl, by decide +kernel, rfl, by decide +kernel, by decide +kernel⟩
theorem b_Diary_notes_on : Bd "notes_on" "Diary.notes_on" s_Diary_notes_on ["self", "date"] := fun _ _ _ _ _ _ us hl => match us, hl with | [_, _], _ => rfl
abbrev s_Diary_noted : Stmt := inClass (top 53) 6
theorem c_Diary_noted : FnScope ["self", "year", "days", "counted", "day", "many"] ["self", "year"] (defScope s_Diary_noted) := ⟨rfl, rfl, rfl, by decide +kernel, rfl, by decide +kernel, by decide +kernel⟩
theorem b_Diary_noted : Bd "noted" "Diary.noted" s_Diary_noted ["self", "year"] := fun _ _ _ _ _ _ us hl => match us, hl with | [_, _], _ => rfl
abbrev s_Diary_in_all : Stmt := inClass (top 53) 7
theorem c_Diary_in_all : FnScope ["self", "texts"] ["self"] (defScope s_Diary_in_all) := ⟨rfl, rfl, rfl, by decide +kernel, rfl, by decide +kernel, by decide +kernel⟩
theorem b_Diary_in_all : Bd "in_all" "Diary.in_all" s_Diary_in_all ["self"] := fun _ _ _ _ _ _ us hl => match us, hl with | [_], _ => rfl
abbrev s_Diary_day_written : Stmt := inClass (top 53) 8
theorem c_Diary_day_written : FnScope ["self", "date"] ["self", "date"] (defScope s_Diary_day_written) := ⟨rfl, rfl, rfl, by decide +kernel, rfl, by decide +kernel, by decide +kernel⟩
theorem b_Diary_day_written : Bd "day_written" "Diary.day_written" s_Diary_day_written ["self", "date"] := fun _ _ _ _ _ _ us hl => match us, hl with | [_, _], _ => rfl
abbrev s_Diary_texts_of : Stmt := inClass (top 53) 9
theorem c_Diary_texts_of : FnScope ["self", "day"] ["self", "day"] (defScope s_Diary_texts_of) := ⟨rfl, rfl, rfl, by decide +kernel, rfl, by decide +kernel, by decide +kernel⟩
theorem b_Diary_texts_of : Bd "texts_of" "Diary.texts_of" s_Diary_texts_of ["self", "day"] := fun _ _ _ _ _ _ us hl => match us, hl with | [_, _], _ => rfl
abbrev s_Diary_remember : Stmt := inClass (top 53) 10
theorem c_Diary_remember : FnScope ["self", "days", "day"] ["self", "days"] (defScope s_Diary_remember) := ⟨rfl, rfl, rfl, by decide +kernel, rfl, by decide +kernel, by decide +kernel⟩
theorem b_Diary_remember : Bd "remember" "Diary.remember" s_Diary_remember ["self", "days"] := fun _ _ _ _ _ _ us hl => match us, hl with | [_, _], _ => rfl
abbrev s_l_draws : Stmt := top 55
theorem c_l_draws : FnScope ["_law_cell", "_law_cut", "_law_k"] ["_law_cell"] (defScope s_l_draws) := ⟨rfl, rfl, rfl, by decide +kernel, rfl, by decide +kernel, by decide +kernel⟩
theorem b_l_draws : Bd "_law_draws" "_law_draws" s_l_draws ["_law_cell"] := fun _ _ _ _ _ _ us hl => match us, hl with | [_], _ => rfl
abbrev s_l_next : Stmt := top 56
theorem c_l_next : FnScope ["_law_draws_here", "_law_k", "_law_number"] ["_law_draws_here"] (defScope s_l_next) := ⟨rfl, rfl, rfl, by decide +kernel, rfl, by decide +kernel, by decide +kernel⟩
theorem b_l_next : Bd "_law_next" "_law_next" s_l_next ["_law_draws_here"] := fun _ _ _ _ _ _ us hl => match us, hl with | [_], _ => rfl
abbrev s_l_low : Stmt := top 57
theorem c_l_low : FnScope ["_law_top", "_law_bottom", "_law_one", "_law_two"] ["_law_top", "_law_bottom"] (defScope s_l_low) := ⟨rfl, rfl, rfl, by decide +kernel, rfl, by decide +kernel, by decide +kernel⟩
theorem b_l_low : Bd "_law_low" "_law_low" s_l_low ["_law_top", "_law_bottom"] := fun _ _ _ _ _ _ us hl => match us, hl with | [_, _], _ => rfl
abbrev s_l_plus : Stmt := top 58
theorem c_l_plus : FnScope ["_law_one", "_law_two"] ["_law_one", "_law_two"] (defScope s_l_plus) := ⟨rfl, rfl, rfl, by decide +kernel, rfl, by decide +kernel, by decide +kernel⟩
theorem b_l_plus : Bd "_law_plus" "_law_plus" s_l_plus ["_law_one", "_law_two"] := fun _ _ _ _ _ _ us hl => match us, hl with | [_, _], _ => rfl
abbrev s_l_by : Stmt := top 59
theorem c_l_by : FnScope ["_law_one", "_law_two"] ["_law_one", "_law_two"] (defScope s_l_by) := ⟨rfl, rfl, rfl, by decide +kernel, rfl, by decide +kernel, by decide +kernel⟩
theorem b_l_by : Bd "_law_by" "_law_by" s_l_by ["_law_one", "_law_two"] := fun _ _ _ _ _ _ us hl => match us, hl with | [_, _], _ => rfl
abbrev s_l_part : Stmt := top 60
theorem c_l_part : FnScope ["_law_draws_here", "_law_pick", "_law_bottom"] ["_law_draws_here"] (defScope s_l_part) := ⟨rfl, rfl, rfl, by decide +kernel, rfl, by decide +kernel, by decide +kernel⟩
theorem b_l_part : Bd "_law_part" "_law_part" s_l_part ["_law_draws_here"] := fun _ _ _ _ _ _ us hl => match us, hl with | [_], _ => rfl
abbrev s_l_moment : Stmt := top 61
theorem c_l_moment : FnScope ["_law_draws_here", "_law_part_here", "_law_pick", "_law_far"] ["_law_draws_here"] (defScope s_l_moment) := ⟨rfl, rfl, rfl, by decide +kernel, rfl, by decide +kernel, by decide +kernel⟩
theorem b_l_moment : Bd "_law_moment" "_law_moment" s_l_moment ["_law_draws_here"] := fun _ _ _ _ _ _ us hl => match us, hl with | [_], _ => rfl
abbrev s_l_four : Stmt := top 62
theorem c_l_four : FnScope ["_law_draws_here", "_law_pick", "_law_told", "_law_a_month", "_law_a_year", "_law_w", "_law_s", "_law_r"] ["_law_draws_here"] (defScope s_l_four) := ⟨rfl, rfl, rfl, by decide +kernel, rfl, by decide +kernel, by decide +kernel⟩
theorem b_l_four : Bd "_law_four" "_law_four" s_l_four ["_law_draws_here"] := fun _ _ _ _ _ _ us hl => match us, hl with | [_], _ => rfl
abbrev s_l_floor : Stmt := top 63
theorem c_l_floor : FnScope ["_law_fraction"] ["_law_fraction"] (defScope s_l_floor) := ⟨rfl, rfl, rfl, by decide +kernel, rfl, by decide +kernel, by decide +kernel⟩
theorem b_l_floor : Bd "_law_floor" "_law_floor" s_l_floor ["_law_fraction"] := fun _ _ _ _ _ _ us hl => match us, hl with | [_], _ => rfl
abbrev s_l_start : Stmt := top 64
theorem c_l_start : FnScope ["_law_four_here", "_law_k"] ["_law_four_here", "_law_k"] (defScope s_l_start) := ⟨rfl, rfl, rfl, by decide +kernel, rfl, by decide +kernel, by decide +kernel⟩
theorem b_l_start : Bd "_law_start" "_law_start" s_l_start ["_law_four_here", "_law_k"] := fun _ _ _ _ _ _ us hl => match us, hl with | [_, _], _ => rfl
abbrev s_l_mark_day : Stmt := top 65
theorem c_l_mark_day : FnScope ["_law_four_here", "_law_j"] ["_law_four_here", "_law_j"] (defScope s_l_mark_day) := ⟨rfl, rfl, rfl, by decide +kernel, rfl, by decide +kernel, by decide +kernel⟩
theorem b_l_mark_day : Bd "_law_mark_day" "_law_mark_day" s_l_mark_day ["_law_four_here", "_law_j"] := fun _ _ _ _ _ _ us hl => match us, hl with | [_, _], _ => rfl
abbrev s_l_month_at : Stmt := top 66
theorem c_l_month_at : FnScope ["_law_four_here", "_law_day", "_law_left", "_law_k"] ["_law_four_here", "_law_day"] (defScope s_l_month_at) := ⟨rfl, rfl, rfl, by decide +kernel, rfl, by decide +kernel, by decide +kernel⟩
theorem b_l_month_at : Bd "_law_month_at" "_law_month_at" s_l_month_at ["_law_four_here", "_law_day"] := fun _ _ _ _ _ _ us hl => match us, hl with | [_, _], _ => rfl
abbrev s_l_mark_in : Stmt := top 67
theorem c_l_mark_in : FnScope ["_law_four_here", "_law_k", "_law_first", "_law_left", "_law_j"] ["_law_four_here", "_law_k"] (defScope s_l_mark_in) := ⟨rfl, rfl, rfl, by decide +kernel, rfl, by decide +kernel, by decide +kernel⟩
theorem b_l_mark_in : Bd "_law_mark_in" "_law_mark_in" s_l_mark_in ["_law_four_here", "_law_k"] := fun _ _ _ _ _ _ us hl => match us, hl with | [_, _], _ => rfl
abbrev s_l_name : Stmt := top 68
theorem c_l_name : FnScope ["_law_four_here", "_law_k", "_law_j"] ["_law_four_here", "_law_k"] (defScope s_l_name) := ⟨rfl, rfl, rfl, by decide +kernel, rfl, by decide +kernel, by decide +kernel⟩
theorem b_l_name : Bd "_law_name" "_law_name" s_l_name ["_law_four_here", "_law_k"] := fun _ _ _ _ _ _ us hl => match us, hl with | [_, _], _ => rfl
abbrev s_l_date : Stmt := top 69
theorem c_l_date : FnScope ["_law_four_here", "_law_day", "_law_k", "_law_a_year", "_law_number", "_law_odd"] ["_law_four_here", "_law_day"] (defScope s_l_date) := ⟨rfl, rfl, rfl, by decide +kernel, rfl, by decide +kernel, by decide +kernel⟩
theorem b_l_date : Bd "_law_date" "_law_date" s_l_date ["_law_four_here", "_law_day"] := fun _ _ _ _ _ _ us hl => match us, hl with | [_, _], _ => rfl
abbrev s_l_cal : Stmt := top 70
theorem c_l_cal : FnScope ["_law_draws_here", "_law_four_here", "_law_parts", "_law_one"] ["_law_draws_here", "_law_four_here"] (defScope s_l_cal) := ⟨rfl, rfl, rfl, by decide +kernel, rfl, by decide +kernel, by decide +kernel⟩
theorem b_l_cal : Bd "_law_cal" "_law_cal" s_l_cal ["_law_draws_here", "_law_four_here"] := fun _ _ _ _ _ _ us hl => match us, hl with | [_, _], _ => rfl
abbrev s_l_month_with : Stmt := top 71
theorem c_l_month_with : FnScope ["_law_four_here", "_law_j"] ["_law_four_here", "_law_j"] (defScope s_l_month_with) := ⟨rfl, rfl, rfl, by decide +kernel, rfl, by decide +kernel, by decide +kernel⟩
theorem b_l_month_with : Bd "_law_month_with" "_law_month_with" s_l_month_with ["_law_four_here", "_law_j"] := fun _ _ _ _ _ _ us hl => match us, hl with | [_, _], _ => rfl
abbrev s_l_long : Stmt := top 72
theorem c_l_long : FnScope ["_law_four_here", "_law_k"] ["_law_four_here", "_law_k"] (defScope s_l_long) := ⟨rfl, rfl, rfl, by decide +kernel, rfl, by decide +kernel, by decide +kernel⟩
theorem b_l_long : Bd "_law_long" "_law_long" s_l_long ["_law_four_here", "_law_k"] := fun _ _ _ _ _ _ us hl => match us, hl with | [_, _], _ => rfl
abbrev s_l_kinds : Stmt := top 73
theorem c_l_kinds : FnScope ["_law_kept", "_law_told"] ["_law_kept"] (defScope s_l_kinds) := ⟨rfl, rfl, rfl, by decide +kernel, rfl, by decide +kernel, by decide +kernel⟩
theorem b_l_kinds : Bd "_law_kinds" "_law_kinds" s_l_kinds ["_law_kept"] := fun _ _ _ _ _ _ us hl => match us, hl with | [_], _ => rfl
abbrev s_l_date_text : Stmt := top 74
theorem c_l_date_text : FnScope ["_law_four_here", "_law_day", "_law_a_year", "_law_number", "_law_at", "_law_odd", "_law_words"] ["_law_four_here", "_law_day"] (defScope s_l_date_text) := ⟨rfl, rfl, rfl, by decide +kernel, rfl, by decide +kernel, by decide +kernel⟩
theorem b_l_date_text : Bd "_law_date_text" "_law_date_text" s_l_date_text ["_law_four_here", "_law_day"] := fun _ _ _ _ _ _ us hl => match us, hl with | [_, _], _ => rfl
abbrev s_l_text : Stmt := top 75
theorem c_l_text : FnScope ["_law_fields", "_law_a_year", "_law_number", "_law_day", "_law_odd", "_law_words"] ["_law_fields"] (defScope s_l_text) := ⟨rfl, rfl, rfl, by decide +kernel, rfl, by decide +kernel, by decide +kernel⟩
theorem b_l_text : Bd "_law_text" "_law_text" s_l_text ["_law_fields"] := fun _ _ _ _ _ _ us hl => match us, hl with | [_], _ => rfl
abbrev s_l_why : Stmt := top 76
theorem c_l_why : FnScope ["_law_four_here", "_law_fields", "_law_a_year", "_law_number", "_law_day", "_law_odd", "_law_k"] ["_law_four_here", "_law_fields"] (defScope s_l_why) := ⟨rfl, rfl, rfl, by decide +kernel, rfl, by decide +kernel, by decide +kernel⟩
theorem b_l_why : Bd "_law_why" "_law_why" s_l_why ["_law_four_here", "_law_fields"] := fun _ _ _ _ _ _ us hl => match us, hl with | [_, _], _ => rfl
abbrev s_l_drawn : Stmt := top 77
theorem c_l_drawn : FnScope ["_law_four_here", "_law_first", "_law_draws_here", "_law_pick", "_law_bad", "_law_a_year", "_law_number", "_law_day", "_law_odd", "_law_more"] ["_law_four_here", "_law_first", "_law_draws_here"] (defScope s_l_drawn) := ⟨rfl, rfl, rfl, by decide +kernel, rfl, by decide +kernel, by decide +kernel⟩
theorem b_l_drawn : Bd "_law_drawn" "_law_drawn" s_l_drawn ["_law_four_here", "_law_first", "_law_draws_here"] := fun _ _ _ _ _ _ us hl => match us, hl with | [_, _, _], _ => rfl
abbrev s_l_due : Stmt := top 78
theorem c_l_due : FnScope ["_law_four_here", "_law_drawn_here", "_law_text_here", "_law_word", "_law_fields", "_law_why_here"] ["_law_four_here", "_law_drawn_here"] (defScope s_l_due) := ⟨rfl, rfl, rfl, by decide +kernel, rfl, by decide +kernel, by decide +kernel⟩
theorem b_l_due : Bd "_law_due" "_law_due" s_l_due ["_law_four_here", "_law_drawn_here"] := fun _ _ _ _ _ _ us hl => match us, hl with | [_, _], _ => rfl
abbrev s_l_ask : Stmt := top 79
theorem c_l_ask : FnScope ["_law_diary", "_law_way", "_law_text_here", "_law_other", "_law_at"] ["_law_diary", "_law_way", "_law_text_here", "_law_other", "_law_at"] (defScope s_l_ask) := ⟨rfl, rfl, rfl, by decide +kernel, rfl, by decide +kernel, by decide +kernel⟩
theorem b_l_ask : Bd "_law_ask" "_law_ask" s_l_ask ["_law_diary", "_law_way", "_law_text_here", "_law_other", "_law_at"] := fun _ _ _ _ _ _ us hl => match us, hl with | [_, _, _, _, _], _ => rfl
abbrev s_l_asked : Stmt := top 80
theorem c_l_asked : FnScope ["_law_diary", "_law_way", "_law_text_here", "_law_other", "_law_at", "_law_kept", "e", "_law_sorts"] ["_law_diary", "_law_way", "_law_text_here", "_law_other", "_law_at"] (defScope s_l_asked) := ⟨rfl, rfl, rfl, by decide +kernel, rfl, by decide +kernel, by decide +kernel⟩
theorem b_l_asked : Bd "_law_asked" "_law_asked" s_l_asked ["_law_diary", "_law_way", "_law_text_here", "_law_other", "_law_at"] := fun _ _ _ _ _ _ us hl => match us, hl with | [_, _, _, _, _], _ => rfl
abbrev s_l_looks : Stmt := top 81
theorem c_l_looks : FnScope ["_law_diary", "_law_four_here", "_law_first", "_law_years", "_law_told", "_law_k", "_law_a_year"] ["_law_diary", "_law_four_here", "_law_first"] (defScope s_l_looks) := ⟨rfl, rfl, rfl, by decide +kernel, rfl, by decide +kernel, by decide +kernel⟩
theorem b_l_looks : Bd "_law_looks" "_law_looks" s_l_looks ["_law_diary", "_law_four_here", "_law_first"] := fun _ _ _ _ _ _ us hl => match us, hl with | [_, _, _], _ => rfl
abbrev s_l_fault : Stmt := top 82
theorem c_l_fault : FnScope ["_law_diary", "_law_four_here", "_law_first", "_law_draws_here", "_law_drawn_here", "_law_way", "_law_due_here", "_law_at", "_law_other", "_law_beside", "_law_dues"] ["_law_diary", "_law_four_here", "_law_first", "_law_draws_here"] (defScope s_l_fault) := ⟨rfl, rfl, rfl, by decide +kernel, rfl, by decide +kernel, by decide +kernel⟩
theorem b_l_fault : Bd "_law_fault" "_law_fault" s_l_fault ["_law_diary", "_law_four_here", "_law_first", "_law_draws_here"] := fun _ _ _ _ _ _ us hl => match us, hl with | [_, _, _, _], _ => rfl
abbrev s_l_right : Stmt := top 83
theorem c_l_right : FnScope ["_law_draws_here", "_law_four_here", "_law_diary", "_law_pick", "_law_first", "_law_looks_here", "_law_k"] ["_law_draws_here"] (defScope s_l_right) := ⟨rfl, rfl, rfl, by decide +kernel, rfl, by decide +kernel, by decide +kernel⟩
theorem b_l_right : Bd "_law_right" "_law_right" s_l_right ["_law_draws_here"] := fun _ _ _ _ _ _ us hl => match us, hl with | [_], _ => rfl
abbrev s_law : Stmt := top 84
theorem c_law : FnScope ["_law_script", "_law_cell"] ["_law_script"] (defScope s_law) := ⟨rfl, rfl, rfl, by decide +kernel, rfl, by decide +kernel, by decide +kernel⟩
theorem b_law : Bd "law" "law" s_law ["_law_script"] := fun _ _ _ _ _ _ us hl => match us, hl with | [_], _ => rfl
/-! ### the greatest common divisor -/
def spGcd : Sp := fun vs H Q _ => ∃ a b : Int, vs = [.int a, .int b] ∧ Q (.int (Int.gcd a b)) H
def mu2 (i : Nat) : L2.St → Hp → Nat := fun σ _ => match σ[i]? with
  | some (some (.int b)) => b.natAbs
  | _ => 0
theorem abs_gcd {a : Int} (c : Int) (h : Int.gcd a 0 = c) : (if a < 0 then -a else a) = c := by
  rw [Int.gcd_zero_right] at h
  split <;> omega
section
variable {P : Program} {w : World} {K : PySem.W.Frag} {mg : Str → Option Value} {base : Heap}
theorem ok_gcd (D : Df K mg "common_divisor" s_common_divisor []) (hab : mg "abs" = none) : Ca P w K mg base CX0 1 "common_divisor" s_common_divisor [] ["one", "two"] spGcd := by
  refine ca0 (k := 0) D c_common_divisor (fun vs H Q E h => ?_) fun f cdv A outer s H vs Q E hr h => ?_
  · obtain ⟨a, b, rfl, _⟩ := h
    rfl
  · obtain ⟨a, b, rfl, q⟩ := h
    refine ⟨_, pss_cons (ps_while PassesOwn.never (pt_cmpR op_ne (pv 1) pe_int (nomark _)) (pss_one (ps_par (i := 0) (j := 1) rfl c_common_divisor.nd rfl rfl (by decide) rfl rfl (pa_cons (pv 1) (pa_cons (pe_op op_modN (pv 0) (pv 1)) pa_nil)) rfl)))
      (pss_one (ps_ret (pe_callB call_abs rfl hab (by decide +kernel) (pa_cons (pv 0) pa_nil)))), ?_⟩
    refine while_by (fun σ H' => ∃ a' b' : Int, σ = [some (.int a'), some (.int b')] ∧ Int.gcd a' b' = Int.gcd a b ∧ H' = H) (mu2 1) ⟨a, b, rfl, rfl, rfl⟩ ?_ (fun σ H' R R' hq ⟨v, h1, h2, k, h3, h4⟩ => ⟨v, h1, h2, k, h3, hq _ _ h4⟩)
    rintro σ H' ⟨a', b', rfl, hg, rfl⟩
    refine ⟨_, rfl, rfl, _, rfl, ?_⟩
    by_cases hb : b' = 0
    · subst hb
      refine iteF ?_
      refine ⟨_, rfl, a', rfl, ?_⟩
      rw [abs_gcd _ (congrArg _ hg)]
      exact q
    · rw [show (!decide (V.int b' = V.int 0)) = true by simpa using hb]
      refine iteT ?_
      refine ⟨_, rfl, _, rfl, _, rfl, _, _, rfl, rfl, hb, _, _, rfl, ⟨b', a'.fmod b', rfl, ?_, rfl⟩, ?_⟩
      · rw [gcd_fmod]
        exact hg
      · exact fmod_lt a' hb
end
/-! ### lowest terms, as the law makes them -/
def spLow : Sp := fun vs H Q _ => ∃ t b : Int, vs = [.int t, .int b] ∧ b ≠ 0 ∧ Sz 8800 t ∧ Sz 8800 b ∧ ∀ p, H p = none → Q (.ref p) (upd H p (.tup [.int (Rat.divInt t b).num, .int (Rat.divInt t b).den]))
theorem gcd_sz {t b : Int} (h : b ≠ 0) (hb : Sz 8800 b) : Sz 8800 (Int.gcd t b : Int) := by
  unfold Sz
  rw [Int.natAbs_natCast]
  exact Nat.lt_of_le_of_lt (Nat.le_of_dvd (by omega) (Int.gcd_dvd_natAbs_right t b)) hb
theorem gs_sz {t b : Int} (h : b ≠ 0) (hb : Sz 8800 b) : Sz 8900 (gs t b) := by
  unfold gs
  split
  · exact (gcd_sz h hb).neg.mono (by decide)
  · exact (gcd_sz h hb).mono (by decide)
section
variable {P : Program} {w : World} {K : PySem.W.Frag} {mg : Str → Option Value} {base : Heap}
theorem ok_low (D : Df K mg "_law_low" s_l_low []) (hab : mg "abs" = none) : Ca P w K mg base CX0 1 "_law_low" s_l_low [] ["_law_top", "_law_bottom"] spLow := by
  refine ca0 (k := 0) D c_l_low (fun vs H Q E h => ?_) fun f cdv A outer s H vs Q E hr h => ?_
  · obtain ⟨t, b, rfl, _⟩ := h
    rfl
  · obtain ⟨t, b, rfl, hb, zt, zb, q⟩ := h
    refine ⟨_, pss_cons (ps_par (i := 2) (j := 3) rfl c_l_low.nd rfl rfl (by decide) rfl rfl (pa_cons (pe_callB call_abs rfl hab (by decide +kernel) (pa_cons (pv 0) pa_nil)) (pa_cons (pe_callB call_abs rfl hab (by decide +kernel) (pa_cons (pv 1) pa_nil)) pa_nil)) rfl)
      (pss_cons (ps_while PassesOwn.never (pt_cmpR op_gt (pv 3) pe_int (nomark _)) (pss_one (ps_par (i := 2) (j := 3) rfl c_l_low.nd rfl rfl (by decide) rfl rfl (pa_cons (pv 3) (pa_cons (pe_op op_mod (pv 2) (pv 3)) pa_nil)) rfl)))
      (pss_cons (ps_if (pt_cmpR op_lt (pv 1) pe_int (nomark _)) (pss_one (ps_set (i := 2) c_l_low.nd rfl (.inl rfl) (pe_op op_sub pe_int (pv 2)))) pss_nil)
      (pss_one (ps_ret (pe_tup (pa_cons (pe_op op_fdivA (pv 0) (pv 2)) (pa_cons (pe_op op_fdivA (pv 1) (pv 2)) pa_nil))))))), ?_⟩
    refine ⟨_, rfl, t, rfl, _, rfl, b, rfl, _, _, rfl, ?_⟩
    refine while_by (fun σ H' => ∃ c d : Int, σ = [some (.int t), some (.int b), some (.int c), some (.int d)] ∧ 0 ≤ c ∧ 0 ≤ d ∧ Int.gcd c d = Int.gcd t b ∧ H' = H) (mu2 3) ⟨_, _, rfl, ?_, ?_, ?_, rfl⟩ ?_ (fun σ H' R R' hq ⟨v, h1, i, j, h2, h3, k, h4, h5⟩ => ⟨v, h1, i, j, h2, h3, k, h4, hq _ _ h5⟩)
    · split <;> omega
    · split <;> omega
    · have e : ∀ x : Int, (if x < 0 then -x else x) = (x.natAbs : Int) := fun x => by split <;> omega
      rw [e, e]
      show Nat.gcd _ _ = Nat.gcd _ _
      rw [Int.natAbs_natCast, Int.natAbs_natCast]
    rintro σ H' ⟨c, d, rfl, hc, hd, hg, rfl⟩
    refine ⟨_, rfl, _, _, rfl, rfl, _, rfl, ?_⟩
    by_cases h0 : 0 < d
    · rw [decide_eq_true h0]
      refine iteT ?_
      refine ⟨_, rfl, _, rfl, _, rfl, _, _, rfl, rfl, h0, _, _, rfl, ⟨d, c % d, rfl, hd, Int.emod_nonneg _ (by omega), ?_, rfl⟩, ?_⟩
      · rw [gcd_emod']
        exact hg
      · have h1 := Int.emod_nonneg c (show d ≠ 0 by omega)
        have h2 := Int.emod_lt_of_pos c h0
        show (c % d).natAbs < d.natAbs
        omega
    · rw [decide_eq_false h0]
      refine iteF ?_
      have d0 : d = 0 := by omega
      subst d0
      have ec : c = (Int.gcd t b : Int) := by
        rw [← hg, Int.gcd_zero_right]
        omega
      subst ec
      have fin : ∀ σ' : L2.St, σ' = [some (.int t), some (.int b), some (.int (gs t b)), some (.int 0)] → (tRet (tTup (tCons (tOp (rI CDivA fun i j => .int (i.fdiv j)) (tVar 0) (tVar 2)) (tCons (tOp (rI CDivA fun i j => .int (i.fdiv j)) (tVar 1) (tVar 2)) tNil)))) { nx := fun _ H' => Q .non H', rt := Q } σ' H' := by
        rintro σ' rfl
        refine ⟨_, rfl, _, rfl, _, _, rfl, rfl, ⟨gs_ne hb, gs_sz hb zb⟩, _, rfl, _, rfl, _, _, rfl, rfl, ⟨gs_ne hb, gs_sz hb zb⟩, (by show 2 ≤ sizeLine; decide), fun p hp => ?_⟩
        have z := q p hp
        rw [← low_num hb, ← low_den hb] at z
        exact z
      refine ⟨_, rfl, _, _, rfl, rfl, _, rfl, ?_⟩
      by_cases hn : b < 0
      · rw [decide_eq_true hn]
        refine iteT ?_
        refine ⟨_, rfl, _, _, rfl, rfl, fin _ ?_⟩
        show [some (V.int t), some (V.int b), some (V.int (0 - (Int.gcd t b : Int))), some (V.int 0)] = _
        unfold gs
        rw [if_pos hn, Int.zero_sub]
      · rw [decide_eq_false hn]
        refine iteF (fin _ ?_)
        unfold gs
        rw [if_neg hn]
end
/-! ### the law's draws -/
theorem md {j : Int} (h : 0 < j := by decide) : 0 < j := h
/-- at l stand draws, of which at most n were taken -/
def Dr (H : Hp) (l : Addr) (n : Nat) : Prop := ∃ (d k : Int) (f : Bool), H l = some (.lst [.int d, .int k, .bl f]) ∧ 0 ≤ k ∧ k ≤ n
/-- all but what stands at l is as it was -/
def But (l : Addr) (H H' : Hp) : Prop := ∀ b o, b ≠ l → H b = some o → H' b = some o
theorem But.refl {l : Addr} {H : Hp} : But l H H := fun _ _ _ h => h
theorem But.trans {l : Addr} {H H1 H2 : Hp} (a : But l H H1) (b : But l H1 H2) : But l H H2 := fun c o hc h => b c o hc (a c o hc h)
theorem But.same {l : Addr} {H H1 : Hp} (a : Same H H1) : But l H H1 := fun c o _ h => a c o h
theorem But.upd {l : Addr} {H H1 : Hp} {p : Addr} {o : HO} (a : But l H H1) (h : H1 p = none) : But l H (upd H1 p o) := fun c u hc e => by
  rw [upd_ne (ne_of_none (a c u hc e) h)]
  exact a c u hc e
theorem But.tup {l p : Addr} {H H1 : Hp} {n : Nat} {xs : List V} (a : But l H H1) (d : Dr H l n) (h : H p = some (.tup xs)) : H1 p = some (.tup xs) := by
  obtain ⟨_, _, _, hl, _⟩ := d
  exact a _ _ (ne_of h hl (by intro z; cases z)) h
theorem But.ins {l p C dx : Addr} {H H1 : Hp} {n : Nat} {fs : List (Str × V)} (a : But l H H1) (d : Dr H l n) (h : H p = some (.ins C dx fs)) : H1 p = some (.ins C dx fs) := by
  obtain ⟨_, _, _, hl, _⟩ := d
  exact a _ _ (ne_of h hl (by intro z; cases z)) h
theorem Same.upd {H H1 : Hp} {p : Addr} {o : HO} (a : Same H H1) (h : H1 p = none) : Same H (upd H1 p o) := fun c u e => by
  rw [upd_ne (ne_of_none (a c u e) h)]
  exact a c u e
theorem Same.new {H : Hp} {p : Addr} {o : HO} (h : H p = none) : Same H (L2.upd H p o) := Same.upd (Same.refl H) h
theorem Dr.same {H H1 : Hp} {l : Addr} {n m : Nat} (d : Dr H l n) (s : Same H H1) (h : n ≤ m) : Dr H1 l m := by
  obtain ⟨d, k, f, hl, h1, h2⟩ := d
  exact ⟨d, k, f, s _ _ hl, h1, by omega⟩
theorem Dr.mono {H : Hp} {l : Addr} {n m : Nat} (d : Dr H l n) (h : n ≤ m) : Dr H l m := d.same (Same.refl H) h
theorem Dr.new {H : Hp} {l p : Addr} {n : Nat} {o : HO} (d : Dr H l n) (h : H p = none) : Dr (L2.upd H p o) l n := d.same (Same.new h) (Nat.le_refl _)
def spDraws : Sp := fun vs H Q _ => ∃ c : Int, vs = [.int c] ∧ ∀ p H', H p = none → Same H H' → Dr H' p 0 → Q (.ref p) H'
def spNext : Sp := fun vs H Q _ => ∃ (l : Addr) (n : Nat), vs = [.ref l] ∧ Dr H l n ∧ n ≤ 1000000 ∧ ∀ v H', 0 ≤ v → v < 306783369 → But l H H' → Dr H' l (n + 1) → Q (.int v) H'
section
variable {P : Program} {w : World} {K : PySem.W.Frag} {mg : Str → Option Value} {base : Heap}
theorem ok_draws (D : Df K mg "_law_draws" s_l_draws []) (hra : mg "range" = none) : Ca P w K mg base CX0 1 "_law_draws" s_l_draws [] ["_law_cell"] spDraws := by
  refine ca0 (k := 0) D c_l_draws (fun vs H Q E h => ?_) fun f cdv A outer s H vs Q E hr h => ?_
  · obtain ⟨c, rfl, _⟩ := h
    rfl
  · obtain ⟨c, rfl, q⟩ := h
    refine ⟨_, pss_cons (ps_set (i := 1) c_l_draws.nd rfl (.inl rfl) (pe_op op_pow pe_int pe_int))
      (pss_cons (ps_for PassesOwn.never rfl (pi_range1 rfl hra (pa_cons pe_int pa_nil)) (pg_name (i := 2) c_l_draws.nd rfl (.inl rfl)) (pss_one (ps_set (i := 1) c_l_draws.nd rfl (.inl rfl) (pe_op op_mulA (pv 1) (pv 1)))))
      (pss_one (ps_ret (pe_lst (pa_cons (pe_op op_mod (pv 0) (pv 1)) (pa_cons pe_int (pa_cons (pe_cmpR op_ge (pv 0) (pe_op op_pow pe_int pe_int) (nomark _)) pa_nil))))))), ?_⟩
    refine ⟨_, _, rfl, rfl, ⟨by decide, by decide, by decide⟩, 7, rfl, by decide, by decide, ?_⟩
    refine for_range (n := 7) (fun i σ H' => ∃ (z : Int) (v : Option V), σ = [some (.int c), some (.int z), v] ∧ 0 < z ∧ Sz (200 * 2 ^ i) z ∧ H' = H) ⟨_, _, rfl, by decide, (by show (10 ^ 60 : Int).natAbs < 2 ^ (200 * 2 ^ 0); decide), rfl⟩ ?_ ?_
    · rintro i σ H' hi ⟨z, v, rfl, h0, hz, rfl⟩
      have l1 : 2 ^ i ≤ 2 ^ 6 := Nat.pow_le_pow_right (by decide) (by omega)
      have hz' : Sz 100000 z := hz.mono (Nat.le_trans (Nat.mul_le_mul_left 200 l1) (by decide))
      refine ⟨_, rfl, _, rfl, _, _, rfl, rfl, ⟨hz', hz'⟩, ⟨z * z, _, rfl, Int.mul_pos h0 h0, ?_, rfl⟩⟩
      exact (hz.mul hz).mono (by rw [Nat.pow_succ]; omega)
    · rintro σ H' ⟨z, v, rfl, h0, hz, rfl⟩
      refine ⟨_, rfl, _, rfl, _, _, rfl, rfl, h0, _, rfl, _, _, rfl, rfl, ⟨by decide, by decide, by decide⟩, _, _, rfl, rfl, (by show 3 ≤ sizeLine; decide), fun p hp => ?_⟩
      exact q p _ hp (Same.new hp) ⟨_, _, _, upd_same, by decide, by decide⟩
end
section
variable {P : Program} {w : World} {K : PySem.W.Frag} {mg : Str → Option Value} {base : Heap}
theorem ok_next (D : Df K mg "_law_next" s_l_next []) : Ca P w K mg base CX0 1 "_law_next" s_l_next [] ["_law_draws_here"] spNext := by
  refine ca0 (k := 0) D c_l_next (fun vs H Q E h => ?_) fun f cdv A outer s H vs Q E hr h => ?_
  · obtain ⟨l, n, rfl, _⟩ := h
    rfl
  · obtain ⟨l, n, rfl, ⟨d, k, fl, hl, k0, k1⟩, hn, q⟩ := h
    refine ⟨_, pss_cons (ps_asg (pe_op op_add (pe_ix ix_list (pv 0) pe_int (fun _ _ => rfl)) pe_int) (pg_sub (pv 0) pe_int set_list))
      (pss_cons (ps_set (i := 1) c_l_next.nd rfl (.inl rfl) (pe_ix ix_list (pv 0) pe_int (fun _ _ => rfl)))
      (pss_cons (ps_if (pt_val (pe_ix ix_list (pv 0) pe_int (fun _ _ => rfl)))
        (pss_cons (ps_set (i := 2) c_l_next.nd rfl (.inl rfl) (pe_op op_mod (pe_ix ix_list (pv 0) pe_int (fun _ _ => rfl)) (pe_op op_pow pe_int pe_int)))
        (pss_cons (ps_asg (pe_op op_fdiv (pe_ix ix_list (pv 0) pe_int (fun _ _ => rfl)) (pe_op op_pow pe_int pe_int)) (pg_sub (pv 0) pe_int set_list))
        (pss_one (ps_ret (pv 2))))) pss_nil)
      (pss_cons (ps_set (i := 2) c_l_next.nd rfl (.inl rfl) (pe_op op_mod (pe_op op_mul (pe_op op_add (pe_op op_add (pe_op op_mod (pe_ix ix_list (pv 0) pe_int (fun _ _ => rfl)) pe_int) (pe_op op_mul (pe_op op_mul (pv 1) (pv 1)) pe_int)) (pv 1)) pe_int) pe_int))
      (pss_cons (ps_set (i := 2) c_l_next.nd rfl (.inl rfl) (pe_op op_mod (pe_op op_mul (pv 2) (pv 2)) pe_int))
      (pss_one (ps_ret (pe_op op_fdiv (pe_op op_mod (pe_op op_mul (pv 2) (pe_op op_add (pv 2) pe_int)) pe_int) pe_int))))))), ?_⟩
    refine ⟨_, rfl, l, _, _, _, rfl, rfl, SqL.of hl, rfl, _, _, rfl, rfl, _, rfl, l, _, _, _, rfl, rfl, hl, rfl, ?_⟩
    refine ⟨_, rfl, l, _, _, _, rfl, rfl, SqL.of upd_same, rfl, ?_⟩
    refine ⟨_, rfl, l, _, _, _, rfl, rfl, SqL.of upd_same, rfl, _, rfl, ?_⟩
    cases fl with
    | true =>
      refine iteT ?_
      refine ⟨_, rfl, l, _, _, _, rfl, rfl, SqL.of upd_same, rfl, _, _, rfl, rfl, ⟨by decide, by decide, by decide⟩, _, _, rfl, rfl, md, ?_⟩
      refine ⟨_, rfl, l, _, _, _, rfl, rfl, SqL.of upd_same, rfl, _, _, rfl, rfl, ⟨by decide, by decide, by decide⟩, _, _, rfl, rfl, ⟨by decide, by decide⟩, _, rfl, l, _, _, _, rfl, rfl, upd_same, rfl, ?_⟩
      refine ⟨_, rfl, ?_⟩
      have h1 := Int.emod_nonneg d (show (1000000 : Int) ≠ 0 by decide)
      have h2 := Int.emod_lt_of_pos d (show (0 : Int) < 1000000 by decide)
      refine q (d % 1000000) _ h1 (by omega) (fun b o hb e => ?_) ⟨_, _, _, upd_same, by omega, by omega⟩
      rw [upd_ne hb, upd_ne hb]
      exact e
    | false =>
      refine iteF ?_
      have g1 := Int.emod_nonneg ((d % 1000003 + (k + 1) * (k + 1) * 7919 + (k + 1)) * 48271) (show (2147483629 : Int) ≠ 0 by decide)
      have g2 := Int.emod_lt_of_pos ((d % 1000003 + (k + 1) * (k + 1) * 7919 + (k + 1)) * 48271) (show (0 : Int) < 2147483629 by decide)
      refine ⟨_, rfl, l, _, _, _, rfl, rfl, SqL.of upd_same, rfl, _, _, rfl, rfl, md, _, rfl, _, rfl, _, _, rfl, rfl, .inl ⟨by omega, by omega⟩, _, _, rfl, rfl, .inr ⟨by decide, by decide⟩, _, _, rfl, rfl, _, rfl, _, _, rfl, rfl, _, _, rfl, rfl, .inr ⟨by decide, by decide⟩, _, _, rfl, rfl, md, ?_⟩
      refine ⟨_, rfl, _, rfl, _, _, rfl, rfl, .inl ⟨Int.lt_of_lt_of_le (by decide) g1, Int.lt_trans g2 (by decide)⟩, _, _, rfl, rfl, md, ?_⟩
      generalize hz : ((d % 1000003 + (k + 1) * (k + 1) * 7919 + (k + 1)) * 48271 % 2147483629) * ((d % 1000003 + (k + 1) * (k + 1) * 7919 + (k + 1)) * 48271 % 2147483629) = z
      have i1 := Int.emod_nonneg z (show (2147483587 : Int) ≠ 0 by decide)
      have i2 := Int.emod_lt_of_pos z (show (0 : Int) < 2147483587 by decide)
      refine ⟨_, rfl, _, rfl, _, _, rfl, rfl, _, _, rfl, rfl, .inl ⟨Int.lt_of_lt_of_le (by decide) i1, Int.lt_trans i2 (by decide)⟩, _, _, rfl, rfl, md, _, _, rfl, rfl, ⟨by decide, by decide⟩, ?_⟩
      have j1 := Int.emod_nonneg (z % 2147483587 * (z % 2147483587 + 2)) (show (2147483579 : Int) ≠ 0 by decide)
      have j2 := Int.emod_lt_of_pos (z % 2147483587 * (z % 2147483587 + 2)) (show (0 : Int) < 2147483579 by decide)
      refine q (z % 2147483587 * (z % 2147483587 + 2) % 2147483579 / 7) _ (by omega) (by omega) (fun b o hb e => ?_) ⟨_, _, _, upd_same, by omega, by omega⟩
      rw [upd_ne hb]
      exact e
end
/-! ### Share -/
def sf (t b : Int) : List (Str × V) := putF "bottom" (.int b) (putF "top" (.int t) [])
theorem tb_ : ¬ (("top" : Str) = "bottom") := by decide +kernel
theorem sf_eq (t b : Int) : sf t b = ([("top", V.int t), ("bottom", V.int b)] : List (Str × V)) := by
  show (if ("top" : Str) = "bottom" then [(("top" : Str), V.int b)] else (("top" : Str), V.int t) :: putF "bottom" (V.int b) []) = _
  rw [if_neg tb_]
  rfl
theorem sf_top (t b : Int) : (sf t b).lookup ("top" : Str) = some (.int t) := by
  unfold sf
  rw [lookup_putF, if_neg tb_, lookup_putF, if_pos rfl]
theorem sf_bottom (t b : Int) : (sf t b).lookup ("bottom" : Str) = some (.int b) := by
  unfold sf
  rw [lookup_putF, if_pos rfl]
/-- what the top says of the class -/
structure ShT (K : PySem.W.Frag) (C : Addr) : Prop where
  cl : Cls K C
  nT : NoAttr K C "top"
  nB : NoAttr K C "bottom"
/-- at p a Share of q -/
def Sh (C : Addr) (H : Hp) (p : Addr) (q : Rat) : Prop := ∃ dx, H p = some (.ins C dx (sf q.num q.den))
theorem Sh.same {C p : Addr} {H H1 : Hp} {q : Rat} (h : Sh C H p q) (s : Same H H1) : Sh C H1 p q := by
  obtain ⟨dx, e⟩ := h
  exact ⟨dx, s _ _ e⟩
/-- Share's __init__, with no bottom of 0 -/
def spShI (C : Addr) : Sp := fun vs H Q _ => ∃ (p dx : Addr) (t b : Int), vs = [.ref p, .int t, .int b] ∧ H p = some (.ins C dx []) ∧ b ≠ 0 ∧ Sz 8800 t ∧ Sz 8800 b ∧
  Q .non (upd H p (.ins C dx (sf (Rat.divInt t b).num (Rat.divInt t b).den)))
section
variable {P : Program} {w : World} {K : PySem.W.Frag} {mg : Str → Option Value} {base : Heap} {C : Addr}
theorem ok_shI (D : Di K mg "Share" C "Share.__init__" s_Share_init [.int 1]) (T : ShT K C) (g : Ca P w K mg base CX0 1 "common_divisor" s_common_divisor [] ["one", "two"] spGcd) : Ci P w K mg base CX0 2 "Share" C "Share.__init__" s_Share_init [.int 1] ["self", "top", "bottom"] (spShI C) := by
  refine ci0 (k := 1) D c_Share_init (fun vs H Q E h => ?_) fun f cdv A outer s H vs Q E hr h => ?_
  · obtain ⟨p, dx, t, b, rfl, _⟩ := h
    rfl
  · obtain ⟨p, dx, t, b, rfl, hp, hb, zt, zb, q⟩ := h
    refine ⟨_, pss_cons (ps_if (pt_cmpR op_eq (pv 2) pe_int (nomark _)) (pss_one ps_never) pss_nil)
      (pss_cons (ps_set (i := 3) c_Share_init.nd rfl (.inl rfl) (pe_ca g b_common_divisor hr (by decide) pass0 rfl (pa_cons (pv 1) (pa_cons (pv 2) pa_nil))))
      (pss_cons (ps_if (pt_cmpR op_lt (pv 2) pe_int (nomark _)) (pss_one (ps_set (i := 3) c_Share_init.nd rfl (.inl rfl) (pe_un un_neg (pv 3)))) pss_nil)
      (pss_cons (ps_fld (pv 0) (pe_op op_fdivA (pv 1) (pv 3)) rfl) (pss_one (ps_fld (pv 0) (pe_op op_fdivA (pv 2) (pv 3)) rfl))))), ?_⟩
    refine ⟨_, rfl, rfl, _, rfl, ?_⟩
    rw [decide_eq_false (show ¬ V.int b = V.int 0 from fun z => hb (V.int.inj z))]
    refine iteF ?_
    refine ⟨_, rfl, _, rfl, t, b, rfl, ?_⟩
    have fin : ∀ σ' : L2.St, σ' = [some (.ref p), some (.int t), some (.int b), some (.int (gs t b))] →
        tSeq (sFld K (tVar 0) (tOp (rI CDivA fun i j => .int (i.fdiv j)) (tVar 1) (tVar 3)) "top") (sFld K (tVar 0) (tOp (rI CDivA fun i j => .int (i.fdiv j)) (tVar 2) (tVar 3)) "bottom") { nx := fun _ H' => Q .non H', rt := Q } σ' H := by
      rintro σ' rfl
      refine ⟨_, rfl, _, rfl, _, _, rfl, rfl, ⟨gs_ne hb, gs_sz hb zb⟩, _, rfl, p, C, dx, _, rfl, hp, T.cl, T.nT, (by show 0 < 1000; decide), ?_⟩
      refine ⟨_, rfl, _, rfl, _, _, rfl, rfl, ⟨gs_ne hb, gs_sz hb zb⟩, _, rfl, p, C, dx, _, rfl, upd_same, T.cl, T.nB, (by show 1 < 1000; decide), ?_⟩
      rw [upd_upd]
      rw [← low_num hb, ← low_den hb] at q
      exact q
    refine ⟨_, rfl, _, _, rfl, rfl, _, rfl, ?_⟩
    by_cases hn : b < 0
    · rw [decide_eq_true hn]
      refine iteT ?_
      refine ⟨_, rfl, _, rfl, fin _ ?_⟩
      unfold gs
      rw [if_pos hn]
      rfl
    · rw [decide_eq_false hn]
      refine iteF (fin _ ?_)
      unfold gs
      rw [if_neg hn]
      rfl
theorem bd_Share2 : Bd1 "__init__" "Share.__init__" s_Share_init ["self", "top", "bottom"] 3 1 1 := fun _ _ _ _ _ _ _ us its hu hi => match us, hu, its, hi with | [_, _, _], _, [_], _ => ⟨_, rfl, rfl⟩
theorem bd_Share1 : Bd1 "__init__" "Share.__init__" s_Share_init ["self", "top", "bottom"] 2 0 1 := fun _ _ _ _ _ _ _ us its hu hi => match us, hu, its, hi with | [_, _], _, [_], _ => ⟨_, rfl, rfl⟩
end
/-- a new Share, read as its maker's caller wants it -/
theorem made_sh {C : Addr} {H : Hp} {R : Addr → Hp → Prop} {E : XK} {t b : Int} (hb : b ≠ 0) (zt : Sz 8800 t) (zb : Sz 8800 b) (h : ∀ p H', H p = none → Same H H' → Sh C H' p (Rat.divInt t b) → R p H') :
    ∀ x dx, H x = none → H dx = none → dx ≠ x → spShI C [.ref x, .int t, .int b] (upd (upd H dx (.own x)) x (.ins C dx [])) (fun v H2 => v = .non ∧ R x H2) E := by
  intro x dx hx hd ne
  refine ⟨x, dx, t, b, rfl, upd_same, hb, zt, zb, rfl, ?_⟩
  rw [upd_upd]
  refine h x _ hx (Same.upd (Same.new hd) ?_) ⟨dx, upd_same⟩
  rw [upd_ne ne.symm]
  exact hx
/-! ### the module's functions over Shares and whole numbers -/
structure ShX (K : PySem.W.Frag) (C : Addr) : Prop extends ShT K C where
  ty : ∀ (H : Hp) (a dx : Addr) (fs : List (Str × V)), H a = some (.ins C dx fs) → TyX K H (.ref a) (.ref C)
  nInt : PySem.W.kitOne K (.type "int") (.ref C) = some false
theorem kit_self {K : PySem.W.Frag} {C : Addr} : PySem.W.kitOne K (.ref C) (.ref C) = some true := by
  unfold PySem.W.kitOne
  rw [if_pos (by simp)]
/-- v stands for q: a whole number, or a Share -/
def Rv (C : Addr) (H : Hp) (v : V) (q : Rat) : Prop := (∃ i : Int, v = .int i ∧ q = (i : Rat)) ∨ ∃ p, v = .ref p ∧ Sh C H p q
theorem Rv.same {C : Addr} {H H1 : Hp} {v : V} {q : Rat} (h : Rv C H v q) (s : Same H H1) : Rv C H1 v q := by
  rcases h with h | ⟨p, e, h⟩
  · exact .inl h
  · exact .inr ⟨p, e, h.same s⟩
theorem Rv.int {C : Addr} {H : Hp} {i : Int} : Rv C H (.int i) (i : Rat) := .inl ⟨i, rfl, rfl⟩
theorem Sh.rv {C p : Addr} {H : Hp} {q : Rat} (h : Sh C H p q) : Rv C H (.ref p) q := .inr ⟨p, rfl, h⟩
def spAs (C : Addr) : Sp := fun vs H Q _ => ∃ (v : V) (q : Rat), vs = [v] ∧ Rv C H v q ∧ Rz 8700 q ∧ ∀ p H', Same H H' → Sh C H' p q → Q (.ref p) H'
/-- a function of two that tells a Share -/
def spTwo (C : Addr) (ok : Rat → Rat → Prop) (g : Rat → Rat → Rat) : Sp := fun vs H Q _ => ∃ (v u : V) (a b : Rat), vs = [v, u] ∧ Rv C H v a ∧ Rv C H u b ∧ Rz 4300 a ∧ Rz 4300 b ∧ ok a b ∧ ∀ p H', H p = none → Same H H' → Sh C H' p (g a b) → Q (.ref p) H'
def spBefore (C : Addr) : Sp := fun vs H Q _ => ∃ (v u : V) (a b : Rat), vs = [v, u] ∧ Rv C H v a ∧ Rv C H u b ∧ Rz 4300 a ∧ Rz 4300 b ∧ ∀ H', Same H H' → Q (.bl (decide (a < b))) H'
def spOne (C : Addr) (g : Rat → Int) : Sp := fun vs H Q _ => ∃ (v : V) (a : Rat), vs = [v] ∧ Rv C H v a ∧ Rz 8700 a ∧ ∀ H', Same H H' → Q (.int (g a)) H'
theorem divInt_one (i : Int) : Rat.divInt i 1 = (i : Rat) := by
  have := Rat.num_divInt_den (i : Rat)
  exact this
section
variable {P : Program} {w : World} {K : PySem.W.Frag} {mg : Str → Option Value} {base : Heap} {C : Addr}
theorem ok_as (D : Df K mg "as_share" s_as_share []) (T : ShX K C) (his : mg "isinstance" = none) (hC : mg "Share" = some (.ref C)) (m : Ci P w K mg base CX0 2 "Share" C "Share.__init__" s_Share_init [.int 1] ["self", "top", "bottom"] (spShI C)) :
    Ca P w K mg base CX0 4 "as_share" s_as_share [] ["number"] (spAs C) := by
  refine ca0 (k := 3) D c_as_share (fun vs H Q E h => ?_) fun f cdv A outer s H vs Q E hr h => ?_
  · obtain ⟨v, q, rfl, _⟩ := h
    rfl
  · obtain ⟨v, a, rfl, hv, za, q⟩ := h
    refine ⟨_, pss_cons (ps_if (pt_val (pe_callB call_isi rfl his (by decide +kernel) (pa_cons (pv 0) (pa_cons (pe_glob (v := .ref C) rfl hC rfl) pa_nil)))) (pss_one (ps_ret (pv 0))) pss_nil)
      (pss_one (ps_ret (pe_ci m bd_Share1 (by decide) rfl hr (by decide) pass0 rfl (pa_cons (pv 0) pa_nil)))), ?_⟩
    rcases hv with ⟨i, rfl, rfl⟩ | ⟨p, rfl, hp⟩
    · refine ⟨_, rfl, _, _, _, _, _, rfl, .own C, .base (.int i), T.nInt, _, rfl, iteF ?_⟩
      refine ⟨_, rfl, ?_⟩
      refine made_sh (by decide) (za.1.mono (by decide)) (by show 1 < 2 ^ 8800; exact Nat.one_lt_two_pow (by decide)) fun p H' _ hs hp => ?_
      rw [divInt_one] at hp
      exact q p H' hs hp
    · obtain ⟨dx, e⟩ := id hp
      refine ⟨_, rfl, _, _, _, _, _, rfl, .own C, T.ty _ _ _ _ e, kit_self, _, rfl, iteT ?_⟩
      exact ⟨_, rfl, q p H (Same.refl H) hp⟩
/-- the fields of a Share at p -/
theorem rd_top {i : Nat} {σ : L2.St} {H : Hp} {p : Addr} {a : Rat} {Q : VK} (T : ShT K C) (hp : Sh C H p a) (e : σ[i]? = some (some (.ref p))) (q : Q (.int a.num) H) : tFld K (tVar i) "top" σ H Q := by
  obtain ⟨dx, h⟩ := hp
  exact ⟨_, e, p, C, dx, _, _, rfl, h, T.cl, T.nT, sf_top _ _, q⟩
theorem rd_bottom {i : Nat} {σ : L2.St} {H : Hp} {p : Addr} {a : Rat} {Q : VK} (T : ShT K C) (hp : Sh C H p a) (e : σ[i]? = some (some (.ref p))) (q : Q (.int a.den) H) : tFld K (tVar i) "bottom" σ H Q := by
  obtain ⟨dx, h⟩ := hp
  exact ⟨_, e, p, C, dx, _, _, rfl, h, T.cl, T.nB, sf_bottom _ _, q⟩
end
section
variable {P : Program} {w : World} {K : PySem.W.Frag} {mg : Str → Option Value} {base : Heap} {C : Addr}

theorem ok_plus (D : Df K mg "plus" s_plus []) (T : ShX K C) (a : Ca P w K mg base CX0 4 "as_share" s_as_share [] ["number"] (spAs C)) (m : Ci P w K mg base CX0 2 "Share" C "Share.__init__" s_Share_init [.int 1] ["self", "top", "bottom"] (spShI C)) :
    Ca P w K mg base CX0 5 "plus" s_plus [] ["one", "two"] (spTwo C (fun _ _ => True) (fun a b => a + b)) := by
  refine ca0 (k := 4) D c_plus (fun vs H Q E h => ?_) fun f cdv A outer s H vs Q E hr h => ?_
  · obtain ⟨v, u, x, y, rfl, _⟩ := h
    rfl
  · obtain ⟨v, u, x, y, rfl, hv, hu, zx, zy, ok, q⟩ := h
    refine ⟨_, pss_cons (ps_set (i := 2) c_plus.nd rfl (.inl rfl) (pe_ca a b_as_share hr (by decide) pass0 rfl (pa_cons (pv 0) pa_nil)))
      (pss_cons (ps_set (i := 3) c_plus.nd rfl (.inl rfl) (pe_ca a b_as_share hr (by decide) pass0 rfl (pa_cons (pv 1) pa_nil)))
      (pss_one (ps_ret (pe_ci m bd_Share2 (by decide) rfl hr (by decide) pass0 rfl (pa_cons (pe_op op_add (pe_op op_mulA (pe_fld (pv 2) rfl) (pe_fld (pv 3) rfl)) (pe_op op_mulA (pe_fld (pv 3) rfl) (pe_fld (pv 2) rfl))) (pa_cons (pe_op op_mulA (pe_fld (pv 2) rfl) (pe_fld (pv 3) rfl)) pa_nil)))))), ?_⟩
    refine ⟨_, rfl, v, x, rfl, hv, zx.mono (by decide), fun p1 H1 s1 h1 => ?_⟩
    refine ⟨_, rfl, u, y, rfl, hu.same s1, zy.mono (by decide), fun p2 H2 s2 h2 => ?_⟩
    obtain ⟨d1, e1⟩ := h1.same s2
    obtain ⟨d2, e2⟩ := h2
    have mz : ∀ i j : Int, Sz 4300 i → Sz 4300 j → CMulA i j := fun i j hi hj => ⟨hi.mono (by decide), hj.mono (by decide)⟩
    refine ⟨_, rfl, p1, C, d1, _, _, rfl, e1, T.cl, T.nT, sf_top _ _, _, rfl, p2, C, d2, _, _, rfl, e2, T.cl, T.nB, sf_bottom _ _, _, _, rfl, rfl, mz _ _ zx.1 zy.2, _, rfl, p2, C, d2, _, _, rfl, e2, T.cl, T.nT, sf_top _ _, _, rfl, p1, C, d1, _, _, rfl, e1, T.cl, T.nB, sf_bottom _ _, _, _, rfl, rfl, mz _ _ zy.1 zx.2, _, _, rfl, rfl, _, rfl, p1, C, d1, _, _, rfl, e1, T.cl, T.nB, sf_bottom _ _, _, rfl, p2, C, d2, _, _, rfl, e2, T.cl, T.nB, sf_bottom _ _, _, _, rfl, rfl, mz _ _ zx.2 zy.2, ?_⟩
    refine made_sh (Int.ne_of_gt (Int.mul_pos (den_pos x) (den_pos y))) (Sz.add (n := 8600) ((zx.1.mul zy.2).mono (by decide)) ((zy.1.mul zx.2).mono (by decide)) (by decide)) ((zx.2.mul zy.2).mono (by decide)) fun p H' hp hs hq => ?_
    refine q p H' ((s1.trans s2).free hp) (s1.trans (s2.trans hs)) ?_
    exact (congrArg (Sh C H' p) (add_eq x y)).mpr hq


theorem ok_minus (D : Df K mg "minus" s_minus []) (T : ShX K C) (a : Ca P w K mg base CX0 4 "as_share" s_as_share [] ["number"] (spAs C)) (m : Ci P w K mg base CX0 2 "Share" C "Share.__init__" s_Share_init [.int 1] ["self", "top", "bottom"] (spShI C)) :
    Ca P w K mg base CX0 5 "minus" s_minus [] ["one", "two"] (spTwo C (fun _ _ => True) (fun a b => a - b)) := by
  refine ca0 (k := 4) D c_minus (fun vs H Q E h => ?_) fun f cdv A outer s H vs Q E hr h => ?_
  · obtain ⟨v, u, x, y, rfl, _⟩ := h
    rfl
  · obtain ⟨v, u, x, y, rfl, hv, hu, zx, zy, ok, q⟩ := h
    refine ⟨_, pss_cons (ps_set (i := 2) c_minus.nd rfl (.inl rfl) (pe_ca a b_as_share hr (by decide) pass0 rfl (pa_cons (pv 0) pa_nil)))
      (pss_cons (ps_set (i := 3) c_minus.nd rfl (.inl rfl) (pe_ca a b_as_share hr (by decide) pass0 rfl (pa_cons (pv 1) pa_nil)))
      (pss_one (ps_ret (pe_ci m bd_Share2 (by decide) rfl hr (by decide) pass0 rfl (pa_cons (pe_op op_sub (pe_op op_mulA (pe_fld (pv 2) rfl) (pe_fld (pv 3) rfl)) (pe_op op_mulA (pe_fld (pv 3) rfl) (pe_fld (pv 2) rfl))) (pa_cons (pe_op op_mulA (pe_fld (pv 2) rfl) (pe_fld (pv 3) rfl)) pa_nil)))))), ?_⟩
    refine ⟨_, rfl, v, x, rfl, hv, zx.mono (by decide), fun p1 H1 s1 h1 => ?_⟩
    refine ⟨_, rfl, u, y, rfl, hu.same s1, zy.mono (by decide), fun p2 H2 s2 h2 => ?_⟩
    obtain ⟨d1, e1⟩ := h1.same s2
    obtain ⟨d2, e2⟩ := h2
    have mz : ∀ i j : Int, Sz 4300 i → Sz 4300 j → CMulA i j := fun i j hi hj => ⟨hi.mono (by decide), hj.mono (by decide)⟩
    refine ⟨_, rfl, p1, C, d1, _, _, rfl, e1, T.cl, T.nT, sf_top _ _, _, rfl, p2, C, d2, _, _, rfl, e2, T.cl, T.nB, sf_bottom _ _, _, _, rfl, rfl, mz _ _ zx.1 zy.2, _, rfl, p2, C, d2, _, _, rfl, e2, T.cl, T.nT, sf_top _ _, _, rfl, p1, C, d1, _, _, rfl, e1, T.cl, T.nB, sf_bottom _ _, _, _, rfl, rfl, mz _ _ zy.1 zx.2, _, _, rfl, rfl, _, rfl, p1, C, d1, _, _, rfl, e1, T.cl, T.nB, sf_bottom _ _, _, rfl, p2, C, d2, _, _, rfl, e2, T.cl, T.nB, sf_bottom _ _, _, _, rfl, rfl, mz _ _ zx.2 zy.2, ?_⟩
    refine made_sh (Int.ne_of_gt (Int.mul_pos (den_pos x) (den_pos y))) (Sz.sub (n := 8600) ((zx.1.mul zy.2).mono (by decide)) ((zy.1.mul zx.2).mono (by decide)) (by decide)) ((zx.2.mul zy.2).mono (by decide)) fun p H' hp hs hq => ?_
    refine q p H' ((s1.trans s2).free hp) (s1.trans (s2.trans hs)) ?_
    exact (congrArg (Sh C H' p) (sub_eq x y)).mpr hq


theorem ok_times (D : Df K mg "times" s_times []) (T : ShX K C) (a : Ca P w K mg base CX0 4 "as_share" s_as_share [] ["number"] (spAs C)) (m : Ci P w K mg base CX0 2 "Share" C "Share.__init__" s_Share_init [.int 1] ["self", "top", "bottom"] (spShI C)) :
    Ca P w K mg base CX0 5 "times" s_times [] ["one", "two"] (spTwo C (fun _ _ => True) (fun a b => a * b)) := by
  refine ca0 (k := 4) D c_times (fun vs H Q E h => ?_) fun f cdv A outer s H vs Q E hr h => ?_
  · obtain ⟨v, u, x, y, rfl, _⟩ := h
    rfl
  · obtain ⟨v, u, x, y, rfl, hv, hu, zx, zy, ok, q⟩ := h
    refine ⟨_, pss_cons (ps_set (i := 2) c_times.nd rfl (.inl rfl) (pe_ca a b_as_share hr (by decide) pass0 rfl (pa_cons (pv 0) pa_nil)))
      (pss_cons (ps_set (i := 3) c_times.nd rfl (.inl rfl) (pe_ca a b_as_share hr (by decide) pass0 rfl (pa_cons (pv 1) pa_nil)))
      (pss_one (ps_ret (pe_ci m bd_Share2 (by decide) rfl hr (by decide) pass0 rfl (pa_cons (pe_op op_mulA (pe_fld (pv 2) rfl) (pe_fld (pv 3) rfl)) (pa_cons (pe_op op_mulA (pe_fld (pv 2) rfl) (pe_fld (pv 3) rfl)) pa_nil)))))), ?_⟩
    refine ⟨_, rfl, v, x, rfl, hv, zx.mono (by decide), fun p1 H1 s1 h1 => ?_⟩
    refine ⟨_, rfl, u, y, rfl, hu.same s1, zy.mono (by decide), fun p2 H2 s2 h2 => ?_⟩
    obtain ⟨d1, e1⟩ := h1.same s2
    obtain ⟨d2, e2⟩ := h2
    have mz : ∀ i j : Int, Sz 4300 i → Sz 4300 j → CMulA i j := fun i j hi hj => ⟨hi.mono (by decide), hj.mono (by decide)⟩
    refine ⟨_, rfl, p1, C, d1, _, _, rfl, e1, T.cl, T.nT, sf_top _ _, _, rfl, p2, C, d2, _, _, rfl, e2, T.cl, T.nT, sf_top _ _, _, _, rfl, rfl, mz _ _ zx.1 zy.1, _, rfl, p1, C, d1, _, _, rfl, e1, T.cl, T.nB, sf_bottom _ _, _, rfl, p2, C, d2, _, _, rfl, e2, T.cl, T.nB, sf_bottom _ _, _, _, rfl, rfl, mz _ _ zx.2 zy.2, ?_⟩
    refine made_sh (Int.ne_of_gt (Int.mul_pos (den_pos x) (den_pos y))) ((zx.1.mul zy.1).mono (by decide)) ((zx.2.mul zy.2).mono (by decide)) fun p H' hp hs hq => ?_
    refine q p H' ((s1.trans s2).free hp) (s1.trans (s2.trans hs)) ?_
    exact (congrArg (Sh C H' p) (mul_eq x y)).mpr hq


theorem ok_over (D : Df K mg "over" s_over []) (T : ShX K C) (a : Ca P w K mg base CX0 4 "as_share" s_as_share [] ["number"] (spAs C)) (m : Ci P w K mg base CX0 2 "Share" C "Share.__init__" s_Share_init [.int 1] ["self", "top", "bottom"] (spShI C)) :
    Ca P w K mg base CX0 5 "over" s_over [] ["one", "two"] (spTwo C (fun _ b => b ≠ 0) (fun a b => a / b)) := by
  refine ca0 (k := 4) D c_over (fun vs H Q E h => ?_) fun f cdv A outer s H vs Q E hr h => ?_
  · obtain ⟨v, u, x, y, rfl, _⟩ := h
    rfl
  · obtain ⟨v, u, x, y, rfl, hv, hu, zx, zy, ok, q⟩ := h
    refine ⟨_, pss_cons (ps_set (i := 2) c_over.nd rfl (.inl rfl) (pe_ca a b_as_share hr (by decide) pass0 rfl (pa_cons (pv 0) pa_nil)))
      (pss_cons (ps_set (i := 3) c_over.nd rfl (.inl rfl) (pe_ca a b_as_share hr (by decide) pass0 rfl (pa_cons (pv 1) pa_nil)))
      (pss_one (ps_ret (pe_ci m bd_Share2 (by decide) rfl hr (by decide) pass0 rfl (pa_cons (pe_op op_mulA (pe_fld (pv 2) rfl) (pe_fld (pv 3) rfl)) (pa_cons (pe_op op_mulA (pe_fld (pv 2) rfl) (pe_fld (pv 3) rfl)) pa_nil)))))), ?_⟩
    refine ⟨_, rfl, v, x, rfl, hv, zx.mono (by decide), fun p1 H1 s1 h1 => ?_⟩
    refine ⟨_, rfl, u, y, rfl, hu.same s1, zy.mono (by decide), fun p2 H2 s2 h2 => ?_⟩
    obtain ⟨d1, e1⟩ := h1.same s2
    obtain ⟨d2, e2⟩ := h2
    have mz : ∀ i j : Int, Sz 4300 i → Sz 4300 j → CMulA i j := fun i j hi hj => ⟨hi.mono (by decide), hj.mono (by decide)⟩
    refine ⟨_, rfl, p1, C, d1, _, _, rfl, e1, T.cl, T.nT, sf_top _ _, _, rfl, p2, C, d2, _, _, rfl, e2, T.cl, T.nB, sf_bottom _ _, _, _, rfl, rfl, mz _ _ zx.1 zy.2, _, rfl, p1, C, d1, _, _, rfl, e1, T.cl, T.nB, sf_bottom _ _, _, rfl, p2, C, d2, _, _, rfl, e2, T.cl, T.nT, sf_top _ _, _, _, rfl, rfl, mz _ _ zx.2 zy.1, ?_⟩
    refine made_sh (Int.mul_ne_zero (Int.ne_of_gt (den_pos x)) (fun z => ok (Rat.num_eq_zero.mp z))) ((zx.1.mul zy.2).mono (by decide)) ((zx.2.mul zy.1).mono (by decide)) fun p H' hp hs hq => ?_
    refine q p H' ((s1.trans s2).free hp) (s1.trans (s2.trans hs)) ?_
    exact (congrArg (Sh C H' p) (div_eq x y ok)).mpr hq


theorem ok_before (D : Df K mg "before" s_before []) (T : ShX K C) (a : Ca P w K mg base CX0 4 "as_share" s_as_share [] ["number"] (spAs C)) : Ca P w K mg base CX0 5 "before" s_before [] ["one", "two"] (spBefore C) := by
  refine ca0 (k := 4) D c_before (fun vs H Q E h => ?_) fun f cdv A outer s H vs Q E hr h => ?_
  · obtain ⟨v, u, x, y, rfl, _⟩ := h
    rfl
  · obtain ⟨v, u, x, y, rfl, hv, hu, zx, zy, q⟩ := h
    refine ⟨_, pss_cons (ps_set (i := 2) c_before.nd rfl (.inl rfl) (pe_ca a b_as_share hr (by decide) pass0 rfl (pa_cons (pv 0) pa_nil)))
      (pss_cons (ps_set (i := 3) c_before.nd rfl (.inl rfl) (pe_ca a b_as_share hr (by decide) pass0 rfl (pa_cons (pv 1) pa_nil)))
      (pss_one (ps_ret (pe_cmpR op_lt (pe_op op_mulA (pe_fld (pv 2) rfl) (pe_fld (pv 3) rfl)) (pe_op op_mulA (pe_fld (pv 3) rfl) (pe_fld (pv 2) rfl)) (nomark _))))), ?_⟩
    refine ⟨_, rfl, v, x, rfl, hv, zx.mono (by decide), fun p1 H1 s1 h1 => ?_⟩
    refine ⟨_, rfl, u, y, rfl, hu.same s1, zy.mono (by decide), fun p2 H2 s2 h2 => ?_⟩
    obtain ⟨d1, e1⟩ := h1.same s2
    obtain ⟨d2, e2⟩ := h2
    have mz : ∀ i j : Int, Sz 4300 i → Sz 4300 j → CMulA i j := fun i j hi hj => ⟨hi.mono (by decide), hj.mono (by decide)⟩
    refine ⟨_, rfl, p1, C, d1, _, _, rfl, e1, T.cl, T.nT, sf_top _ _, _, rfl, p2, C, d2, _, _, rfl, e2, T.cl, T.nB, sf_bottom _ _, _, _, rfl, rfl, mz _ _ zx.1 zy.2, _, rfl, p2, C, d2, _, _, rfl, e2, T.cl, T.nT, sf_top _ _, _, rfl, p1, C, d1, _, _, rfl, e1, T.cl, T.nB, sf_bottom _ _, _, _, rfl, rfl, mz _ _ zy.1 zx.2, _, _, rfl, rfl, ?_⟩
    have e : decide (x.num * (y.den : Int) < y.num * (x.den : Int)) = decide (x < y) := by
      rw [decide_eq_decide]
      exact (lt_iff' x y).symm
    show Q (V.bl (decide (x.num * (y.den : Int) < y.num * (x.den : Int)))) _
    rw [e]
    exact q H2 (s1.trans s2)


theorem ok_whole (D : Df K mg "whole" s_whole []) (T : ShX K C) (a : Ca P w K mg base CX0 4 "as_share" s_as_share [] ["number"] (spAs C)) : Ca P w K mg base CX0 5 "whole" s_whole [] ["share"] (spOne C Rat.floor) := by
  refine ca0 (k := 4) D c_whole (fun vs H Q E h => ?_) fun f cdv A outer s H vs Q E hr h => ?_
  · obtain ⟨v, x, rfl, _⟩ := h
    rfl
  · obtain ⟨v, x, rfl, hv, zx, q⟩ := h
    refine ⟨_, pss_cons (ps_set (i := 1) c_whole.nd rfl (.inl rfl) (pe_ca a b_as_share hr (by decide) pass0 rfl (pa_cons (pv 0) pa_nil)))
      (pss_one (ps_ret (pe_op op_fdivA (pe_fld (pv 1) rfl) (pe_fld (pv 1) rfl)))), ?_⟩
    refine ⟨_, rfl, v, x, rfl, hv, zx, fun p1 H1 s1 h1 => ?_⟩
    obtain ⟨d1, e1⟩ := h1
    refine ⟨_, rfl, p1, C, d1, _, _, rfl, e1, T.cl, T.nT, sf_top _ _, _, rfl, p1, C, d1, _, _, rfl, e1, T.cl, T.nB, sf_bottom _ _, _, _, rfl, rfl, ⟨Int.ne_of_gt (den_pos x), zx.2.mono (by decide)⟩, ?_⟩
    have e : x.num.fdiv (x.den : Int) = x.floor := by rw [Rat.floor_def, Int.fdiv_eq_ediv_of_nonneg _ (Int.le_of_lt (den_pos x))]
    show Q (V.int (x.num.fdiv (x.den : Int))) _
    rw [e]
    exact q H1 s1
end
section
variable {P : Program} {w : World} {K : PySem.W.Frag} {mg : Str → Option Value} {base : Heap} {C : Addr}
theorem ok_rounded (D : Df K mg "rounded_up" s_rounded_up []) (T : ShX K C) (a : Ca P w K mg base CX0 4 "as_share" s_as_share [] ["number"] (spAs C)) : Ca P w K mg base CX0 5 "rounded_up" s_rounded_up [] ["share"] (spOne C Rat.ceil) := by
  refine ca0 (k := 4) D c_rounded_up (fun vs H Q E h => ?_) fun f cdv A outer s H vs Q E hr h => ?_
  · obtain ⟨v, x, rfl, _⟩ := h
    rfl
  · obtain ⟨v, x, rfl, hv, zx, q⟩ := h
    refine ⟨_, pss_cons (ps_set (i := 1) c_rounded_up.nd rfl (.inl rfl) (pe_ca a b_as_share hr (by decide) pass0 rfl (pa_cons (pv 0) pa_nil)))
      (pss_one (ps_ret (pe_un un_neg (pe_op op_fdivA (pe_un un_neg (pe_fld (pv 1) rfl)) (pe_fld (pv 1) rfl))))), ?_⟩
    refine ⟨_, rfl, v, x, rfl, hv, zx, fun p1 H1 s1 h1 => ?_⟩
    obtain ⟨d1, e1⟩ := h1
    refine ⟨_, rfl, p1, C, d1, _, _, rfl, e1, T.cl, T.nT, sf_top _ _, _, rfl, _, rfl, p1, C, d1, _, _, rfl, e1, T.cl, T.nB, sf_bottom _ _, _, _, rfl, rfl, ⟨Int.ne_of_gt (den_pos x), zx.2.mono (by decide)⟩, _, rfl, ?_⟩
    have e : -((-x.num).fdiv (x.den : Int)) = x.ceil := by rw [Int.fdiv_eq_ediv_of_nonneg _ (Int.le_of_lt (den_pos x)), neg_div_ceil]
    show Q (V.int (-((-x.num).fdiv (x.den : Int)))) _
    rw [e]
    exact q H1 s1
end
/-! ### Calendar's helpers -/
theorem twelve_ne : ((12 : Int) : Rat) ≠ 0 := by decide
theorem szi {n : Nat} (i : Int) (h : i.natAbs < 2 ^ n := by decide) : Sz n i := h
def spTw (C : Addr) : Sp := fun vs H Q _ => ∃ (v : V) (a : Rat), vs = [v] ∧ Rv C H v a ∧ Rz 4000 a ∧ ∀ p H', H p = none → Same H H' → Sh C H' p (a / 12) → Q (.ref p) H'
def spNth (C : Addr) : Sp := fun vs H Q _ => ∃ (v u : V) (a b : Rat) (n : Int), vs = [v, u, .int n] ∧ Rv C H v a ∧ Rv C H u b ∧ Rz 600 a ∧ Rz 600 b ∧ Sz 3000 n ∧ ∀ H', Same H H' → Q (.int (a + n * b).floor) H'
def spFrom (C : Addr) : Sp := fun vs H Q _ => ∃ (v u : V) (a b : Rat) (n : Int), vs = [v, u, .int n] ∧ Rv C H v a ∧ Rv C H u b ∧ Rz 600 a ∧ Rz 600 b ∧ Sz 3000 n ∧ b ≠ 0 ∧ ∀ H', Same H H' → Q (.int (((n : Rat) - a) / b).ceil) H'
def spUnfit (C : Addr) : Sp := fun vs H Q _ => ∃ (v u : V) (m y : Rat), vs = [v, u] ∧ Rv C H v m ∧ Rv C H u y ∧ Rz 600 m ∧ Rz 600 y ∧ Fit m y ∧ ∀ H', Same H H' → Q .non H'
/-- a moment that may not be told -/
def Mv (C : Addr) (H : Hp) (v : V) (q : Rat) : Prop := (v = .non ∧ q = 0) ∨ Rv C H v q
theorem Mv.same {C : Addr} {H H1 : Hp} {v : V} {q : Rat} (h : Mv C H v q) (s : Same H H1) : Mv C H1 v q := by
  rcases h with h | h
  · exact .inl h
  · exact .inr (h.same s)
def spMoment (C : Addr) : Sp := fun vs H Q _ => ∃ (v : V) (q : Rat), vs = [v] ∧ Mv C H v q ∧ Rz 600 q ∧ ∀ p H', Same H H' → Sh C H' p q → Q (.ref p) H'
/-- the functions over Shares that Calendar uses -/
structure ShF (P : Program) (w : World) (K : PySem.W.Frag) (mg : Str → Option Value) (base : Heap) (C : Addr) : Prop where
  T : ShX K C
  mkS : Ci P w K mg base CX0 2 "Share" C "Share.__init__" s_Share_init [.int 1] ["self", "top", "bottom"] (spShI C)
  asS : Ca P w K mg base CX0 4 "as_share" s_as_share [] ["number"] (spAs C)
  plus : Ca P w K mg base CX0 5 "plus" s_plus [] ["one", "two"] (spTwo C (fun _ _ => True) (fun a b => a + b))
  minus : Ca P w K mg base CX0 5 "minus" s_minus [] ["one", "two"] (spTwo C (fun _ _ => True) (fun a b => a - b))
  times : Ca P w K mg base CX0 5 "times" s_times [] ["one", "two"] (spTwo C (fun _ _ => True) (fun a b => a * b))
  over : Ca P w K mg base CX0 5 "over" s_over [] ["one", "two"] (spTwo C (fun _ b => b ≠ 0) (fun a b => a / b))
  before : Ca P w K mg base CX0 5 "before" s_before [] ["one", "two"] (spBefore C)
  whole : Ca P w K mg base CX0 5 "whole" s_whole [] ["share"] (spOne C Rat.floor)
  up : Ca P w K mg base CX0 5 "rounded_up" s_rounded_up [] ["share"] (spOne C Rat.ceil)
  marks : ∃ t, mg "MARKS" = some (.int 12 t)
section
variable {P : Program} {w : World} {K : PySem.W.Frag} {mg : Str → Option Value} {base : Heap} {C : Addr}
theorem ok_tw (D : Df K mg "twelfth" s_twelfth []) (F : ShF P w K mg base C) : Ca P w K mg base CX0 6 "twelfth" s_twelfth [] ["year"] (spTw C) := by
  refine ca0 (k := 5) D c_twelfth (fun vs H Q E h => ?_) fun f cdv A outer s H vs Q E hr h => ?_
  · obtain ⟨v, q, rfl, _⟩ := h
    rfl
  · obtain ⟨v, a, rfl, hv, za, q⟩ := h
    obtain ⟨tk, hM⟩ := F.marks
    refine ⟨_, pss_one (ps_ret (pe_ca F.over b_over hr (by decide) pass0 rfl (pa_cons (pv 0) (pa_cons (pe_glob (v := .int 12) rfl hM ⟨_, rfl⟩) pa_nil)))), ?_⟩
    exact ⟨_, rfl, v, .int 12, a, _, rfl, hv, Rv.int, za.mono (by decide), Rz.int (szi 12) (by decide), twelve_ne, q⟩
end
section
variable {P : Program} {w : World} {K : PySem.W.Frag} {mg : Str → Option Value} {base : Heap} {C : Addr}
theorem ok_nth (D : Df K mg "nth_day" s_nth_day []) (F : ShF P w K mg base C) : Ca P w K mg base CX0 6 "nth_day" s_nth_day [] ["first", "step", "n"] (spNth C) := by
  refine ca0 (k := 5) D c_nth_day (fun vs H Q E h => ?_) fun f cdv A outer s H vs Q E hr h => ?_
  · obtain ⟨v, u, a, b, n, rfl, _⟩ := h
    rfl
  · obtain ⟨v, u, a, b, n, rfl, hv, hu, za, zb, zn, q⟩ := h
    refine ⟨_, pss_one (ps_ret (pe_ca F.whole b_whole hr (by decide) pass0 rfl (pa_cons (pe_ca F.plus b_plus hr (by decide) pass0 rfl (pa_cons (pv 0) (pa_cons (pe_ca F.times b_times hr (by decide) pass0 rfl (pa_cons (pv 2) (pa_cons (pv 1) pa_nil))) pa_nil))) pa_nil))), ?_⟩
    have zi : Rz 3000 (n : Rat) := Rz.int zn (by decide)
    refine ⟨_, rfl, _, rfl, _, rfl, .int n, u, n, b, rfl, Rv.int, hu, zi.mono (by decide), zb.mono (by decide), trivial, fun p1 H1 n1 s1 h1 => ?_⟩
    have z1 : Rz 3700 (n * b) := zi.mul zb (by decide)
    refine ⟨v, .ref p1, a, _, rfl, hv.same s1, h1.rv, za.mono (by decide), z1.mono (by decide), trivial, fun p2 H2 n2 s2 h2 => ?_⟩
    have z2 : Rz 4500 (a + n * b) := za.add z1 (by decide)
    exact ⟨.ref p2, _, rfl, h2.rv, z2.mono (by decide), fun H3 s3 => q H3 (s1.trans (s2.trans s3))⟩
end
section
variable {P : Program} {w : World} {K : PySem.W.Frag} {mg : Str → Option Value} {base : Heap} {C : Addr}
theorem ok_from (D : Df K mg "first_from" s_first_from []) (F : ShF P w K mg base C) : Ca P w K mg base CX0 6 "first_from" s_first_from [] ["first", "step", "day"] (spFrom C) := by
  refine ca0 (k := 5) D c_first_from (fun vs H Q E h => ?_) fun f cdv A outer s H vs Q E hr h => ?_
  · obtain ⟨v, u, a, b, n, rfl, _⟩ := h
    rfl
  · obtain ⟨v, u, a, b, n, rfl, hv, hu, za, zb, zn, nb, q⟩ := h
    refine ⟨_, pss_one (ps_ret (pe_ca F.up b_rounded_up hr (by decide) pass0 rfl (pa_cons (pe_ca F.over b_over hr (by decide) pass0 rfl (pa_cons (pe_ca F.minus b_minus hr (by decide) pass0 rfl (pa_cons (pv 2) (pa_cons (pv 0) pa_nil))) (pa_cons (pv 1) pa_nil))) pa_nil))), ?_⟩
    have zi : Rz 3000 (n : Rat) := Rz.int zn (by decide)
    refine ⟨_, rfl, _, rfl, .int n, v, n, a, rfl, Rv.int, hv, zi.mono (by decide), za.mono (by decide), trivial, fun p1 H1 n1 s1 h1 => ?_⟩
    have z1 : Rz 3700 ((n : Rat) - a) := zi.sub za (by decide)
    refine ⟨_, rfl, .ref p1, u, _, b, rfl, h1.rv, hu.same s1, z1.mono (by decide), zb.mono (by decide), nb, fun p2 H2 n2 s2 h2 => ?_⟩
    have z2 : Rz 4500 (((n : Rat) - a) / b) := z1.div zb nb (by decide)
    exact ⟨.ref p2, _, rfl, h2.rv, z2.mono (by decide), fun H3 s3 => q H3 (s1.trans (s2.trans s3))⟩
end
section
variable {P : Program} {w : World} {K : PySem.W.Frag} {mg : Str → Option Value} {base : Heap} {C : Addr}
theorem ok_moment (D : Df K mg "moment_or_nought" s_moment_or_nought []) (F : ShF P w K mg base C) : Ca P w K mg base CX0 6 "moment_or_nought" s_moment_or_nought [] ["moment"] (spMoment C) := by
  refine ca0 (k := 5) D c_moment_or_nought (fun vs H Q E h => ?_) fun f cdv A outer s H vs Q E hr h => ?_
  · obtain ⟨v, q, rfl, _⟩ := h
    rfl
  · obtain ⟨v, a, rfl, hv, za, q⟩ := h
    refine ⟨_, pss_cons (ps_if (pt_cmp (pc_isN (pv 0))) (pss_one (ps_ret (pe_ci F.mkS bd_Share1 (by decide) rfl hr (by decide) pass0 rfl (pa_cons pe_int pa_nil)))) pss_nil)
      (pss_one (ps_ret (pe_ca F.asS b_as_share hr (by decide) pass0 rfl (pa_cons (pv 0) pa_nil)))), ?_⟩
    rcases hv with ⟨rfl, rfl⟩ | hv
    · refine ⟨_, rfl, _, rfl, iteT ?_⟩
      refine made_sh (by decide) (szi 0) (szi 1) fun p H' _ hs hp => ?_
      rw [divInt_one] at hp
      exact q p H' hs hp
    · have hn : v ≠ .non := by
        rcases hv with ⟨i, rfl, _⟩ | ⟨p, rfl, _⟩ <;> exact fun z => nomatch z
      refine ⟨_, rfl, _, rfl, ?_⟩
      rw [decide_eq_false hn]
      refine iteF ?_
      exact ⟨_, rfl, v, a, rfl, hv, za.mono (by decide), q⟩
end
section
variable {P : Program} {w : World} {K : PySem.W.Frag} {mg : Str → Option Value} {base : Heap} {C : Addr}
theorem ok_unfit (D : Df K mg "refuse_unfit" s_refuse_unfit []) (F : ShF P w K mg base C) (tw : Ca P w K mg base CX0 6 "twelfth" s_twelfth [] ["year"] (spTw C)) : Ca P w K mg base CX0 7 "refuse_unfit" s_refuse_unfit [] ["month", "year"] (spUnfit C) := by
  refine ca0 (k := 6) D c_refuse_unfit (fun vs H Q E h => ?_) fun f cdv A outer s H vs Q E hr h => ?_
  · obtain ⟨v, u, m, y, rfl, _⟩ := h
    rfl
  · obtain ⟨v, u, m, y, rfl, hv, hu, zm, zy, ft, q⟩ := h
    obtain ⟨tk, hM⟩ := F.marks
    refine ⟨_, pss_cons (ps_if (pt_val (pe_ca F.before b_before hr (by decide) pass0 rfl (pa_cons (pv 0) (pa_cons pe_int pa_nil)))) (pss_one ps_never) pss_nil)
      (pss_cons (ps_if (pt_val (pe_ca F.before b_before hr (by decide) pass0 rfl (pa_cons (pe_ca tw b_twelfth hr (by decide) pass0 rfl (pa_cons (pv 1) pa_nil)) (pa_cons (pe_ca F.up b_rounded_up hr (by decide) pass0 rfl (pa_cons (pv 0) pa_nil)) pa_nil)))) (pss_one ps_never) pss_nil)
      (pss_one (ps_if (pt_val (pe_ca F.before b_before hr (by decide) pass0 rfl (pa_cons (pe_ca F.times b_times hr (by decide) pass0 rfl (pa_cons (pe_op op_add (pe_glob (v := .int 12) rfl hM ⟨_, rfl⟩) pe_int) (pa_cons (pv 0) pa_nil)))
        (pa_cons (pe_ca F.plus b_plus hr (by decide) pass0 rfl (pa_cons (pv 1) (pa_cons pe_int pa_nil))) pa_nil)))) (pss_one ps_never) pss_nil))), ?_⟩
    refine ⟨_, rfl, v, .int 1, m, _, rfl, hv, Rv.int, zm.mono (by decide), Rz.int (szi 1) (by decide), fun H1 s1 => ⟨_, rfl, ?_⟩⟩
    rw [decide_eq_false (show ¬ m < ((1 : Int) : Rat) from Rat.not_lt.mpr ft.one)]
    refine iteF ?_
    refine ⟨_, rfl, u, y, rfl, hu.same s1, zy.mono (by decide), fun p2 H2 n2 s2 h2 => ?_⟩
    refine ⟨_, rfl, v, m, rfl, hv.same (s1.trans s2), zm.mono (by decide), fun H3 s3 => ?_⟩
    have z2 : Rz 700 (y / 12) := zy.div (l := 4) (Rz.int (szi 12) (by decide)) twelve_ne (by decide)
    refine ⟨.ref p2, .int m.ceil, _, _, rfl, (h2.same s3).rv, Rv.int, z2.mono (by decide), Rz.int ((Sz.ceil zm).mono (by decide)) (by decide), fun H4 s4 => ⟨_, rfl, ?_⟩⟩
    rw [decide_eq_false (show ¬ y / 12 < (m.ceil : Rat) from Rat.not_lt.mpr ft.between)]
    refine iteF ?_
    have s14 : Same H H4 := s1.trans (s2.trans (s3.trans s4))
    refine ⟨_, _, rfl, rfl, _, rfl, .int 13, v, _, m, rfl, Rv.int, hv.same s14, Rz.int (szi 13) (by decide), zm.mono (by decide), trivial, fun p5 H5 n5 s5 h5 => ?_⟩
    refine ⟨_, rfl, u, .int 1, y, _, rfl, hu.same (s14.trans s5), Rv.int, zy.mono (by decide), Rz.int (szi 1) (by decide), trivial, fun p6 H6 n6 s6 h6 => ?_⟩
    have z5 : Rz 700 (((13 : Int) : Rat) * m) := Rz.mul (n := 4) (Rz.int (szi 13) (by decide)) zm (by decide)
    have z6 : Rz 700 (y + ((1 : Int) : Rat)) := zy.add (l := 1) (Rz.int (szi 1) (by decide)) (by decide)
    refine ⟨.ref p5, .ref p6, _, _, rfl, (h5.same s6).rv, h6.rv, z5.mono (by decide), z6.mono (by decide), fun H7 s7 => ⟨_, rfl, ?_⟩⟩
    rw [decide_eq_false (show ¬ ((13 : Int) : Rat) * m < y + ((1 : Int) : Rat) from Rat.not_lt.mpr ft.thirteen)]
    refine iteF ?_
    exact q H7 (s14.trans (s5.trans (s6.trans s7)))
end
/-! ### Calendar -/
def cfs (a b c d : Addr) : List (Str × V) := putF "mark" (.ref d) (putF "moon" (.ref c) (putF "year" (.ref b) (putF "month" (.ref a) [])))
theorem my_ : ¬ (("month" : Str) = "year") := by decide +kernel
theorem mm_ : ¬ (("month" : Str) = "moon") := by decide +kernel
theorem mk_ : ¬ (("month" : Str) = "mark") := by decide +kernel
theorem ym_ : ¬ (("year" : Str) = "moon") := by decide +kernel
theorem yk_ : ¬ (("year" : Str) = "mark") := by decide +kernel
theorem ok_ : ¬ (("moon" : Str) = "mark") := by decide +kernel
theorem cf_month (a b c d : Addr) : (cfs a b c d).lookup ("month" : Str) = some (.ref a) := by
  unfold cfs
  rw [lookup_putF, if_neg mk_, lookup_putF, if_neg mm_, lookup_putF, if_neg my_, lookup_putF, if_pos rfl]
theorem cf_year (a b c d : Addr) : (cfs a b c d).lookup ("year" : Str) = some (.ref b) := by
  unfold cfs
  rw [lookup_putF, if_neg yk_, lookup_putF, if_neg ym_, lookup_putF, if_pos rfl]
theorem cf_moon (a b c d : Addr) : (cfs a b c d).lookup ("moon" : Str) = some (.ref c) := by
  unfold cfs
  rw [lookup_putF, if_neg ok_, lookup_putF, if_pos rfl]
theorem cf_mark (a b c d : Addr) : (cfs a b c d).lookup ("mark" : Str) = some (.ref d) := by
  unfold cfs
  rw [lookup_putF, if_pos rfl]
theorem cf_no (a b c d : Addr) {m : Str} (h1 : ¬ m = "mark" := by decide +kernel) (h2 : ¬ m = "moon" := by decide +kernel) (h3 : ¬ m = "year" := by decide +kernel) (h4 : ¬ m = "month" := by decide +kernel) : (cfs a b c d).lookup m = none := by
  unfold cfs
  rw [lookup_putF, if_neg h1, lookup_putF, if_neg h2, lookup_putF, if_neg h3, lookup_putF, if_neg h4]
  rfl
structure CaT (K : PySem.W.Frag) (C Cc : Addr) : Prop where
  cl : Cls K Cc
  n1 : NoAttr K Cc "month"
  n2 : NoAttr K Cc "year"
  n3 : NoAttr K Cc "moon"
  n4 : NoAttr K Cc "mark"
  ne : Cc ≠ C
/-- at p a Calendar of these four -/
def Cl (C Cc : Addr) (H : Hp) (p : Addr) (m y o k : Rat) : Prop := ∃ dx a b c d, H p = some (.ins Cc dx (cfs a b c d)) ∧ Sh C H a m ∧ Sh C H b y ∧ Sh C H c o ∧ Sh C H d k
theorem Cl.same {C Cc : Addr} {H H1 : Hp} {p : Addr} {m y o k : Rat} (h : Cl C Cc H p m y o k) (s : Same H H1) : Cl C Cc H1 p m y o k := by
  obtain ⟨dx, a, b, c, d, e, h1, h2, h3, h4⟩ := h
  exact ⟨dx, a, b, c, d, s _ _ e, h1.same s, h2.same s, h3.same s, h4.same s⟩
/-- one that can be reckoned with -/
structure Good (m y o k : Rat) : Prop where
  fit : Fit m y
  zm : Rz 70 m
  zy : Rz 70 y
  zo : Rz 70 o
  zk : Rz 70 k
theorem Sh.put {C Cc : Addr} {H : Hp} {p dx a : Addr} {fs gs : List (Str × V)} {q : Rat} (ne : Cc ≠ C) (hp : H p = some (.ins Cc dx fs)) (h : Sh C H a q) : Sh C (upd H p (.ins Cc dx gs)) a q := by
  obtain ⟨d, e⟩ := h
  refine ⟨d, ?_⟩
  rw [upd_ne (ne_of e hp fun z => ne (by injection z with z1 z2 z3; exact z1.symm))]
  exact e
theorem Rv.put {C Cc : Addr} {H : Hp} {p dx : Addr} {v : V} {fs gs : List (Str × V)} {q : Rat} (ne : Cc ≠ C) (hp : H p = some (.ins Cc dx fs)) (h : Rv C H v q) : Rv C (upd H p (.ins Cc dx gs)) v q := by
  rcases h with h | ⟨a, e, h⟩
  · exact .inl h
  · exact .inr ⟨a, e, h.put ne hp⟩
theorem Mv.put {C Cc : Addr} {H : Hp} {p dx : Addr} {v : V} {fs gs : List (Str × V)} {q : Rat} (ne : Cc ≠ C) (hp : H p = some (.ins Cc dx fs)) (h : Mv C H v q) : Mv C (upd H p (.ins Cc dx gs)) v q := by
  rcases h with h | h
  · exact .inl h
  · exact .inr (h.put ne hp)
theorem But.put {l : Addr} {H H1 : Hp} {o : HO} (a : But l H H1) : But l H (L2.upd H1 l o) := fun c u hc e => by
  rw [upd_ne hc]
  exact a c u hc e
/-! the methods -/
def spM1 (C Cc : Addr) (n : Nat) (g : Rat → Rat → Rat → Rat → Int → V) : Sp := fun vs H Q _ => ∃ (p : Addr) (i : Int) (m y o k : Rat), vs = [.ref p, .int i] ∧ Cl C Cc H p m y o k ∧ Good m y o k ∧ Sz n i ∧ ∀ H', Same H H' → Q (g m y o k i) H'
def miF (m y o k : Rat) (i : Int) : V := if mdF y k (jF y k (stF m o i)) < stF m o (i + 1) then .int (jF y k (stF m o i)) else .non
theorem Good.ztw {m y o k : Rat} (g : Good m y o k) : Rz 80 (y / 12) := g.zy.div (l := 4) (Rz.int (szi 12) (by decide)) twelve_ne (by decide)
theorem Good.zst {m y o k : Rat} (g : Good m y o k) {n l : Nat} {i : Int} (h : Sz n i) (h0 : 0 < n) (hl : n + 150 < l) : Sz l (stF m o i) := (Sz.floor (Rz.add (m := n + 150) g.zo (Rz.mul (m := n + 75) (Rz.int h h0) g.zm (by omega)) (by omega))).mono (by omega)
theorem Good.zmd {m y o k : Rat} (g : Good m y o k) {n l : Nat} {i : Int} (h : Sz n i) (h0 : 0 < n) (hl : n + 160 < l) : Sz l (mdF y k i) := (Sz.floor (Rz.add (m := n + 160) g.zk (Rz.mul (m := n + 85) (Rz.int h h0) g.ztw (by omega)) (by omega))).mono (by omega)
theorem Good.zj {m y o k : Rat} (g : Good m y o k) {n l : Nat} {i : Int} (h : Sz n i) (h0 : 0 < n) (hl : n + 160 < l) : Sz l (jF y k i) := (Sz.ceil (Rz.div (m := n + 160) (Rz.sub (m := n + 75) (Rz.int h h0) g.zk (by omega)) g.ztw (by have := g.fit.ypos; grind) (by omega))).mono (by omega)
def spCaI (C Cc : Addr) : Sp := fun vs H Q _ => ∃ (p dx : Addr) (v u x z : V) (m y o k : Rat), vs = [.ref p, v, u, x, z] ∧ H p = some (.ins Cc dx []) ∧ Rv C H v m ∧ Rv C H u y ∧ Mv C H x o ∧ Mv C H z k ∧ Good m y o k ∧
  ∀ H', But p H H' → Cl C Cc H' p m y o k → Q .non H'
section
variable {P : Program} {w : World} {K : PySem.W.Frag} {mg : Str → Option Value} {base : Heap} {C Cc : Addr}
theorem ok_caI (D : Di K mg "Calendar" Cc "Calendar.__init__" s_Calendar_init [.non, .non]) (T : CaT K C Cc) (F : ShF P w K mg base C) (un : Ca P w K mg base CX0 7 "refuse_unfit" s_refuse_unfit [] ["month", "year"] (spUnfit C))
    (mo : Ca P w K mg base CX0 6 "moment_or_nought" s_moment_or_nought [] ["moment"] (spMoment C)) :
    Ci P w K mg base CX0 8 "Calendar" Cc "Calendar.__init__" s_Calendar_init [.non, .non] ["self", "month", "year", "moon", "mark"] (spCaI C Cc) := by
  refine ci0 (k := 7) D c_Calendar_init (fun vs H Q E h => ?_) fun f cdv A outer s H vs Q E hr h => ?_
  · obtain ⟨p, dx, v, u, x, z, m, y, o, k, rfl, _⟩ := h
    rfl
  · obtain ⟨p, dx, v, u, x, z, m, y, o, k, rfl, hp, hv, hu, hx, hz, g, q⟩ := h
    refine ⟨_, pss_cons (ps_expr (pe_ca un b_refuse_unfit hr (by decide) pass0 rfl (pa_cons (pv 1) (pa_cons (pv 2) pa_nil))))
      (pss_cons (ps_fld (pv 0) (pe_ca F.asS b_as_share hr (by decide) pass0 rfl (pa_cons (pv 1) pa_nil)) rfl)
      (pss_cons (ps_fld (pv 0) (pe_ca F.asS b_as_share hr (by decide) pass0 rfl (pa_cons (pv 2) pa_nil)) rfl)
      (pss_cons (ps_fld (pv 0) (pe_ca mo b_moment_or_nought hr (by decide) pass0 rfl (pa_cons (pv 3) pa_nil)) rfl)
      (pss_one (ps_fld (pv 0) (pe_ca mo b_moment_or_nought hr (by decide) pass0 rfl (pa_cons (pv 4) pa_nil)) rfl))))), ?_⟩
    refine ⟨_, rfl, _, rfl, v, u, m, y, rfl, hv, hu, g.zm.mono (by decide), g.zy.mono (by decide), g.fit, fun H1 s1 => ?_⟩
    refine ⟨_, rfl, v, m, rfl, hv.same s1, g.zm.mono (by decide), fun a H2 s2 ha => ?_⟩
    have hp2 := s2 _ _ (s1 _ _ hp)
    refine ⟨_, rfl, p, Cc, dx, _, rfl, hp2, T.cl, T.n1, (by show 0 < 1000; decide), ?_⟩
    refine ⟨_, rfl, u, y, rfl, ((hu.same s1).same s2).put T.ne hp2, g.zy.mono (by decide), fun b H3 s3 hb => ?_⟩
    have hp3 := s3 _ _ (upd_same (H := H2) (a := p))
    refine ⟨_, rfl, p, Cc, dx, _, rfl, hp3, T.cl, T.n2, (by show 1 < 1000; decide), ?_⟩
    refine ⟨_, rfl, x, o, rfl, ((((hx.same s1).same s2).put T.ne hp2).same s3).put T.ne hp3, g.zo.mono (by decide), fun c H4 s4 hc => ?_⟩
    have hp4 := s4 _ _ (upd_same (H := H3) (a := p))
    refine ⟨_, rfl, p, Cc, dx, _, rfl, hp4, T.cl, T.n3, (by show 2 < 1000; decide), ?_⟩
    refine ⟨_, rfl, z, k, rfl, ((((((hz.same s1).same s2).put T.ne hp2).same s3).put T.ne hp3).same s4).put T.ne hp4, g.zk.mono (by decide), fun d H5 s5 hd => ?_⟩
    have hp5 := s5 _ _ (upd_same (H := H4) (a := p))
    refine ⟨_, rfl, p, Cc, dx, _, rfl, hp5, T.cl, T.n4, (by show 3 < 1000; decide), ?_⟩
    refine q _ ?_ ⟨dx, a, b, c, d, upd_same, ?_, ?_, ?_, hd.put T.ne hp5⟩
    · have b1 : But p H H2 := But.same (s1.trans s2)
      have b2 : But p H H3 := b1.put.trans (But.same s3)
      have b3 : But p H H4 := b2.put.trans (But.same s4)
      exact (b3.put.trans (But.same s5)).put
    · exact (((((((ha.put T.ne hp2).same s3).put T.ne hp3).same s4).put T.ne hp4).same s5).put T.ne hp5)
    · exact (((((hb.put T.ne hp3).same s4).put T.ne hp4).same s5).put T.ne hp5)
    · exact (((hc.put T.ne hp4).same s5).put T.ne hp5)
end
section
variable {P : Program} {w : World} {K : PySem.W.Frag} {mg : Str → Option Value} {base : Heap} {C Cc : Addr}
theorem ok_start (D : Dm K Cc "start" "Calendar.start" s_Calendar_start) (T : CaT K C Cc) (nth : Ca P w K mg base CX0 6 "nth_day" s_nth_day [] ["first", "step", "n"] (spNth C)) :
    Cm P w K mg base CX0 7 Cc "start" "Calendar.start" s_Calendar_start ["self", "k"] (spM1 C Cc 3000 fun m _ o _ i => .int (stF m o i)) := by
  refine cm0 (k := 6) D c_Calendar_start (fun vs H Q E h => ?_) fun f cdv A outer s H vs Q E hr h => ?_
  · obtain ⟨p, i, m, y, o, k, rfl, _⟩ := h
    rfl
  · obtain ⟨p, i, m, y, o, k, rfl, ⟨dx, a, b, c, d, e, h1, h2, h3, h4⟩, g, zi, q⟩ := h
    refine ⟨_, pss_one (ps_ret (pe_ca nth b_nth_day hr (by decide) pass0 rfl (pa_cons (pe_fld (pv 0) rfl) (pa_cons (pe_fld (pv 0) rfl) (pa_cons (pv 1) pa_nil))))), ?_⟩
    exact ⟨_, rfl, p, Cc, dx, _, _, rfl, e, T.cl, T.n3, cf_moon _ _ _ _, _, rfl, p, Cc, dx, _, _, rfl, e, T.cl, T.n1, cf_month _ _ _ _, _, rfl, _, _, o, m, i, rfl, h3.rv, h1.rv, g.zo.mono (by decide), g.zm.mono (by decide), zi, q⟩
end
section
variable {P : Program} {w : World} {K : PySem.W.Frag} {mg : Str → Option Value} {base : Heap} {C Cc : Addr}
theorem ok_month_at (D : Dm K Cc "month_at" "Calendar.month_at" s_Calendar_month_at) (T : CaT K C Cc) (fr : Ca P w K mg base CX0 6 "first_from" s_first_from [] ["first", "step", "day"] (spFrom C)) :
    Cm P w K mg base CX0 7 Cc "month_at" "Calendar.month_at" s_Calendar_month_at ["self", "day"] (spM1 C Cc 2900 fun m _ o _ i => .int (maF m o i)) := by
  refine cm0 (k := 6) D c_Calendar_month_at (fun vs H Q E h => ?_) fun f cdv A outer s H vs Q E hr h => ?_
  · obtain ⟨p, i, m, y, o, k, rfl, _⟩ := h
    rfl
  · obtain ⟨p, i, m, y, o, k, rfl, ⟨dx, a, b, c, d, e, h1, h2, h3, h4⟩, g, zi, q⟩ := h
    refine ⟨_, pss_one (ps_ret (pe_op op_sub (pe_ca fr b_first_from hr (by decide) pass0 rfl (pa_cons (pe_fld (pv 0) rfl) (pa_cons (pe_fld (pv 0) rfl) (pa_cons (pe_op op_add (pv 1) pe_int) pa_nil)))) pe_int)), ?_⟩
    refine ⟨_, rfl, p, Cc, dx, _, _, rfl, e, T.cl, T.n3, cf_moon _ _ _ _, _, rfl, p, Cc, dx, _, _, rfl, e, T.cl, T.n1, cf_month _ _ _ _, _, rfl, _, _, rfl, rfl, _, _, o, m, i + 1, rfl, h3.rv, h1.rv, g.zo.mono (by decide), g.zm.mono (by decide), ?_, (by have := g.fit.pos; grind), fun H' hs => ⟨_, _, rfl, rfl, q H' hs⟩⟩
    exact Sz.add (n := 2900) zi (szi 1 (Nat.one_lt_two_pow (by decide))) (by decide)
end
section
variable {P : Program} {w : World} {K : PySem.W.Frag} {mg : Str → Option Value} {base : Heap} {C Cc : Addr}
theorem ok_mark_day (D : Dm K Cc "mark_day" "Calendar.mark_day" s_Calendar_mark_day) (T : CaT K C Cc) (nth : Ca P w K mg base CX0 6 "nth_day" s_nth_day [] ["first", "step", "n"] (spNth C)) (tw : Ca P w K mg base CX0 6 "twelfth" s_twelfth [] ["year"] (spTw C)) :
    Cm P w K mg base CX0 7 Cc "mark_day" "Calendar.mark_day" s_Calendar_mark_day ["self", "j"] (spM1 C Cc 3000 fun _ y _ k i => .int (mdF y k i)) := by
  refine cm0 (k := 6) D c_Calendar_mark_day (fun vs H Q E h => ?_) fun f cdv A outer s H vs Q E hr h => ?_
  · obtain ⟨p, i, m, y, o, k, rfl, _⟩ := h
    rfl
  · obtain ⟨p, i, m, y, o, k, rfl, ⟨dx, a, b, c, d, e, h1, h2, h3, h4⟩, g, zi, q⟩ := h
    refine ⟨_, pss_one (ps_ret (pe_ca nth b_nth_day hr (by decide) pass0 rfl (pa_cons (pe_fld (pv 0) rfl) (pa_cons (pe_ca tw b_twelfth hr (by decide) pass0 rfl (pa_cons (pe_fld (pv 0) rfl) pa_nil)) (pa_cons (pv 1) pa_nil))))), ?_⟩
    refine ⟨_, rfl, p, Cc, dx, _, _, rfl, e, T.cl, T.n4, cf_mark _ _ _ _, _, rfl, p, Cc, dx, _, _, rfl, e, T.cl, T.n2, cf_year _ _ _ _, _, y, rfl, h2.rv, g.zy.mono (by decide), fun p1 H1 n1 s1 t1 => ?_⟩
    exact ⟨_, rfl, _, _, k, _, i, rfl, (h4.same s1).rv, t1.rv, g.zk.mono (by decide), g.ztw.mono (by decide), zi, fun H' hs => q H' (s1.trans hs)⟩
end
section
variable {P : Program} {w : World} {K : PySem.W.Frag} {mg : Str → Option Value} {base : Heap} {C Cc : Addr}
theorem ok_month_with (D : Dm K Cc "month_with" "Calendar.month_with" s_Calendar_month_with) (T : CaT K C Cc)
    (ma : Cm P w K mg base CX0 7 Cc "month_at" "Calendar.month_at" s_Calendar_month_at ["self", "day"] (spM1 C Cc 2900 fun m _ o _ i => .int (maF m o i)))
    (md : Cm P w K mg base CX0 7 Cc "mark_day" "Calendar.mark_day" s_Calendar_mark_day ["self", "j"] (spM1 C Cc 3000 fun _ y _ k i => .int (mdF y k i))) :
    Cm P w K mg base CX0 8 Cc "month_with" "Calendar.month_with" s_Calendar_month_with ["self", "j"] (spM1 C Cc 2000 fun m y o k i => .int (maF m o (mdF y k i))) := by
  refine cm0 (k := 7) D c_Calendar_month_with (fun vs H Q E h => ?_) fun f cdv A outer s H vs Q E hr h => ?_
  · obtain ⟨p, i, m, y, o, k, rfl, _⟩ := h
    rfl
  · obtain ⟨p, i, m, y, o, k, rfl, hc, g, zi, q⟩ := h
    obtain ⟨dx, a, b, c, d, e, h1, h2, h3, h4⟩ := id hc
    refine ⟨_, pss_one (ps_ret (pe_cm ma b_Calendar_month_at hr (by decide) pass0 (pv 0) (pa_cons (pe_cm md b_Calendar_mark_day hr (by decide) pass0 (pv 0) (pa_cons (pv 1) pa_nil)) pa_nil))), ?_⟩
    refine ⟨_, rfl, p, dx, _, rfl, e, cf_no _ _ _ _, _, rfl, p, dx, _, rfl, e, cf_no _ _ _ _, _, rfl, p, i, m, y, o, k, rfl, hc, g, zi.mono (by decide), fun H1 s1 => ?_⟩
    exact ⟨p, _, m, y, o, k, rfl, hc.same s1, g, g.zmd zi (by decide) (by decide), fun H2 s2 => q H2 (s1.trans s2)⟩
end
section
variable {P : Program} {w : World} {K : PySem.W.Frag} {mg : Str → Option Value} {base : Heap} {C Cc : Addr}
theorem ok_mark_in (D : Dm K Cc "mark_in" "Calendar.mark_in" s_Calendar_mark_in) (T : CaT K C Cc) (fr : Ca P w K mg base CX0 6 "first_from" s_first_from [] ["first", "step", "day"] (spFrom C)) (tw : Ca P w K mg base CX0 6 "twelfth" s_twelfth [] ["year"] (spTw C))
    (stt : Cm P w K mg base CX0 7 Cc "start" "Calendar.start" s_Calendar_start ["self", "k"] (spM1 C Cc 3000 fun m _ o _ i => .int (stF m o i)))
    (md : Cm P w K mg base CX0 7 Cc "mark_day" "Calendar.mark_day" s_Calendar_mark_day ["self", "j"] (spM1 C Cc 3000 fun _ y _ k i => .int (mdF y k i))) :
    Cm P w K mg base CX0 8 Cc "mark_in" "Calendar.mark_in" s_Calendar_mark_in ["self", "k"] (spM1 C Cc 1400 miF) := by
  refine cm0 (k := 7) D c_Calendar_mark_in (fun vs H Q E h => ?_) fun f cdv A outer s H vs Q E hr h => ?_
  · obtain ⟨p, i, m, y, o, k, rfl, _⟩ := h
    rfl
  · obtain ⟨p, i, m, y, o, k, rfl, hc, g, zi, q⟩ := h
    obtain ⟨dx, a, b, c, d, e, h1, h2, h3, h4⟩ := id hc
    refine ⟨_, pss_cons (ps_set (i := 2) c_Calendar_mark_in.nd rfl (.inl rfl) (pe_ca fr b_first_from hr (by decide) pass0 rfl (pa_cons (pe_fld (pv 0) rfl) (pa_cons (pe_ca tw b_twelfth hr (by decide) pass0 rfl (pa_cons (pe_fld (pv 0) rfl) pa_nil)) (pa_cons (pe_cm stt b_Calendar_start hr (by decide) pass0 (pv 0) (pa_cons (pv 1) pa_nil)) pa_nil)))))
      (pss_cons (ps_if (pt_cmpR op_lt (pe_cm md b_Calendar_mark_day hr (by decide) pass0 (pv 0) (pa_cons (pv 2) pa_nil)) (pe_cm stt b_Calendar_start hr (by decide) pass0 (pv 0) (pa_cons (pe_op op_add (pv 1) pe_int) pa_nil)) (nomark _)) (pss_one (ps_ret (pv 2))) pss_nil)
      (pss_one (ps_ret pe_non))), ?_⟩
    have zs : Sz 2100 (stF m o i) := g.zst zi (by decide) (by decide)
    have zj : Sz 2900 (jF y k (stF m o i)) := g.zj zs (by decide) (by decide)
    refine ⟨_, rfl, p, Cc, dx, _, _, rfl, e, T.cl, T.n4, cf_mark _ _ _ _, _, rfl, p, Cc, dx, _, _, rfl, e, T.cl, T.n2, cf_year _ _ _ _, _, y, rfl, h2.rv, g.zy.mono (by decide), fun p1 H1 n1 s1 t1 => ?_⟩
    refine ⟨_, rfl, p, dx, _, rfl, s1 _ _ e, cf_no _ _ _ _, _, rfl, p, i, m, y, o, k, rfl, hc.same s1, g, zi.mono (by decide), fun H2 s2 => ?_⟩
    have s12 : Same H H2 := s1.trans s2
    refine ⟨_, _, k, _, _, rfl, (h4.same s12).rv, (t1.same s2).rv, g.zk.mono (by decide), g.ztw.mono (by decide), zs.mono (by decide), (by have := g.fit.ypos; grind), fun H3 s3 => ?_⟩
    have s13 : Same H H3 := s12.trans s3
    refine ⟨_, rfl, p, dx, _, rfl, s13 _ _ e, cf_no _ _ _ _, _, rfl, p, _, m, y, o, k, rfl, hc.same s13, g, zj.mono (by decide), fun H4 s4 => ?_⟩
    have s14 : Same H H4 := s13.trans s4
    refine ⟨_, rfl, p, dx, _, rfl, s14 _ _ e, cf_no _ _ _ _, _, rfl, _, _, rfl, rfl, p, _, m, y, o, k, rfl, hc.same s14, g, Sz.add (n := 1400) zi (szi 1 (Nat.one_lt_two_pow (by decide))) (by decide), fun H5 s5 => ⟨_, _, rfl, rfl, _, rfl, ?_⟩⟩
    have s15 : Same H H5 := s14.trans s5
    have q5 := q H5 s15
    unfold miF at q5
    refine ite2 (fun hb => ?_) (fun hb => ?_)
    · rw [if_pos (show mdF y k (jF y k (stF m o i)) < stF m o (i + 1) from of_decide_eq_true hb)] at q5
      exact ⟨_, rfl, q5⟩
    · rw [if_neg (show ¬ mdF y k (jF y k (stF m o i)) < stF m o (i + 1) from fun z => hb (decide_eq_true z))] at q5
      exact q5
end
/-! ### the law's own fractions: tuples in lowest terms -/
theorem int_num (i : Int) : ((i : Rat)).num = i := rfl
theorem int_den (i : Int) : ((i : Rat)).den = 1 := rfl
def Tp (H : Hp) (a : Addr) (q : Rat) : Prop := H a = some (.tup [.int q.num, .int q.den])
theorem Tp.same {H H1 : Hp} {a : Addr} {q : Rat} (h : Tp H a q) (s : Same H H1) : Tp H1 a q := s _ _ h
/-- a fraction not always in lowest terms -/
def Tq (H : Hp) (a : Addr) (n : Nat) (q : Rat) : Prop := ∃ t b : Int, H a = some (.tup [.int t, .int b]) ∧ b ≠ 0 ∧ q = Rat.divInt t b ∧ Sz n t ∧ Sz n b
theorem Tp.tq {H : Hp} {a : Addr} {n : Nat} {q : Rat} (h : Tp H a q) (z : Rz n q) : Tq H a n q := ⟨q.num, q.den, h, Int.ne_of_gt (den_pos q), (Rat.num_divInt_den q).symm, z.1, z.2⟩
theorem Tq.same {H H1 : Hp} {a : Addr} {n : Nat} {q : Rat} (h : Tq H a n q) (s : Same H H1) : Tq H1 a n q := by
  obtain ⟨t, b, e, r⟩ := h
  exact ⟨t, b, s _ _ e, r⟩
def spT2 (g : Rat → Rat → Rat) : Sp := fun vs H Q _ => ∃ (a b : Addr) (x y : Rat), vs = [.ref a, .ref b] ∧ Tq H a 4300 x ∧ Tq H b 4300 y ∧ ∀ r H', H r = none → Same H H' → Tp H' r (g x y) → Q (.ref r) H'
theorem int_div (i : Int) {n : Nat} (h : Sz n i) (h0 : 0 < n) {H : Hp} {t : Addr} : Tq (L2.upd H t (.tup [.int i, .int 1])) t n (i : Rat) := ⟨i, 1, upd_same, by decide, (divInt_one i).symm, h, szi 1 (Nat.one_lt_two_pow (by omega))⟩
section
variable {P : Program} {w : World} {K : PySem.W.Frag} {mg : Str → Option Value} {base : Heap}
theorem ok_lplus (D : Df K mg "_law_plus" s_l_plus []) (lo : Ca P w K mg base CX0 1 "_law_low" s_l_low [] ["_law_top", "_law_bottom"] spLow) : Ca P w K mg base CX0 2 "_law_plus" s_l_plus [] ["_law_one", "_law_two"] (spT2 fun a b => a + b) := by
  refine ca0 (k := 1) D c_l_plus (fun vs H Q E h => ?_) fun f cdv A outer s H vs Q E hr h => ?_
  · obtain ⟨a, b, x, y, rfl, _⟩ := h
    rfl
  · obtain ⟨a, b, x, y, rfl, ⟨t, u, ha, hu, rfl, zt, zu⟩, ⟨t', u', hb, hu', rfl, zt', zu'⟩, q⟩ := h
    refine ⟨_, pss_one (ps_ret (pe_ca lo b_l_low hr (by decide) pass0 rfl (pa_cons (pe_op op_add (pe_op op_mulA (pe_ix ix_tup (pv 0) pe_int (fun _ _ => rfl)) (pe_ix ix_tup (pv 1) pe_int (fun _ _ => rfl))) (pe_op op_mulA (pe_ix ix_tup (pv 1) pe_int (fun _ _ => rfl)) (pe_ix ix_tup (pv 0) pe_int (fun _ _ => rfl))))
      (pa_cons (pe_op op_mulA (pe_ix ix_tup (pv 0) pe_int (fun _ _ => rfl)) (pe_ix ix_tup (pv 1) pe_int (fun _ _ => rfl))) pa_nil)))), ?_⟩
    have mz : ∀ i j : Int, Sz 4300 i → Sz 4300 j → CMulA i j := fun i j hi hj => ⟨hi.mono (by decide), hj.mono (by decide)⟩
    have ha' := SqT.of (K := K) ha
    have hb' := SqT.of (K := K) hb
    refine ⟨_, rfl, a, _, _, _, rfl, rfl, ha', rfl, _, rfl, b, _, _, _, rfl, rfl, hb', rfl, _, _, rfl, rfl, mz _ _ zt zu', _, rfl, b, _, _, _, rfl, rfl, hb', rfl, _, rfl, a, _, _, _, rfl, rfl, ha', rfl, _, _, rfl, rfl, mz _ _ zt' zu, _, _, rfl, rfl,
      _, rfl, a, _, _, _, rfl, rfl, ha', rfl, _, rfl, b, _, _, _, rfl, rfl, hb', rfl, _, _, rfl, rfl, mz _ _ zu zu', _, _, rfl, Int.mul_ne_zero hu hu', ?_, ?_, fun r hr' => ?_⟩
    · exact Sz.add (n := 8600) ((zt.mul zu').mono (by decide)) ((zt'.mul zu).mono (by decide)) (by decide)
    · exact (zu.mul zu').mono (by decide)
    · refine q r _ hr' (Same.new hr') ?_
      show L2.upd H r _ r = _
      rw [upd_same, ← Rat.divInt_add_divInt t t' hu hu']
theorem ok_lby (D : Df K mg "_law_by" s_l_by []) (lo : Ca P w K mg base CX0 1 "_law_low" s_l_low [] ["_law_top", "_law_bottom"] spLow) : Ca P w K mg base CX0 2 "_law_by" s_l_by [] ["_law_one", "_law_two"] (spT2 fun a b => a * b) := by
  refine ca0 (k := 1) D c_l_by (fun vs H Q E h => ?_) fun f cdv A outer s H vs Q E hr h => ?_
  · obtain ⟨a, b, x, y, rfl, _⟩ := h
    rfl
  · obtain ⟨a, b, x, y, rfl, ⟨t, u, ha, hu, rfl, zt, zu⟩, ⟨t', u', hb, hu', rfl, zt', zu'⟩, q⟩ := h
    refine ⟨_, pss_one (ps_ret (pe_ca lo b_l_low hr (by decide) pass0 rfl (pa_cons (pe_op op_mulA (pe_ix ix_tup (pv 0) pe_int (fun _ _ => rfl)) (pe_ix ix_tup (pv 1) pe_int (fun _ _ => rfl)))
      (pa_cons (pe_op op_mulA (pe_ix ix_tup (pv 0) pe_int (fun _ _ => rfl)) (pe_ix ix_tup (pv 1) pe_int (fun _ _ => rfl))) pa_nil)))), ?_⟩
    have mz : ∀ i j : Int, Sz 4300 i → Sz 4300 j → CMulA i j := fun i j hi hj => ⟨hi.mono (by decide), hj.mono (by decide)⟩
    have ha' := SqT.of (K := K) ha
    have hb' := SqT.of (K := K) hb
    refine ⟨_, rfl, a, _, _, _, rfl, rfl, ha', rfl, _, rfl, b, _, _, _, rfl, rfl, hb', rfl, _, _, rfl, rfl, mz _ _ zt zt',
      _, rfl, a, _, _, _, rfl, rfl, ha', rfl, _, rfl, b, _, _, _, rfl, rfl, hb', rfl, _, _, rfl, rfl, mz _ _ zu zu', _, _, rfl, Int.mul_ne_zero hu hu', ?_, ?_, fun r hr' => ?_⟩
    · exact (zt.mul zt').mono (by decide)
    · exact (zu.mul zu').mono (by decide)
    · refine q r _ hr' (Same.new hr') ?_
      show L2.upd H r _ r = _
      rw [upd_same, ← Rat.divInt_mul_divInt t t']
end
/-! the law's calendars -/
def Fo (H : Hp) (r : Addr) (m y o k : Rat) : Prop := ∃ a b c d, H r = some (.tup [.ref a, .ref b, .ref c, .ref d]) ∧ Tp H a m ∧ Tp H b y ∧ Tp H c o ∧ Tp H d k
theorem Fo.same {H H1 : Hp} {r : Addr} {m y o k : Rat} (h : Fo H r m y o k) (s : Same H H1) : Fo H1 r m y o k := by
  obtain ⟨a, b, c, d, e, h1, h2, h3, h4⟩ := h
  exact ⟨a, b, c, d, s _ _ e, h1.same s, h2.same s, h3.same s, h4.same s⟩
def spFloor : Sp := fun vs H Q _ => ∃ (a : Addr) (x : Rat), vs = [.ref a] ∧ Tp H a x ∧ Rz 8700 x ∧ Q (.int x.floor) H
/-- a function of the four and a number -/
def spF1 (n : Nat) (g : Rat → Rat → Rat → Rat → Int → V) : Sp := fun vs H Q _ => ∃ (r : Addr) (i : Int) (m y o k : Rat), vs = [.ref r, .int i] ∧ Fo H r m y o k ∧ Good m y o k ∧ Sz n i ∧ ∀ H', Same H H' → Q (g m y o k i) H'
section
variable {P : Program} {w : World} {K : PySem.W.Frag} {mg : Str → Option Value} {base : Heap}
theorem ok_lfloor (D : Df K mg "_law_floor" s_l_floor []) : Ca P w K mg base CX0 1 "_law_floor" s_l_floor [] ["_law_fraction"] spFloor := by
  refine ca0 (k := 0) D c_l_floor (fun vs H Q E h => ?_) fun f cdv A outer s H vs Q E hr h => ?_
  · obtain ⟨a, x, rfl, _⟩ := h
    rfl
  · obtain ⟨a, x, rfl, ha, zx, q⟩ := h
    refine ⟨_, pss_one (ps_ret (pe_op op_fdivA (pe_ix ix_tup (pv 0) pe_int (fun _ _ => rfl)) (pe_ix ix_tup (pv 0) pe_int (fun _ _ => rfl)))), ?_⟩
    refine ⟨_, rfl, a, _, _, _, rfl, rfl, SqT.of ha, rfl, _, rfl, a, _, _, _, rfl, rfl, SqT.of ha, rfl, _, _, rfl, rfl, ⟨Int.ne_of_gt (den_pos x), zx.2.mono (by decide)⟩, ?_⟩
    have e : x.num.fdiv (x.den : Int) = x.floor := by rw [Rat.floor_def, Int.fdiv_eq_ediv_of_nonneg _ (Int.le_of_lt (den_pos x))]
    show Q (V.int (x.num.fdiv (x.den : Int))) _
    rw [e]
    exact q
theorem ok_lstart (D : Df K mg "_law_start" s_l_start []) (fl : Ca P w K mg base CX0 1 "_law_floor" s_l_floor [] ["_law_fraction"] spFloor) (pl : Ca P w K mg base CX0 2 "_law_plus" s_l_plus [] ["_law_one", "_law_two"] (spT2 fun a b => a + b)) (by' : Ca P w K mg base CX0 2 "_law_by" s_l_by [] ["_law_one", "_law_two"] (spT2 fun a b => a * b)) :
    Ca P w K mg base CX0 3 "_law_start" s_l_start [] ["_law_four_here", "_law_k"] (spF1 3000 fun m _ o _ i => .int (stF m o i)) := by
  refine ca0 (k := 2) D c_l_start (fun vs H Q E h => ?_) fun f cdv A outer s H vs Q E hr h => ?_
  · obtain ⟨r, i, m, y, o, k, rfl, _⟩ := h
    rfl
  · obtain ⟨r, i, m, y, o, k, rfl, ⟨a, b, c, d, e, h1, h2, h3, h4⟩, g, zi, q⟩ := h
    refine ⟨_, pss_one (ps_ret (pe_ca fl b_l_floor hr (by decide) pass0 rfl (pa_cons (pe_ca pl b_l_plus hr (by decide) pass0 rfl (pa_cons (pe_ix ix_tup (pv 0) pe_int (fun _ _ => rfl)) (pa_cons (pe_ca by' b_l_by hr (by decide) pass0 rfl (pa_cons (pe_ix ix_tup (pv 0) pe_int (fun _ _ => rfl)) (pa_cons (pe_tup (pa_cons (pv 1) (pa_cons pe_int pa_nil))) pa_nil))) pa_nil))) pa_nil))), ?_⟩
    refine ⟨_, rfl, r, _, _, _, rfl, rfl, SqT.of e, rfl, _, rfl, r, _, _, _, rfl, rfl, SqT.of e, rfl, _, rfl, (by show 2 ≤ sizeLine; decide), fun t ht => ?_⟩
    have s0 : Same H (L2.upd H t (.tup [.int i, .int 1])) := Same.new ht
    refine ⟨a, t, m, i, rfl, (h1.same s0).tq (g.zm.mono (by decide)), int_div i (zi.mono (by decide)) (by decide), fun t1 H1 n1 s1 e1 => ?_⟩
    have z1 : Rz 3400 (m * i) := g.zm.mul (Rz.int zi (by decide)) (by decide)
    have s01 := s0.trans s1
    refine ⟨c, t1, o, _, rfl, (h3.same s01).tq (g.zo.mono (by decide)), e1.tq (z1.mono (by decide)), fun t2 H2 n2 s2 e2 => ?_⟩
    refine ⟨t2, _, rfl, e2, (g.zo.add z1 (by decide : _ < 3800)).mono (by decide), ?_⟩
    have q2 := q H2 (s01.trans s2)
    have ee : o + m * (i : Rat) = o + i * m := by rw [Rat.mul_comm]
    show Q (V.int (o + m * (i : Rat)).floor) H2
    rw [ee]
    exact q2
theorem ok_lmark (D : Df K mg "_law_mark_day" s_l_mark_day []) (fl : Ca P w K mg base CX0 1 "_law_floor" s_l_floor [] ["_law_fraction"] spFloor) (pl : Ca P w K mg base CX0 2 "_law_plus" s_l_plus [] ["_law_one", "_law_two"] (spT2 fun a b => a + b)) (by' : Ca P w K mg base CX0 2 "_law_by" s_l_by [] ["_law_one", "_law_two"] (spT2 fun a b => a * b)) :
    Ca P w K mg base CX0 3 "_law_mark_day" s_l_mark_day [] ["_law_four_here", "_law_j"] (spF1 3000 fun _ y _ k i => .int (mdF y k i)) := by
  refine ca0 (k := 2) D c_l_mark_day (fun vs H Q E h => ?_) fun f cdv A outer s H vs Q E hr h => ?_
  · obtain ⟨r, i, m, y, o, k, rfl, _⟩ := h
    rfl
  · obtain ⟨r, i, m, y, o, k, rfl, ⟨a, b, c, d, e, h1, h2, h3, h4⟩, g, zi, q⟩ := h
    refine ⟨_, pss_one (ps_ret (pe_ca fl b_l_floor hr (by decide) pass0 rfl (pa_cons (pe_ca pl b_l_plus hr (by decide) pass0 rfl (pa_cons (pe_ix ix_tup (pv 0) pe_int (fun _ _ => rfl)) (pa_cons (pe_ca by' b_l_by hr (by decide) pass0 rfl (pa_cons (pe_ix ix_tup (pv 0) pe_int (fun _ _ => rfl)) (pa_cons (pe_tup (pa_cons (pv 1) (pa_cons pe_int pa_nil))) pa_nil))) pa_nil))) pa_nil))), ?_⟩
    refine ⟨_, rfl, r, _, _, _, rfl, rfl, SqT.of e, rfl, _, rfl, r, _, _, _, rfl, rfl, SqT.of e, rfl, _, rfl, (by show 2 ≤ sizeLine; decide), fun t ht => ?_⟩
    have s0 : Same H (L2.upd H t (.tup [.int i, .int 12])) := Same.new ht
    refine ⟨b, t, y, Rat.divInt i 12, rfl, (h2.same s0).tq (g.zy.mono (by decide)), ⟨i, 12, upd_same, by decide, rfl, zi.mono (by decide), szi 12 (Nat.lt_of_lt_of_le (by decide : 12 < 2 ^ 4) (Nat.pow_le_pow_right (by decide) (by decide)))⟩, fun t1 H1 n1 s1 e1 => ?_⟩
    have z1 : Rz 3400 (y * Rat.divInt i 12) := g.zy.mul (l := 3000) (Rz.divInt zi (szi 12 (Nat.lt_of_lt_of_le (by decide : 12 < 2 ^ 4) (Nat.pow_le_pow_right (by decide) (by decide)))) (by decide)) (by decide)
    have s01 := s0.trans s1
    refine ⟨d, t1, k, _, rfl, (h4.same s01).tq (g.zk.mono (by decide)), e1.tq (z1.mono (by decide)), fun t2 H2 n2 s2 e2 => ?_⟩
    refine ⟨t2, _, rfl, e2, (g.zk.add z1 (by decide : _ < 3800)).mono (by decide), ?_⟩
    have q2 := q H2 (s01.trans s2)
    have ee : k + y * Rat.divInt i 12 = k + i * (y / 12) := by
      have e12 : Rat.divInt i 12 = (i : Rat) / 12 := by
        have h := div_eq (i : Rat) ((12 : Int) : Rat) twelve_ne
        rw [int_num, int_den, int_num, int_den] at h
        have h' : Rat.divInt (i * ((1 : Nat) : Int)) (((1 : Nat) : Int) * 12) = Rat.divInt i 12 := by rw [show i * ((1 : Nat) : Int) = i by omega, show ((1 : Nat) : Int) * 12 = 12 by decide]
        rw [h'] at h
        exact h.symm
      rw [e12]
      grind
    show Q (V.int (k + y * Rat.divInt i 12).floor) H2
    rw [ee]
    exact q2
end
theorem Good.zma {m y o k : Rat} (g : Good m y o k) {n l : Nat} {i : Int} (h : Sz n i) (h0 : 0 < n) (hl : n + 150 < l) : Sz l (maF m o i) := by
  have z1 : Sz (n + 1) (i + 1) := Sz.add h (szi 1 (Nat.one_lt_two_pow (by omega))) (by omega)
  have z2 : Sz (n + 146) ((((i + 1 : Int) : Rat) - o) / m).ceil := Sz.ceil (Rz.div (m := n + 146) (Rz.sub (m := n + 75) (Rz.int z1 (by omega)) g.zo (by omega)) g.zm (by have := g.fit.pos; grind) (by omega))
  exact (Sz.sub z2 (szi 1 (Nat.one_lt_two_pow (by omega))) (by omega : n + 146 < n + 150)).mono (by omega)
def muI (i : Nat) (K : Int) : L2.St → Hp → Nat := fun σ _ => match σ[i]? with
  | some (some (.int k)) => (K - k).toNat
  | _ => 0
section
variable {P : Program} {w : World} {K : PySem.W.Frag} {mg : Str → Option Value} {base : Heap}
theorem ok_lma (D : Df K mg "_law_month_at" s_l_month_at []) (pl : Ca P w K mg base CX0 2 "_law_plus" s_l_plus [] ["_law_one", "_law_two"] (spT2 fun a b => a + b)) (st : Ca P w K mg base CX0 3 "_law_start" s_l_start [] ["_law_four_here", "_law_k"] (spF1 3000 fun m _ o _ i => .int (stF m o i))) :
    Ca P w K mg base CX0 4 "_law_month_at" s_l_month_at [] ["_law_four_here", "_law_day"] (spF1 2000 fun m _ o _ i => .int (maF m o i)) := by
  refine ca0 (k := 3) D c_l_month_at (fun vs H Q E h => ?_) fun f cdv A outer s H vs Q E hr h => ?_
  · obtain ⟨r, i, m, y, o, k, rfl, _⟩ := h
    rfl
  · obtain ⟨r, i, m, y, o, k, rfl, fo, g, zi, q⟩ := h
    obtain ⟨a, b, c, d, e, h1, h2, h3, h4⟩ := id fo
    refine ⟨_, pss_cons (ps_set (i := 2) c_l_month_at.nd rfl (.inl rfl) (pe_ca pl b_l_plus hr (by decide) pass0 rfl (pa_cons (pe_tup (pa_cons (pv 1) (pa_cons pe_int pa_nil))) (pa_cons (pe_tup (pa_cons (pe_op op_sub pe_int (pe_ix ix_tup (pe_ix ix_tup (pv 0) pe_int (fun _ _ => rfl)) pe_int (fun _ _ => rfl))) (pa_cons (pe_ix ix_tup (pe_ix ix_tup (pv 0) pe_int (fun _ _ => rfl)) pe_int (fun _ _ => rfl)) pa_nil))) pa_nil))))
      (pss_cons (ps_set (i := 3) c_l_month_at.nd rfl (.inl rfl) (pe_op op_sub (pe_op op_fdivA (pe_op op_mulA (pe_ix ix_tup (pv 2) pe_int (fun _ _ => rfl)) (pe_ix ix_tup (pe_ix ix_tup (pv 0) pe_int (fun _ _ => rfl)) pe_int (fun _ _ => rfl))) (pe_op op_mulA (pe_ix ix_tup (pv 2) pe_int (fun _ _ => rfl)) (pe_ix ix_tup (pe_ix ix_tup (pv 0) pe_int (fun _ _ => rfl)) pe_int (fun _ _ => rfl)))) pe_int))
      (pss_cons (ps_while PassesOwn.never (pt_cmpR op_le (pe_ca st b_l_start hr (by decide) pass0 rfl (pa_cons (pv 0) (pa_cons (pe_op op_add (pv 3) pe_int) pa_nil))) (pv 1) (nomark _)) (pss_one (ps_set (i := 3) c_l_month_at.nd rfl (.inl rfl) (pe_op op_add (pv 3) pe_int))))
      (pss_one (ps_ret (pv 3))))), ?_⟩
    have hm := g.fit.pos
    refine ⟨_, rfl, (by show 2 ≤ sizeLine; decide), fun t0 n0 => ?_⟩
    have s0 : Same H (L2.upd H t0 (.tup [.int i, .int 1])) := Same.new n0
    refine ⟨_, rfl, r, _, _, _, rfl, rfl, SqT.of (s0 _ _ e), rfl, c, _, _, _, rfl, rfl, SqT.of (s0 _ _ h3), rfl, _, _, rfl, rfl, _, rfl, r, _, _, _, rfl, rfl, SqT.of (s0 _ _ e), rfl, c, _, _, _, rfl, rfl, SqT.of (s0 _ _ h3), rfl, (by show 2 ≤ sizeLine; decide), fun t1 n1 => ?_⟩
    have s1 : Same _ (L2.upd (L2.upd H t0 (.tup [.int i, .int 1])) t1 (.tup [.int (0 - o.num), .int o.den])) := Same.new n1
    have zx : Rz 2400 ((i : Rat) - o) := (Rz.int zi (by decide)).sub g.zo (by decide)
    refine ⟨t0, t1, (i : Rat), -o, rfl, (int_div i (zi.mono (by decide)) (by decide)).same s1, ⟨0 - o.num, o.den, upd_same, Int.ne_of_gt (den_pos o), ?_, ?_, g.zo.2.mono (by decide)⟩, fun t2 H2 n2 s2 e2 => ?_⟩
    · rw [Int.zero_sub, ← Rat.neg_num, ← Rat.neg_den, Rat.num_divInt_den]
    · rw [Int.zero_sub]
      exact g.zo.1.neg.mono (by decide)
    have e2' : Tp H2 t2 ((i : Rat) - o) := by
      rw [Rat.sub_eq_add_neg]
      exact e2
    have s02 : Same H H2 := s0.trans (s1.trans s2)
    have hmn := num_pos hm
    have hdv : 0 < (((i : Rat) - o).den : Int) * m.num := Int.mul_pos (den_pos _) hmn
    refine ⟨_, rfl, t2, _, _, _, rfl, rfl, SqT.of e2', rfl, _, rfl, r, _, _, _, rfl, rfl, SqT.of (s02 _ _ e), rfl, a, _, _, _, rfl, rfl, SqT.of (s02 _ _ h1), rfl, _, _, rfl, rfl, ⟨zx.1.mono (by decide), g.zm.2.mono (by decide)⟩,
      _, rfl, t2, _, _, _, rfl, rfl, SqT.of e2', rfl, _, rfl, r, _, _, _, rfl, rfl, SqT.of (s02 _ _ e), rfl, a, _, _, _, rfl, rfl, SqT.of (s02 _ _ h1), rfl, _, _, rfl, rfl, ⟨zx.2.mono (by decide), g.zm.1.mono (by decide)⟩, _, _, rfl, rfl, ⟨Int.ne_of_gt hdv, (zx.2.mul g.zm.1).mono (by decide)⟩, _, _, rfl, rfl, ?_⟩
    have ek : (((i : Rat) - o).num * (m.den : Int)).fdiv ((((i : Rat) - o).den : Int) * m.num) = (((i : Rat) - o) / m).floor := by
      rw [Int.fdiv_eq_ediv_of_nonneg _ (Int.le_of_lt hdv), ← floor_divInt hdv, div_eq _ _ (by grind)]
    have zk0 : Sz 2800 ((((i : Rat) - o) / m).floor - 1) := Sz.sub (n := 2750) ((Sz.floor (zx.div g.zm (by grind) (by decide : _ < 2750)))) (szi 1 (Nat.one_lt_two_pow (by decide))) (by decide)
    have zK : Sz 2800 (maF m o i) := g.zma zi (by decide) (by decide)
    refine while_by (fun σ H' => ∃ k' : Int, σ = [some (.ref r), some (.int i), some (.ref t2), some (.int k')] ∧ (((i : Rat) - o) / m).floor - 1 ≤ k' ∧ k' ≤ maF m o i ∧ Same H H') (muI 3 (maF m o i)) ⟨_, ?_, Int.le_refl _, k0_le hm i, s02⟩ ?_ ?_
    · rw [← ek]
      rfl
    · rintro σ H' ⟨k', rfl, l1, l2, hs⟩
      refine ⟨_, rfl, _, rfl, _, _, rfl, rfl, r, k' + 1, m, y, o, k, rfl, fo.same hs, g, Sz.add (Sz.between zk0 zK l1 l2) (szi 1 (Nat.one_lt_two_pow (by decide))) (by decide), fun H3 s3 => ⟨_, rfl, _, _, rfl, rfl, _, rfl, ?_⟩⟩
      refine ite2 (fun hb => ?_) (fun hb => ?_)
      · have hle : k' + 1 ≤ maF m o i := (st_le hm).mp (of_decide_eq_true hb)
        refine ⟨_, rfl, _, _, rfl, rfl, ⟨k' + 1, rfl, by omega, hle, hs.trans s3⟩, ?_⟩
        show (maF m o i - (k' + 1)).toNat < (maF m o i - k').toNat
        omega
      · have hgt : ¬ k' + 1 ≤ maF m o i := fun z => hb (decide_eq_true ((st_le hm).mpr z))
        have ek' : k' = maF m o i := by omega
        subst ek'
        exact ⟨_, rfl, q H3 (hs.trans s3)⟩
    · rintro σ H' R R' hq ⟨v, h1, v2, h2, i1, j1, e1, e2, r', k', m', y', o', kk, e3, fo', g', z', hc⟩
      refine ⟨v, h1, v2, h2, i1, j1, e1, e2, r', k', m', y', o', kk, e3, fo', g', z', fun H3 s3 => ?_⟩
      obtain ⟨v3, h3, i2, j2, e4, e5, b', e6, hb⟩ := hc H3 s3
      exact ⟨v3, h3, i2, j2, e4, e5, b', e6, hq _ _ hb⟩
end
section
variable {P : Program} {w : World} {K : PySem.W.Frag} {mg : Str → Option Value} {base : Heap}
theorem ok_lmi (D : Df K mg "_law_mark_in" s_l_mark_in []) (pl : Ca P w K mg base CX0 2 "_law_plus" s_l_plus [] ["_law_one", "_law_two"] (spT2 fun a b => a + b)) (st : Ca P w K mg base CX0 3 "_law_start" s_l_start [] ["_law_four_here", "_law_k"] (spF1 3000 fun m _ o _ i => .int (stF m o i)))
    (md : Ca P w K mg base CX0 3 "_law_mark_day" s_l_mark_day [] ["_law_four_here", "_law_j"] (spF1 3000 fun _ y _ k i => .int (mdF y k i))) :
    Ca P w K mg base CX0 4 "_law_mark_in" s_l_mark_in [] ["_law_four_here", "_law_k"] (spF1 1400 miF) := by
  refine ca0 (k := 3) D c_l_mark_in (fun vs H Q E h => ?_) fun f cdv A outer s H vs Q E hr h => ?_
  · obtain ⟨r, i, m, y, o, k, rfl, _⟩ := h
    rfl
  · obtain ⟨r, i, m, y, o, k, rfl, fo, g, zi, q⟩ := h
    obtain ⟨a, b, c, d, e, h1, h2, h3, h4⟩ := id fo
    refine ⟨_, pss_cons (ps_set (i := 2) c_l_mark_in.nd rfl (.inl rfl) (pe_ca st b_l_start hr (by decide) pass0 rfl (pa_cons (pv 0) (pa_cons (pv 1) pa_nil))))
      (pss_cons (ps_set (i := 3) c_l_mark_in.nd rfl (.inl rfl) (pe_ca pl b_l_plus hr (by decide) pass0 rfl (pa_cons (pe_tup (pa_cons (pv 2) (pa_cons pe_int pa_nil))) (pa_cons (pe_tup (pa_cons (pe_op op_sub pe_int (pe_ix ix_tup (pe_ix ix_tup (pv 0) pe_int (fun _ _ => rfl)) pe_int (fun _ _ => rfl))) (pa_cons (pe_ix ix_tup (pe_ix ix_tup (pv 0) pe_int (fun _ _ => rfl)) pe_int (fun _ _ => rfl)) pa_nil))) pa_nil))))
      (pss_cons (ps_set (i := 4) c_l_mark_in.nd rfl (.inl rfl) (pe_op op_sub (pe_op op_fdivA (pe_op op_mulA (pe_op op_mulA (pe_ix ix_tup (pv 3) pe_int (fun _ _ => rfl)) pe_int) (pe_ix ix_tup (pe_ix ix_tup (pv 0) pe_int (fun _ _ => rfl)) pe_int (fun _ _ => rfl))) (pe_op op_mulA (pe_ix ix_tup (pv 3) pe_int (fun _ _ => rfl)) (pe_ix ix_tup (pe_ix ix_tup (pv 0) pe_int (fun _ _ => rfl)) pe_int (fun _ _ => rfl)))) pe_int))
      (pss_cons (ps_while PassesOwn.never (pt_cmpR op_lt (pe_ca md b_l_mark_day hr (by decide) pass0 rfl (pa_cons (pv 0) (pa_cons (pv 4) pa_nil))) (pv 2) (nomark _)) (pss_one (ps_set (i := 4) c_l_mark_in.nd rfl (.inl rfl) (pe_op op_add (pv 4) pe_int))))
      (pss_cons (ps_if (pt_cmpR op_lt (pe_ca md b_l_mark_day hr (by decide) pass0 rfl (pa_cons (pv 0) (pa_cons (pv 4) pa_nil))) (pe_ca st b_l_start hr (by decide) pass0 rfl (pa_cons (pv 0) (pa_cons (pe_op op_add (pv 1) pe_int) pa_nil))) (nomark _)) (pss_one (ps_ret (pv 4))) pss_nil)
      (pss_one (ps_ret pe_non)))))), ?_⟩
    have hy := g.fit.ypos
    have hy' := g.fit.ypos'
    have zs : Sz 2100 (stF m o i) := g.zst zi (by decide) (by decide)
    refine ⟨_, rfl, _, rfl, r, i, m, y, o, k, rfl, fo, g, zi.mono (by decide), fun Ha sa => ?_⟩
    refine ⟨_, rfl, (by show 2 ≤ sizeLine; decide), fun t0 n0 => ?_⟩
    have s0 : Same H (L2.upd Ha t0 (.tup [.int (stF m o i), .int 1])) := sa.trans (Same.new n0)
    refine ⟨_, rfl, r, _, _, _, rfl, rfl, SqT.of (s0 _ _ e), rfl, d, _, _, _, rfl, rfl, SqT.of (s0 _ _ h4), rfl, _, _, rfl, rfl, _, rfl, r, _, _, _, rfl, rfl, SqT.of (s0 _ _ e), rfl, d, _, _, _, rfl, rfl, SqT.of (s0 _ _ h4), rfl, (by show 2 ≤ sizeLine; decide), fun t1 n1 => ?_⟩
    have s1 : Same _ (L2.upd (L2.upd Ha t0 (.tup [.int (stF m o i), .int 1])) t1 (.tup [.int (0 - k.num), .int k.den])) := Same.new n1
    have zx : Rz 2500 ((stF m o i : Rat) - k) := (Rz.int zs (by decide)).sub g.zk (by decide)
    refine ⟨t0, t1, (stF m o i : Rat), -k, rfl, (int_div (stF m o i) (zs.mono (by decide)) (by decide)).same s1, ⟨0 - k.num, k.den, upd_same, Int.ne_of_gt (den_pos k), ?_, ?_, g.zk.2.mono (by decide)⟩, fun t2 H2 n2 s2 e2 => ?_⟩
    · rw [Int.zero_sub, ← Rat.neg_num, ← Rat.neg_den, Rat.num_divInt_den]
    · rw [Int.zero_sub]
      exact g.zk.1.neg.mono (by decide)
    have e2' : Tp H2 t2 ((stF m o i : Rat) - k) := by
      rw [Rat.sub_eq_add_neg]
      exact e2
    have s02 : Same H H2 := s0.trans (s1.trans s2)
    have hyn := num_pos hy'
    have hdv : 0 < (((stF m o i : Rat) - k).den : Int) * y.num := Int.mul_pos (den_pos _) hyn
    have z12 : Sz 2600 (((stF m o i : Rat) - k).num * 12) := (zx.1.mul (szi (n := 4) 12)).mono (by decide)
    refine ⟨_, rfl, t2, _, _, _, rfl, rfl, SqT.of e2', rfl, _, _, rfl, rfl, ⟨zx.1.mono (by decide), (szi (n := 4) 12).mono (by decide)⟩, _, rfl, r, _, _, _, rfl, rfl, SqT.of (s02 _ _ e), rfl, b, _, _, _, rfl, rfl, SqT.of (s02 _ _ h2), rfl, _, _, rfl, rfl, ⟨z12.mono (by decide), g.zy.2.mono (by decide)⟩,
      _, rfl, t2, _, _, _, rfl, rfl, SqT.of e2', rfl, _, rfl, r, _, _, _, rfl, rfl, SqT.of (s02 _ _ e), rfl, b, _, _, _, rfl, rfl, SqT.of (s02 _ _ h2), rfl, _, _, rfl, rfl, ⟨zx.2.mono (by decide), g.zy.1.mono (by decide)⟩, _, _, rfl, rfl, ⟨Int.ne_of_gt hdv, (zx.2.mul g.zy.1).mono (by decide)⟩, _, _, rfl, rfl, ?_⟩
    have ek : (((stF m o i : Rat) - k).num * 12 * (y.den : Int)).fdiv ((((stF m o i : Rat) - k).den : Int) * y.num) = (((stF m o i : Rat) - k) / (y / 12)).floor := by
      rw [Int.fdiv_eq_ediv_of_nonneg _ (Int.le_of_lt hdv), ← floor_divInt hdv, div12 _ _ (by grind)]
    have zj0 : Sz 2950 ((((stF m o i : Rat) - k) / (y / 12)).floor - 1) := Sz.sub (n := 2940) ((Sz.floor (zx.div g.ztw (by grind) (by decide : _ < 2940)))) (szi 1 (Nat.one_lt_two_pow (by decide))) (by decide)
    have zJ : Sz 2950 (jF y k (stF m o i)) := g.zj zs (by decide) (by decide)
    refine while_by (fun σ H' => ∃ j' : Int, σ = [some (.ref r), some (.int i), some (.int (stF m o i)), some (.ref t2), some (.int j')] ∧ (((stF m o i : Rat) - k) / (y / 12)).floor - 1 ≤ j' ∧ j' ≤ jF y k (stF m o i) ∧ Same H H') (muI 4 (jF y k (stF m o i))) ⟨_, ?_, Int.le_refl _, j0_le _, s02⟩ ?_ ?_
    · rw [← ek]
      rfl
    · rintro σ H' ⟨j', rfl, l1, l2, hs⟩
      have zj' : Sz 2950 j' := Sz.between zj0 zJ l1 l2
      refine ⟨_, rfl, _, rfl, r, j', m, y, o, k, rfl, fo.same hs, g, zj'.mono (by decide), fun H3 s3 => ⟨_, rfl, _, _, rfl, rfl, _, rfl, ?_⟩⟩
      refine ite2 (fun hb => ?_) (fun hb => ?_)
      · have hle : j' < jF y k (stF m o i) := (md_lt hy).mp (of_decide_eq_true hb)
        refine ⟨_, rfl, _, _, rfl, rfl, ⟨j' + 1, rfl, by omega, by omega, hs.trans s3⟩, ?_⟩
        show (jF y k (stF m o i) - (j' + 1)).toNat < (jF y k (stF m o i) - j').toNat
        omega
      · have hgt : ¬ j' < jF y k (stF m o i) := fun z => hb (decide_eq_true ((md_lt hy).mpr z))
        have ej : j' = jF y k (stF m o i) := by omega
        subst ej
        have s3' := hs.trans s3
        refine ⟨_, rfl, _, rfl, r, _, m, y, o, k, rfl, fo.same s3', g, zj'.mono (by decide), fun H4 s4 => ?_⟩
        have s4' := s3'.trans s4
        refine ⟨_, rfl, _, rfl, _, _, rfl, rfl, r, i + 1, m, y, o, k, rfl, fo.same s4', g, Sz.add (n := 1400) zi (szi 1 (Nat.one_lt_two_pow (by decide))) (by decide), fun H5 s5 => ⟨_, _, rfl, rfl, _, rfl, ?_⟩⟩
        have q5 := q H5 (s4'.trans s5)
        unfold miF at q5
        refine ite2 (fun hb => ?_) (fun hb => ?_)
        · rw [if_pos (show mdF y k (jF y k (stF m o i)) < stF m o (i + 1) from of_decide_eq_true hb)] at q5
          exact ⟨_, rfl, q5⟩
        · rw [if_neg (show ¬ mdF y k (jF y k (stF m o i)) < stF m o (i + 1) from fun z => hb (decide_eq_true z))] at q5
          exact q5
    · rintro σ H' R R' hq ⟨v, h1, v2, h2, r', k', m', y', o', kk, e3, fo', g', z', hc⟩
      refine ⟨v, h1, v2, h2, r', k', m', y', o', kk, e3, fo', g', z', fun H3 s3 => ?_⟩
      obtain ⟨v3, h3, i2, j2, e4, e5, b', e6, hb⟩ := hc H3 s3
      exact ⟨v3, h3, i2, j2, e4, e5, b', e6, hq _ _ hb⟩
end
section
variable {P : Program} {w : World} {K : PySem.W.Frag} {mg : Str → Option Value} {base : Heap}
theorem ok_lmw (D : Df K mg "_law_month_with" s_l_month_with []) (ma : Ca P w K mg base CX0 4 "_law_month_at" s_l_month_at [] ["_law_four_here", "_law_day"] (spF1 2000 fun m _ o _ i => .int (maF m o i)))
    (md : Ca P w K mg base CX0 3 "_law_mark_day" s_l_mark_day [] ["_law_four_here", "_law_j"] (spF1 3000 fun _ y _ k i => .int (mdF y k i))) :
    Ca P w K mg base CX0 5 "_law_month_with" s_l_month_with [] ["_law_four_here", "_law_j"] (spF1 1200 fun m y o k i => .int (maF m o (mdF y k i))) := by
  refine ca0 (k := 4) D c_l_month_with (fun vs H Q E h => ?_) fun f cdv A outer s H vs Q E hr h => ?_
  · obtain ⟨r, i, m, y, o, k, rfl, _⟩ := h
    rfl
  · obtain ⟨r, i, m, y, o, k, rfl, fo, g, zi, q⟩ := h
    refine ⟨_, pss_one (ps_ret (pe_ca ma b_l_month_at hr (by decide) pass0 rfl (pa_cons (pv 0) (pa_cons (pe_ca md b_l_mark_day hr (by decide) pass0 rfl (pa_cons (pv 0) (pa_cons (pv 1) pa_nil))) pa_nil)))), ?_⟩
    refine ⟨_, rfl, _, rfl, _, rfl, r, i, m, y, o, k, rfl, fo, g, zi.mono (by decide), fun H1 s1 => ?_⟩
    exact ⟨r, _, m, y, o, k, rfl, fo.same s1, g, g.zmd zi (by decide) (by decide), fun H2 s2 => q H2 (s1.trans s2)⟩
end
/-! ### names of months -/
theorem mi_ahead {m y o k : Rat} (f : Fit m y) (i : Int) (h : ¬ mdF y k (jF y k (stF m o i)) < stF m o (i + 1)) : mdF y k (jF y k (stF m o (i - 1))) < stF m o i := by
  have two := two_months (m := m) (y := y) (o := o) (k := k) f i
  apply Int.not_le.mp
  intro hge
  have hlt : mdF y k (jF y k (stF m o (i - 1)) - 1) < stF m o (i - 1) := (md_lt f.ypos).mpr (by omega)
  have st0 := st_step (o := o) f.one (i - 1)
  rw [show i - 1 + 1 = i by omega] at st0
  have h1 : jF y k (stF m o (i - 1)) - 1 < jF y k (stF m o i) := (md_lt f.ypos).mp (by omega)
  have h2 : ¬ jF y k (stF m o (i - 1)) < jF y k (stF m o i) := fun z => by
    have := (md_lt f.ypos).mpr z
    omega
  have h3 : jF y k (stF m o (i - 1)) = jF y k (stF m o i) := by omega
  rw [h3] at two
  exact h two
/-- the mark that names a month, and whether it is the month's own -/
def nmJ (m y o k : Rat) (i : Int) : Int := if mdF y k (jF y k (stF m o i)) < stF m o (i + 1) then jF y k (stF m o i) else jF y k (stF m o (i - 1))
def nmO (m y o k : Rat) (i : Int) : Bool := !decide (mdF y k (jF y k (stF m o i)) < stF m o (i + 1))
def nmL (m y o k : Rat) (i : Int) : List V := [.int (nmJ m y o k i / 12), .int (nmJ m y o k i % 12 + 1), .bl (nmO m y o k i)]
theorem nm_own {m y o k : Rat} {i : Int} (h : mdF y k (jF y k (stF m o i)) < stF m o (i + 1)) : miF m y o k i = .int (nmJ m y o k i) ∧ nmO m y o k i = false := by
  unfold miF nmJ nmO
  rw [if_pos h, if_pos h, decide_eq_true h]
  exact ⟨rfl, rfl⟩
theorem nm_odd {m y o k : Rat} (f : Fit m y) {i : Int} (h : ¬ mdF y k (jF y k (stF m o i)) < stF m o (i + 1)) : miF m y o k i = .non ∧ miF m y o k (i - 1) = .int (nmJ m y o k i) ∧ nmO m y o k i = true ∧ nmO m y o k (i - 1) = false ∧ nmJ m y o k (i - 1) = nmJ m y o k i := by
  have a := mi_ahead f i h
  have a' : mdF y k (jF y k (stF m o (i - 1))) < stF m o (i - 1 + 1) := by rw [show i - 1 + 1 = i by omega]; exact a
  unfold miF nmJ nmO
  rw [if_neg h, if_neg h, decide_eq_false h, if_pos a', if_pos a', decide_eq_true a']
  exact ⟨rfl, rfl, rfl, rfl, rfl⟩
def spName (C Cc : Addr) : Sp := fun vs H Q _ => ∃ (p : Addr) (i : Int) (m y o k : Rat), vs = [.ref p, .int i] ∧ Cl C Cc H p m y o k ∧ Good m y o k ∧ Sz 1390 i ∧ ∀ r H', H r = none → Same H H' → H' r = some (.tup (nmL m y o k i)) → Q (.ref r) H'
def spLName : Sp := fun vs H Q _ => ∃ (r : Addr) (i : Int) (m y o k : Rat), vs = [.ref r, .int i] ∧ Fo H r m y o k ∧ Good m y o k ∧ Sz 1390 i ∧ ∀ r' H', H r' = none → Same H H' → H' r' = some (.tup (nmL m y o k i)) → Q (.ref r') H'
def spIsName : Sp := fun vs H Q _ => ∃ (r : Addr) (a b : Int) (c : Bool), vs = [.ref r] ∧ H r = some (.tup [.int a, .int b, .bl c]) ∧ Q (.bl true) H
section
variable {P : Program} {w : World} {K : PySem.W.Frag} {mg : Str → Option Value} {base : Heap} {C Cc : Addr}
theorem ok_name (D : Dm K Cc "name_of" "Calendar.name_of" s_Calendar_name_of) (f_mark_in : Cm P w K mg base CX0 8 Cc "mark_in" "Calendar.mark_in" s_Calendar_mark_in ["self", "k"] (spM1 C Cc 1400 miF)) {tk : Tok} (h_MARKS : mg "MARKS" = some (.int 12 tk)) : Cm P w K mg base CX0 9 Cc "name_of" "Calendar.name_of" s_Calendar_name_of ["self", "k"] (spName C Cc) := by
  refine cm0 (k := 8) D c_Calendar_name_of (fun vs H Q E h => ?_) fun f cdv A outer s H vs Q E hr h => ?_
  · obtain ⟨p, i, m, y, o, k, rfl, _⟩ := h
    rfl
  · obtain ⟨p, i, m, y, o, k, rfl, hc, g, zi, q⟩ := h
    obtain ⟨dx, a, b, c, d, e, h1, h2, h3, h4⟩ := id hc
    refine ⟨_, (pss_cons (ps_set (i := 2) c_Calendar_name_of.nd rfl (.inl rfl) (pe_cm f_mark_in b_Calendar_mark_in hr (by decide) pass0 (pv 0) (pa_cons (pv 1) pa_nil)))
      (pss_cons (ps_set (i := 3) c_Calendar_name_of.nd rfl (.inl rfl) (pe_cmp (pc_isN (pv 2))))
      (pss_cons (ps_if (pt_val (pv 3)) (pss_one (ps_set (i := 2) c_Calendar_name_of.nd rfl (.inl rfl) (pe_cm f_mark_in b_Calendar_mark_in hr (by decide) pass0 (pv 0) (pa_cons (pe_op op_sub (pv 1) pe_int) pa_nil)))) pss_nil)
      (pss_one (ps_ret (pe_tup (pa_cons (pe_op op_fdiv (pv 2) (pe_glob (v := .int 12) rfl h_MARKS ⟨_, rfl⟩)) (pa_cons (pe_op op_add (pe_op op_mod (pv 2) (pe_glob (v := .int 12) rfl h_MARKS ⟨_, rfl⟩)) pe_int) (pa_cons (pv 3) pa_nil))))))))), ?_⟩
    refine ⟨_, rfl, p, dx, _, rfl, e, cf_no _ _ _ _, _, rfl, p, i, m, y, o, k, rfl, hc, g, zi.mono (by decide), fun H1 s1 => ?_⟩
    refine ⟨_, rfl, _, rfl, _, rfl, ?_⟩
    by_cases hmi : mdF y k (jF y k (stF m o i)) < stF m o (i + 1)
    · obtain ⟨e1, e2⟩ := nm_own hmi
      rw [e1]
      refine iteF ?_
      refine ⟨_, rfl, _, _, rfl, rfl, ⟨by decide, by decide⟩, _, rfl, _, _, rfl, rfl, md, _, _, rfl, rfl, _, rfl, (by show 3 ≤ sizeLine; decide), fun r hr' => ?_⟩
      refine q r _ (s1.free hr') (Same.upd s1 hr') ?_
      rw [upd_same]
      unfold nmL
      rw [e2]
      rfl
    · obtain ⟨e1, e2, e3, _⟩ := nm_odd g.fit hmi
      rw [e1]
      refine iteT ?_
      refine ⟨_, rfl, p, dx, _, rfl, s1 _ _ e, cf_no _ _ _ _, _, rfl, _, _, rfl, rfl, p, _, m, y, o, k, rfl, hc.same s1, g, Sz.sub (n := 1390) zi (szi 1 (Nat.one_lt_two_pow (by decide))) (by decide), fun H2 s2 => ?_⟩
      rw [e2]
      refine ⟨_, rfl, _, _, rfl, rfl, ⟨by decide, by decide⟩, _, rfl, _, _, rfl, rfl, md, _, _, rfl, rfl, _, rfl, (by show 3 ≤ sizeLine; decide), fun r hr' => ?_⟩
      refine q r _ ((s1.trans s2).free hr') (Same.upd (s1.trans s2) hr') ?_
      rw [upd_same]
      unfold nmL
      rw [e3]
      rfl
end
section
variable {P : Program} {w : World} {K : PySem.W.Frag} {mg : Str → Option Value} {base : Heap} {C Cc : Addr}
theorem ok_lname (D : Df K mg "_law_name" s_l_name []) (f_l_mark_in : Ca P w K mg base CX0 4 "_law_mark_in" s_l_mark_in [] ["_law_four_here", "_law_k"] (spF1 1400 miF)) : Ca P w K mg base CX0 5 "_law_name" s_l_name [] ["_law_four_here", "_law_k"] spLName := by
  refine ca0 (k := 4) D c_l_name (fun vs H Q E h => ?_) fun f cdv A outer s H vs Q E hr h => ?_
  · obtain ⟨r, i, m, y, o, k, rfl, _⟩ := h
    rfl
  · obtain ⟨r, i, m, y, o, k, rfl, fo, g, zi, q⟩ := h
    refine ⟨_, (pss_cons (ps_set (i := 2) c_l_name.nd rfl (.inl rfl) (pe_ca f_l_mark_in b_l_mark_in hr (by decide) pass0 rfl (pa_cons (pv 0) (pa_cons (pv 1) pa_nil))))
      (pss_cons (ps_if (pt_cmp (pc_notN (pv 2))) (pss_one (ps_ret (pe_tup (pa_cons (pe_op op_fdiv (pv 2) pe_int) (pa_cons (pe_op op_add (pe_op op_mod (pv 2) pe_int) pe_int) (pa_cons pe_bl pa_nil)))))) pss_nil)
      (pss_cons (ps_set (i := 2) c_l_name.nd rfl (.inl rfl) (pe_ca f_l_mark_in b_l_mark_in hr (by decide) pass0 rfl (pa_cons (pv 0) (pa_cons (pe_op op_sub (pv 1) pe_int) pa_nil))))
      (pss_one (ps_ret (pe_tup (pa_cons (pe_op op_fdiv (pv 2) pe_int) (pa_cons (pe_op op_add (pe_op op_mod (pv 2) pe_int) pe_int) (pa_cons pe_bl pa_nil))))))))), ?_⟩
    refine ⟨_, rfl, _, rfl, r, i, m, y, o, k, rfl, fo, g, zi.mono (by decide), fun H1 s1 => ?_⟩
    refine ⟨_, rfl, _, rfl, ?_⟩
    by_cases hmi : mdF y k (jF y k (stF m o i)) < stF m o (i + 1)
    · obtain ⟨e1, e2⟩ := nm_own hmi
      rw [e1]
      refine iteT ?_
      refine ⟨_, rfl, _, _, rfl, rfl, ⟨by decide, by decide⟩, _, rfl, _, _, rfl, rfl, md, _, _, rfl, rfl, (by show 3 ≤ sizeLine; decide), fun r' hr' => ?_⟩
      refine q r' _ (s1.free hr') (Same.upd s1 hr') ?_
      rw [upd_same]
      unfold nmL
      rw [e2]
    · obtain ⟨e1, e2, e3, _⟩ := nm_odd g.fit hmi
      rw [e1]
      refine iteF ?_
      refine ⟨_, rfl, _, rfl, _, _, rfl, rfl, r, _, m, y, o, k, rfl, fo.same s1, g, Sz.sub (n := 1390) zi (szi 1 (Nat.one_lt_two_pow (by decide))) (by decide), fun H2 s2 => ?_⟩
      rw [e2]
      refine ⟨_, rfl, _, _, rfl, rfl, ⟨by decide, by decide⟩, _, rfl, _, _, rfl, rfl, md, _, _, rfl, rfl, (by show 3 ≤ sizeLine; decide), fun r' hr' => ?_⟩
      refine q r' _ ((s1.trans s2).free hr') (Same.upd (s1.trans s2) hr') ?_
      rw [upd_same]
      unfold nmL
      rw [e3]
end
theorem zadd {n l : Nat} {i : Int} (h : Sz n i) (c : Int) (hc : c.natAbs ≤ 16 := by decide) (h4 : 5 ≤ n := by decide) (hl : n < l := by decide) : Sz l (i + c) := by
  refine Sz.add h (n := n) ?_ hl
  exact Nat.lt_of_lt_of_le (Nat.lt_of_le_of_lt hc (by decide : 16 < 2 ^ 5)) (Nat.pow_le_pow_right (by decide) h4)
theorem zsub {n l : Nat} {i : Int} (h : Sz n i) (c : Int) (hc : c.natAbs ≤ 16 := by decide) (h4 : 5 ≤ n := by decide) (hl : n < l := by decide) : Sz l (i - c) := by
  refine Sz.sub h (n := n) ?_ hl
  exact Nat.lt_of_lt_of_le (Nat.lt_of_le_of_lt hc (by decide : 16 < 2 ^ 5)) (Nat.pow_le_pow_right (by decide) h4)
theorem zdiv {n : Nat} {i : Int} (h : Sz n i) : Sz n (i / 12) := Nat.lt_of_le_of_lt (natAbs_ediv_le (b := 12) i) h
theorem Good.znm {m y o k : Rat} (g : Good m y o k) {n l : Nat} {i : Int} (h : Sz n i) (h0 : 5 ≤ n) (hl : n + 320 < l) : Sz l (nmJ m y o k i) := by
  have z1 : Sz (n + 151) (stF m o i) := g.zst h (by omega) (by omega)
  have z2 : Sz (n + 152) (stF m o (i - 1)) := g.zst (zsub (l := n + 1) h 1 (by decide) h0 (by omega)) (by omega) (by omega)
  unfold nmJ
  split
  · exact g.zj z1 (by omega) (by omega)
  · exact g.zj z2 (by omega) (by omega)
def dtY (m y o k : Rat) (i : Int) : Int := nmJ m y o k (maF m o i) / 12
def dtN (m y o k : Rat) (i : Int) : Int := nmJ m y o k (maF m o i) % 12 + 1
def dtD (m o : Rat) (i : Int) : Int := i - stF m o (maF m o i) + 1
def dtO (m y o k : Rat) (i : Int) : Bool := nmO m y o k (maF m o i)
/-- a year is no greater than its day, but for what month and mark bring -/
theorem Good.zdY {m y o k : Rat} (g : Good m y o k) {n : Nat} {i : Int} (h : Sz n i) (hn : 75 ≤ n) : Sz (n + 2) (dtY m y o k i) := by
  have f := g.fit
  have s1 := st_ma (o := o) f.pos i
  have s2 := ma_st (o := o) f.pos i
  have w1 := st_w (o := o) f (maF m o i)
  have w0 := st_w (o := o) f (maF m o i - 1)
  rw [show maF m o i - 1 + 1 = maF m o i by omega] at w0
  have zc : Sz 70 m.ceil := Sz.ceil g.zm
  have zk : Sz 70 k.floor := Sz.floor g.zk
  have mk : stF m o (maF m o i - 1) ≤ mdF y k (nmJ m y o k (maF m o i)) ∧ mdF y k (nmJ m y o k (maF m o i)) < stF m o (maF m o i + 1) := by
    by_cases hm : mdF y k (jF y k (stF m o (maF m o i))) < stF m o (maF m o i + 1)
    · have e1 : nmJ m y o k (maF m o i) = jF y k (stF m o (maF m o i)) := by unfold nmJ; rw [if_pos hm]
      rw [e1]
      have a1 := md_ge (y := y) (k := k) f.ypos (stF m o (maF m o i))
      have a2 := st_step (o := o) f.one (maF m o i - 1)
      rw [show maF m o i - 1 + 1 = maF m o i by omega] at a2
      exact ⟨by omega, hm⟩
    · have e1 : nmJ m y o k (maF m o i) = jF y k (stF m o (maF m o i - 1)) := by unfold nmJ; rw [if_neg hm]
      rw [e1]
      have a1 := md_ge (y := y) (k := k) f.ypos (stF m o (maF m o i - 1))
      have a2 := mi_ahead (o := o) (k := k) f (maF m o i) hm
      have a3 := st_step (o := o) f.one (maF m o i)
      exact ⟨a1, by omega⟩
  have t1 : 1 ≤ y / 12 := by
    have b1 := f.one
    have b2 := f.between
    have b3 : m ≤ (m.ceil : Rat) := by
      apply Rat.not_lt.mp
      intro z
      have := lt_ceil_iff (q := m) (i := m.ceil) |>.mpr z
      omega
    grind
  generalize hJ : nmJ m y o k (maF m o i) = J at mk
  have md1 := int_le_floor (i := mdF y k J) (x := k + (J : Rat) * (y / 12)) |>.mp (Int.le_refl _)
  have md2 := floor_le_iff (q := k + (J : Rat) * (y / 12)) (i := mdF y k J) |>.mp (Int.le_refl _)
  rw [cast_add1] at md2
  have kf := int_le_floor (i := k.floor) (x := k) |>.mp (Int.le_refl _)
  have kl := floor_le_iff (q := k) (i := k.floor) |>.mp (Int.le_refl _)
  rw [cast_add1] at kl
  have up : 0 ≤ J → J ≤ mdF y k J - k.floor + 1 := fun h0 => by
    have c0 : (0 : Rat) ≤ (J : Rat) := by exact_mod_cast h0
    have c1 := Rat.mul_le_mul_of_nonneg_left t1 c0
    have c2 : ((J : Int) : Rat) ≤ ((mdF y k J - k.floor + 1 : Int) : Rat) := by
      rw [cast_add1, Rat.intCast_sub]
      grind
    exact_mod_cast c2
  have dn : J ≤ 0 → mdF y k J - k.floor - 1 ≤ J := fun h0 => by
    have c0 : (J : Rat) ≤ 0 := by exact_mod_cast h0
    have c1 : (J : Rat) * (y / 12) ≤ (J : Rat) := by
      have := Rat.mul_le_mul_of_nonneg_left t1 (show (0 : Rat) ≤ -(J : Rat) by grind)
      grind
    have c2 : ((mdF y k J - k.floor - 1 : Int) : Rat) ≤ ((J : Int) : Rat) := by
      rw [Rat.intCast_sub, Rat.intCast_sub]
      have : ((1 : Int) : Rat) = 1 := rfl
      grind
    exact_mod_cast c2
  have zJ : Sz (n + 2) J := by
    have p1 : (2 : Nat) ^ 75 ≤ 2 ^ n := Nat.pow_le_pow_right (by decide) hn
    have p2 : (2 : Nat) ^ (n + 2) = 2 ^ n * 4 := by rw [Nat.pow_add]
    have p3 : (2 : Nat) ^ 75 = 2 ^ 70 * 32 := by decide
    unfold Sz at *
    omega
  unfold dtY
  rw [hJ]
  exact Nat.lt_of_le_of_lt (Int.natAbs_ediv_le_natAbs _ _) zJ
/-! ### the law's dates -/
def dtL (m y o k : Rat) (i : Int) : List V := [.int (dtY m y o k i), .int (dtN m y o k i), .int (dtD m o i), .bl (dtO m y o k i)]
def spLDate : Sp := fun vs H Q _ => ∃ (r : Addr) (i : Int) (m y o k : Rat), vs = [.ref r, .int i] ∧ Fo H r m y o k ∧ Good m y o k ∧ Sz 1200 i ∧
  ∀ r' H', H r' = none → Same H H' → H' r' = some (.tup (dtL m y o k i)) → Q (.ref r') H'
section
variable {P : Program} {w : World} {K : PySem.W.Frag} {mg : Str → Option Value} {base : Heap}
theorem ok_ldate (D : Df K mg "_law_date" s_l_date []) (f_l_month_at : Ca P w K mg base CX0 4 "_law_month_at" s_l_month_at [] ["_law_four_here", "_law_day"] (spF1 2000 fun m _ o _ i => .int (maF m o i))) (f_l_name : Ca P w K mg base CX0 5 "_law_name" s_l_name [] ["_law_four_here", "_law_k"] spLName) (f_l_start : Ca P w K mg base CX0 3 "_law_start" s_l_start [] ["_law_four_here", "_law_k"] (spF1 3000 fun m _ o _ i => .int (stF m o i))) : Ca P w K mg base CX0 6 "_law_date" s_l_date [] ["_law_four_here", "_law_day"] spLDate := by
  refine ca0 (k := 5) D c_l_date (fun vs H Q E h => ?_) fun f cdv A outer s H vs Q E hr h => ?_
  · obtain ⟨r, i, m, y, o, k, rfl, _⟩ := h
    rfl
  · obtain ⟨r, i, m, y, o, k, rfl, fo, g, zi, q⟩ := h
    refine ⟨_, (pss_cons (ps_set (i := 2) c_l_date.nd rfl (.inl rfl) (pe_ca f_l_month_at b_l_month_at hr (by decide) pass0 rfl (pa_cons (pv 0) (pa_cons (pv 1) pa_nil))))
      (pss_cons (ps_asg (pe_ca f_l_name b_l_name hr (by decide) pass0 rfl (pa_cons (pv 0) (pa_cons (pv 2) pa_nil))) (pg_tup rfl (pgs_cons (pg_name (i := 3) c_l_date.nd rfl (.inl rfl)) (pgs_cons (pg_name (i := 4) c_l_date.nd rfl (.inl rfl)) (pgs_cons (pg_name (i := 5) c_l_date.nd rfl (.inl rfl)) pgs_nil)))))
      (pss_one (ps_ret (pe_tup (pa_cons (pv 3) (pa_cons (pv 4) (pa_cons (pe_op op_add (pe_op op_sub (pv 1) (pe_ca f_l_start b_l_start hr (by decide) pass0 rfl (pa_cons (pv 0) (pa_cons (pv 2) pa_nil)))) pe_int) (pa_cons (pv 5) pa_nil))))))))), ?_⟩
    have zk : Sz 1360 (maF m o i) := g.zma zi (by decide) (by decide)
    refine ⟨_, rfl, _, rfl, r, i, m, y, o, k, rfl, fo, g, zi.mono (by decide), fun H1 s1 => ?_⟩
    refine ⟨_, rfl, _, rfl, r, _, m, y, o, k, rfl, fo.same s1, g, zk.mono (by decide), fun t H2 nt s2 et => ?_⟩
    refine ⟨t, _, rfl, SqT.of et, rfl, _, _, rfl, _, _, rfl, _, _, rfl, rfl, ?_⟩
    have s12 := s1.trans s2
    refine ⟨_, rfl, _, rfl, _, rfl, _, rfl, _, rfl, r, _, m, y, o, k, rfl, fo.same s12, g, zk.mono (by decide), fun H3 s3 => ⟨_, _, rfl, rfl, _, _, rfl, rfl, _, rfl, (by show 4 ≤ sizeLine; decide), fun r' hr' => ?_⟩⟩
    have s13 := s12.trans s3
    refine q r' _ (s13.free hr') (Same.upd s13 hr') ?_
    rw [upd_same]
    rfl
end
def spPart : Sp := fun vs H Q _ => ∃ (l : Addr) (n : Nat), vs = [.ref l] ∧ Dr H l n ∧ n ≤ 100000 ∧ ∀ r H' q, 0 ≤ q → q ≤ 1 → Rz 18 q → But l H H' → Dr H' l (n + 2) → Tp H' r q → Q (.ref r) H'
def spMom : Sp := fun vs H Q _ => ∃ (l : Addr) (n : Nat), vs = [.ref l] ∧ Dr H l n ∧ n ≤ 10000 ∧ ∀ r H' q, Rz 60 q → But l H H' → Dr H' l (n + 3) → Tp H' r q → Q (.ref r) H'
def spFour : Sp := fun vs H Q _ => ∃ (l : Addr) (n : Nat), vs = [.ref l] ∧ Dr H l n ∧ n ≤ 1000 ∧ ∀ r H' m y o k, Good m y o k → But l H H' → Dr H' l (n + 11) → Fo H' r m y o k → Q (.ref r) H'
theorem Tp.but {l : Addr} {H H1 : Hp} {n : Nat} {a : Addr} {q : Rat} (h : Tp H a q) (b : But l H H1) (d : Dr H l n) : Tp H1 a q := b.tup d h
section
variable {P : Program} {w : World} {K : PySem.W.Frag} {mg : Str → Option Value} {base : Heap}
theorem ok_lpart (D : Df K mg "_law_part" s_l_part []) (f_l_next : Ca P w K mg base CX0 1 "_law_next" s_l_next [] ["_law_draws_here"] spNext) (f_l_low : Ca P w K mg base CX0 1 "_law_low" s_l_low [] ["_law_top", "_law_bottom"] spLow) : Ca P w K mg base CX0 2 "_law_part" s_l_part [] ["_law_draws_here"] spPart := by
  refine ca0 (k := 1) D c_l_part (fun vs H Q E h => ?_) fun f cdv A outer s H vs Q E hr h => ?_
  · obtain ⟨l, n, rfl, _⟩ := h
    rfl
  · obtain ⟨l, n, rfl, d, hn, q⟩ := h
    refine ⟨_, (pss_cons (ps_set (i := 1) c_l_part.nd rfl (.inl rfl) (pe_ca f_l_next b_l_next hr (by decide) pass0 rfl (pa_cons (pv 0) pa_nil)))
      (pss_cons (ps_set (i := 2) c_l_part.nd rfl (.inl rfl) (pe_ix ix_list (pe_lst (pa_cons (pe_op op_add pe_int (pe_op op_mod (pe_op op_fdiv (pv 1) pe_int) pe_int)) (pa_cons (pe_op op_add pe_int (pe_op op_mod (pe_op op_fdiv (pv 1) pe_int) pe_int)) (pa_cons (pe_op op_add pe_int (pe_op op_mod (pe_op op_fdiv (pv 1) pe_int) pe_int)) (pa_cons (pe_op op_add (pe_op op_pow pe_int pe_int) (pe_op op_mod (pe_op op_fdiv (pv 1) pe_int) (pe_op op_pow pe_int pe_int))) pa_nil))))) (pe_op op_mod (pv 1) pe_int) (fun _ _ => rfl)))
      (pss_one (ps_ret (pe_ca f_l_low b_l_low hr (by decide) pass0 rfl (pa_cons (pe_op op_mod (pe_ca f_l_next b_l_next hr (by decide) pass0 rfl (pa_cons (pv 0) pa_nil)) (pe_op op_add (pv 2) pe_int)) (pa_cons (pv 2) pa_nil))))))), ?_⟩
    refine ⟨_, rfl, l, n, rfl, d, by omega, fun v H1 v0 v1 b1 d1 => ?_⟩
    refine ⟨_, rfl, _, _, rfl, rfl, ⟨by decide, by decide⟩, _, _, rfl, rfl, md, _, _, rfl, rfl, _, rfl, _, _, rfl, rfl, ⟨by decide, by decide⟩, _, _, rfl, rfl, md, _, _, rfl, rfl, _, rfl, _, _, rfl, rfl, ⟨by decide, by decide⟩, _, _, rfl, rfl, md, _, _, rfl, rfl, _, _, rfl, rfl, ⟨by decide, by decide, by decide⟩, _, rfl, _, _, rfl, rfl, ⟨by decide, by decide⟩, _, _, rfl, rfl, ⟨by decide, by decide, by decide⟩, _, _, rfl, rfl, md, _, _, rfl, rfl, (by show 4 ≤ sizeLine; decide), fun p hp => ?_⟩
    have h1 := Int.emod_nonneg v (show (4 : Int) ≠ 0 by decide)
    have h2 := Int.emod_lt_of_pos v (show (0 : Int) < 4 by decide)
    obtain ⟨x, hx, b, rfl, zb0, zb1⟩ := pick (P := fun x => ∃ i : Int, x = V.int i ∧ 1 ≤ i ∧ i ≤ 200000) (xs := [.int (1 + v / 4 % 3), .int (1 + v / 4 % 40), .int (1 + v / 4 % 1000), .int (10 ^ (5 : Int).toNat + v / 4 % 10 ^ (5 : Int).toNat)]) h1 h2 (by
      have e5 : (10 : Int) ^ (5 : Int).toNat = 100000 := by decide
      intro x hx
      rcases List.mem_cons.mp hx with rfl | hx
      · exact ⟨_, rfl, by omega, by omega⟩
      rcases List.mem_cons.mp hx with rfl | hx
      · exact ⟨_, rfl, by omega, by omega⟩
      rcases List.mem_cons.mp hx with rfl | hx
      · exact ⟨_, rfl, by omega, by omega⟩
      rcases List.mem_cons.mp hx with rfl | hx
      · exact ⟨_, rfl, by rw [e5]; omega, by rw [e5]; omega⟩
      · cases hx)
    refine ⟨_, rfl, _, _, rfl, rfl, md, p, _, _, _, rfl, rfl, SqL.of upd_same, hx, ?_⟩
    refine ⟨_, rfl, l, n + 1, rfl, d1.new hp, by omega, fun u H2 u0 u1 b2 d2 => ?_⟩
    have t0 := Int.emod_nonneg u (show b + 1 ≠ 0 by omega)
    have t1 := Int.emod_lt_of_pos u (show 0 < b + 1 by omega)
    refine ⟨_, rfl, _, _, rfl, rfl, _, _, rfl, rfl, (show 0 < b + 1 by omega), _, rfl, u % (b + 1), b, rfl, by omega, ?_, ?_, fun r hr' => ?_⟩
    · exact (Sz.of (n := 18) (by omega) (by have : (2 : Int) ^ 18 = 262144 := by decide
                                            omega)).mono (by decide)
    · exact (Sz.of (n := 18) (by omega) (by have : (2 : Int) ^ 18 = 262144 := by decide
                                            omega)).mono (by decide)
    · obtain ⟨q0, q1⟩ := unit_divInt t0 (show u % (b + 1) ≤ b by omega) (show 0 < b by omega)
      have e18 : (2 : Int) ^ 18 = 262144 := by decide
      exact q r _ _ q0 q1 (Rz.divInt (Sz.of (by omega) (by omega)) (Sz.of (by omega) (by omega)) (by decide)) (((b1.upd hp).trans b2).upd hr') (d2.new hr') upd_same
end
section
variable {P : Program} {w : World} {K : PySem.W.Frag} {mg : Str → Option Value} {base : Heap}
theorem ok_lmom (D : Df K mg "_law_moment" s_l_moment []) (f_l_next : Ca P w K mg base CX0 1 "_law_next" s_l_next [] ["_law_draws_here"] spNext) (f_l_part : Ca P w K mg base CX0 2 "_law_part" s_l_part [] ["_law_draws_here"] spPart) (f_l_plus : Ca P w K mg base CX0 2 "_law_plus" s_l_plus [] ["_law_one", "_law_two"] (spT2 fun a b => a + b)) : Ca P w K mg base CX0 3 "_law_moment" s_l_moment [] ["_law_draws_here"] spMom := by
  refine ca0 (k := 2) D c_l_moment (fun vs H Q E h => ?_) fun f cdv A outer s H vs Q E hr h => ?_
  · obtain ⟨l, n, rfl, _⟩ := h
    rfl
  · obtain ⟨l, n, rfl, d, hn, q⟩ := h
    refine ⟨_, (pss_cons (ps_set (i := 1) c_l_moment.nd rfl (.inl rfl) (pe_ca f_l_part b_l_part hr (by decide) pass0 rfl (pa_cons (pv 0) pa_nil)))
      (pss_cons (ps_set (i := 2) c_l_moment.nd rfl (.inl rfl) (pe_ca f_l_next b_l_next hr (by decide) pass0 rfl (pa_cons (pv 0) pa_nil)))
      (pss_cons (ps_set (i := 3) c_l_moment.nd rfl (.inl rfl) (pe_ix ix_list (pe_lst (pa_cons pe_int (pa_cons (pe_op op_mod (pe_op op_fdiv (pv 2) pe_int) pe_int) (pa_cons (pe_op op_add (pe_op op_pow pe_int pe_int) (pe_op op_fdiv (pv 2) pe_int)) (pa_cons (pe_op op_sub pe_int (pe_op op_mod (pe_op op_fdiv (pv 2) pe_int) (pe_op op_pow pe_int pe_int))) pa_nil))))) (pe_op op_mod (pv 2) pe_int) (fun _ _ => rfl)))
      (pss_one (ps_ret (pe_ca f_l_plus b_l_plus hr (by decide) pass0 rfl (pa_cons (pv 1) (pa_cons (pe_tup (pa_cons (pv 3) (pa_cons pe_int pa_nil))) pa_nil)))))))), ?_⟩
    refine ⟨_, rfl, l, n, rfl, d, by omega, fun a H1 x x0 x1 zx b1 d1 e1 => ?_⟩
    refine ⟨_, rfl, l, n + 2, rfl, d1, by omega, fun v H2 v0 v1 b2 d2 => ?_⟩
    refine ⟨_, rfl, _, _, rfl, rfl, ⟨by decide, by decide⟩, _, _, rfl, rfl, md, _, _, rfl, rfl, ⟨by decide, by decide, by decide⟩, _, rfl, _, _, rfl, rfl, ⟨by decide, by decide⟩, _, _, rfl, rfl, _, rfl, _, _, rfl, rfl, ⟨by decide, by decide⟩, _, _, rfl, rfl, ⟨by decide, by decide, by decide⟩, _, _, rfl, rfl, md, _, _, rfl, rfl, (by show 4 ≤ sizeLine; decide), fun p hp => ?_⟩
    have h1 := Int.emod_nonneg v (show (4 : Int) ≠ 0 by decide)
    have h2 := Int.emod_lt_of_pos v (show (0 : Int) < 4 by decide)
    obtain ⟨z, hz, i, rfl, zi⟩ := pick (P := fun x => ∃ i : Int, x = V.int i ∧ Sz 30 i) (xs := [.int 0, .int (v / 4 % 100), .int (10 ^ (6 : Int).toNat + v / 4), .int (0 - v / 4 % 10 ^ (5 : Int).toNat)]) h1 h2 (by
      have e5 : (10 : Int) ^ (5 : Int).toNat = 100000 := by decide
      have e6 : (10 : Int) ^ (6 : Int).toNat = 1000000 := by decide
      have e30 : (2 : Int) ^ 30 = 1073741824 := by decide
      intro x hx
      rcases List.mem_cons.mp hx with rfl | hx
      · exact ⟨_, rfl, Sz.of (by omega) (by omega)⟩
      rcases List.mem_cons.mp hx with rfl | hx
      · exact ⟨_, rfl, Sz.of (by omega) (by omega)⟩
      rcases List.mem_cons.mp hx with rfl | hx
      · exact ⟨_, rfl, Sz.of (by rw [e6, e30]; omega) (by rw [e6, e30]; omega)⟩
      rcases List.mem_cons.mp hx with rfl | hx
      · exact ⟨_, rfl, Sz.of (by rw [e5, e30]; omega) (by rw [e5, e30]; omega)⟩
      · cases hx)
    refine ⟨_, rfl, _, _, rfl, rfl, md, p, _, _, _, rfl, rfl, SqL.of upd_same, hz, ?_⟩
    refine ⟨_, rfl, _, rfl, (by show 2 ≤ sizeLine; decide), fun t ht => ?_⟩
    have ea : Tp _ a x := ((e1.but b2 d1).same (Same.new hp)).same (Same.new (o := .tup [.int i, .int 1]) ht)
    refine ⟨a, t, x, (i : Rat), rfl, ea.tq (zx.mono (by decide)), int_div i (zi.mono (by decide)) (by decide), fun r H3 nr s3 e3 => ?_⟩
    exact q r H3 _ (zx.add (Rz.int zi (by decide)) (by decide)) (((((b1.trans b2).upd hp).upd ht)).trans (But.same s3)) (((d2.new hp).new ht).same s3 (by omega)) e3
end
theorem Fo.but {l : Addr} {H H1 : Hp} {r : Addr} {n : Nat} {m y o k : Rat} (h : Fo H r m y o k) (b : But l H H1) (d : Dr H l n) : Fo H1 r m y o k := by
  obtain ⟨a, b', c, d', e, h1, h2, h3, h4⟩ := h
  exact ⟨a, b', c, d', b.tup d e, h1.but b d, h2.but b d, h3.but b d, h4.but b d⟩
/-- a month and a year of the law's -/
structure MY (m y : Rat) : Prop where
  fit : Fit m y
  zm : Rz 60 m
  zy : Rz 60 y
def qm1 : Rat := ⟨27759, 940, by decide, by decide⟩
def qy1 : Rat := ⟨1461, 4, by decide, by decide⟩
def qm2 : Rat := ⟨765433, 25920, by decide, by decide⟩
def qy2 : Rat := ⟨35975351, 98496, by decide, by decide⟩
def qm3 : Rat := ⟨59, 2, by decide, by decide⟩
def qy3 : Rat := ⟨365, 1, by decide, by decide⟩
def qm4 : Rat := ⟨30, 1, by decide, by decide⟩
def qy4 : Rat := ⟨366, 1, by decide, by decide⟩
theorem my1 : MY qm1 qy1 := ⟨⟨by decide +kernel, by decide +kernel, by decide +kernel⟩, ⟨szi _, szi _⟩, ⟨szi _, szi _⟩⟩
theorem my2 : MY qm2 qy2 := ⟨⟨by decide +kernel, by decide +kernel, by decide +kernel⟩, ⟨szi _, szi _⟩, ⟨szi _, szi _⟩⟩
theorem my3 : MY qm3 qy3 := ⟨⟨by decide +kernel, by decide +kernel, by decide +kernel⟩, ⟨szi _, szi _⟩, ⟨szi _, szi _⟩⟩
theorem my4 : MY qm4 qy4 := ⟨⟨by decide +kernel, by decide +kernel, by decide +kernel⟩, ⟨szi _, szi _⟩, ⟨szi _, szi _⟩⟩
section
variable {P : Program} {w : World} {K : PySem.W.Frag} {mg : Str → Option Value} {base : Heap}
theorem ok_lfour (D : Df K mg "_law_four" s_l_four []) (f_l_next : Ca P w K mg base CX0 1 "_law_next" s_l_next [] ["_law_draws_here"] spNext) (f_l_part : Ca P w K mg base CX0 2 "_law_part" s_l_part [] ["_law_draws_here"] spPart) (f_l_plus : Ca P w K mg base CX0 2 "_law_plus" s_l_plus [] ["_law_one", "_law_two"] (spT2 fun a b => a + b)) (f_l_by : Ca P w K mg base CX0 2 "_law_by" s_l_by [] ["_law_one", "_law_two"] (spT2 fun a b => a * b)) (f_l_moment : Ca P w K mg base CX0 3 "_law_moment" s_l_moment [] ["_law_draws_here"] spMom) : Ca P w K mg base CX0 4 "_law_four" s_l_four [] ["_law_draws_here"] spFour := by
  refine ca0 (k := 3) D c_l_four (fun vs H Q E h => ?_) fun f cdv A outer s H vs Q E hr h => ?_
  · obtain ⟨l, n, rfl, _⟩ := h
    rfl
  · obtain ⟨l, n, rfl, d, hn, q⟩ := h
    refine ⟨_, (pss_cons (ps_set (i := 1) c_l_four.nd rfl (.inl rfl) (pe_ca f_l_next b_l_next hr (by decide) pass0 rfl (pa_cons (pv 0) pa_nil)))
      (pss_cons (ps_if (pt_cmpR op_eq (pe_op op_mod (pv 1) pe_int) pe_int (nomark _)) (pss_cons (ps_set (i := 2) c_l_four.nd rfl (.inl rfl) (pe_lst (pa_cons (pe_tup (pa_cons (pe_tup (pa_cons pe_int (pa_cons pe_int pa_nil))) (pa_cons (pe_tup (pa_cons pe_int (pa_cons pe_int pa_nil))) pa_nil))) (pa_cons (pe_tup (pa_cons (pe_tup (pa_cons pe_int (pa_cons pe_int pa_nil))) (pa_cons (pe_tup (pa_cons pe_int (pa_cons pe_int pa_nil))) pa_nil))) pa_nil))))
      (pss_one (ps_asg (pe_ix ix_list (pe_op op_cat (pv 2) (pe_lst (pa_cons (pe_tup (pa_cons (pe_tup (pa_cons pe_int (pa_cons pe_int pa_nil))) (pa_cons (pe_tup (pa_cons pe_int (pa_cons pe_int pa_nil))) pa_nil))) (pa_cons (pe_tup (pa_cons (pe_tup (pa_cons pe_int (pa_cons pe_int pa_nil))) (pa_cons (pe_tup (pa_cons pe_int (pa_cons pe_int pa_nil))) pa_nil))) pa_nil)))) (pe_op op_mod (pe_op op_fdiv (pv 1) pe_int) pe_int) (fun _ _ => rfl)) (pg_tup rfl (pgs_cons (pg_name (i := 3) c_l_four.nd rfl (.inl rfl)) (pgs_cons (pg_name (i := 4) c_l_four.nd rfl (.inl rfl)) pgs_nil)))))) (pss_cons (ps_set (i := 5) c_l_four.nd rfl (.inl rfl) (pe_ix ix_list (pe_lst (pa_cons (pe_op op_add pe_int (pe_op op_mod (pe_op op_fdiv (pv 1) pe_int) pe_int)) (pa_cons (pe_op op_add pe_int (pe_op op_mod (pe_op op_fdiv (pv 1) pe_int) pe_int)) (pa_cons (pe_op op_add pe_int (pe_op op_mod (pe_op op_fdiv (pv 1) pe_int) pe_int)) (pa_cons pe_int (pa_cons pe_int pa_nil)))))) (pe_op op_mod (pe_op op_fdiv (pv 1) pe_int) pe_int) (fun _ _ => rfl)))
      (pss_cons (ps_set (i := 6) c_l_four.nd rfl (.inl rfl) (pe_ca f_l_part b_l_part hr (by decide) pass0 rfl (pa_cons (pv 0) pa_nil)))
      (pss_cons (ps_set (i := 7) c_l_four.nd rfl (.inl rfl) (pe_ca f_l_part b_l_part hr (by decide) pass0 rfl (pa_cons (pv 0) pa_nil)))
      (pss_cons (ps_set (i := 3) c_l_four.nd rfl (.inl rfl) (pe_ca f_l_by b_l_by hr (by decide) pass0 rfl (pa_cons (pe_ca f_l_plus b_l_plus hr (by decide) pass0 rfl (pa_cons (pe_tup (pa_cons (pe_op op_add (pe_op op_mul pe_int (pv 5)) pe_int) (pa_cons pe_int pa_nil))) (pa_cons (pe_ca f_l_by b_l_by hr (by decide) pass0 rfl (pa_cons (pv 6) (pa_cons (pe_tup (pa_cons (pe_op op_sub (pv 5) pe_int) (pa_cons pe_int pa_nil))) pa_nil))) pa_nil))) (pa_cons (pe_tup (pa_cons pe_int (pa_cons pe_int pa_nil))) pa_nil))))
      (pss_one (ps_set (i := 4) c_l_four.nd rfl (.inl rfl) (pe_ca f_l_plus b_l_plus hr (by decide) pass0 rfl (pa_cons (pe_tup (pa_cons (pe_op op_mul pe_int (pv 5)) (pa_cons pe_int pa_nil))) (pa_cons (pe_ca f_l_by b_l_by hr (by decide) pass0 rfl (pa_cons (pe_ca f_l_by b_l_by hr (by decide) pass0 rfl (pa_cons (pv 7) (pa_cons (pv 6) pa_nil))) (pa_cons (pe_tup (pa_cons (pe_op op_sub (pv 5) pe_int) (pa_cons pe_int pa_nil))) pa_nil))) pa_nil))))))))))
      (pss_one (ps_ret (pe_tup (pa_cons (pv 3) (pa_cons (pv 4) (pa_cons (pe_ca f_l_moment b_l_moment hr (by decide) pass0 rfl (pa_cons (pv 0) pa_nil)) (pa_cons (pe_ca f_l_moment b_l_moment hr (by decide) pass0 rfl (pa_cons (pv 0) pa_nil)) pa_nil))))))))), ?_⟩
    have fin : ∀ (x1 x2 x5 x6 x7 : Option V) (a b : Addr) (m y : Rat) (H1 : Hp), MY m y → But l H H1 → Dr H1 l (n + 5) → Tp H1 a m → Tp H1 b y →
        tRet (tTup (tCons (tVar 3) (tCons (tVar 4) (tCons (tCall spMom [] E0 (tCons (tVar 0) tNil)) (tCons (tCall spMom [] E0 (tCons (tVar 0) tNil)) tNil))))) { nx := fun _ H' => Q .non H', rt := Q } [some (.ref l), x1, x2, some (.ref a), some (.ref b), x5, x6, x7] H1 := by
      intro x1 x2 x5 x6 x7 a b m y H1 my b1 d1 ea eb
      refine ⟨_, rfl, _, rfl, _, rfl, l, n + 5, rfl, d1, by omega, fun c H2 o zo b2 d2 ec => ?_⟩
      refine ⟨_, rfl, l, n + 8, rfl, d2, by omega, fun e H3 k zk b3 d3 ee => ?_⟩
      refine ⟨(by show 4 ≤ sizeLine; decide), fun r hr' => ?_⟩
      have bb : But l H1 H3 := b2.trans b3
      refine q r _ m y o k ⟨my.fit, my.zm.mono (by decide), my.zy.mono (by decide), zo.mono (by decide), zk.mono (by decide)⟩ ((b1.trans bb).upd hr') ((d3.new hr').mono (by omega)) ?_
      exact ⟨a, b, c, e, upd_same, (ea.but bb d1).same (Same.new hr'), (eb.but bb d1).same (Same.new hr'), (ec.but b3 d2).same (Same.new hr'), ee.same (Same.new hr')⟩
    refine ⟨_, rfl, l, n, rfl, d, by omega, fun v H1 v0 v1 b1 d1 => ?_⟩
    refine ⟨_, rfl, _, _, rfl, rfl, md, rfl, _, rfl, ?_⟩
    refine ite2 (fun _ => ?_) (fun _ => ?_)
    · refine ⟨(by show 2 ≤ sizeLine; decide), fun a1 n1 => ⟨(by show 2 ≤ sizeLine; decide), fun c1 n2 => ⟨(by show 2 ≤ sizeLine; decide), fun r1 n3 => ⟨(by show 2 ≤ sizeLine; decide), fun a2 n4 => ⟨(by show 2 ≤ sizeLine; decide), fun c2 n5 => ⟨(by show 2 ≤ sizeLine; decide), fun r2 n6 => ⟨(by show 2 ≤ sizeLine; decide), fun l1 n7 => ?_⟩⟩⟩⟩⟩⟩⟩
      refine ⟨_, rfl, (by show 2 ≤ sizeLine; decide), fun a3 n8 => ⟨(by show 2 ≤ sizeLine; decide), fun c3 n9 => ⟨(by show 2 ≤ sizeLine; decide), fun r3 n10 => ⟨(by show 2 ≤ sizeLine; decide), fun a4 n11 => ⟨(by show 2 ≤ sizeLine; decide), fun c4 n12 => ⟨(by show 2 ≤ sizeLine; decide), fun r4 n13 => ⟨(by show 2 ≤ sizeLine; decide), fun l2 n14 => ?_⟩⟩⟩⟩⟩⟩⟩
      have s2 := Same.new (o := .tup [.int 1461, .int 4]) n2
      have s3 := Same.new (o := .tup [.ref a1, .ref c1]) n3
      have s4 := Same.new (o := .tup [.int 765433, .int 25920]) n4
      have s5 := Same.new (o := .tup [.int 35975351, .int 98496]) n5
      have s6 := Same.new (o := .tup [.ref a2, .ref c2]) n6
      have s7 := Same.new (o := .lst [.ref r1, .ref r2]) n7
      have s8 := Same.new (o := .tup [.int 59, .int 2]) n8
      have s9 := Same.new (o := .tup [.int 365, .int 1]) n9
      have s10 := Same.new (o := .tup [.ref a3, .ref c3]) n10
      have s11 := Same.new (o := .tup [.int 30, .int 1]) n11
      have s12 := Same.new (o := .tup [.int 366, .int 1]) n12
      have s13 := Same.new (o := .tup [.ref a4, .ref c4]) n13
      have s14 := Same.new (o := .lst [.ref r3, .ref r4]) n14
      have t13 := s14
      have t12 := s13.trans t13
      have t11 := s12.trans t12
      have t10 := s11.trans t11
      have t9 := s10.trans t10
      have t8 := s9.trans t9
      have t7 := s8.trans t8
      have t6 := s7.trans t7
      have t5 := s6.trans t6
      have t4 := s5.trans t5
      have t3 := s4.trans t4
      have t2 := s3.trans t3
      have t1 := s2.trans t2
      have t0 := (Same.new (o := .tup [.int 27759, .int 940]) n1).trans t1
      refine ⟨l1, l2, _, _, rfl, rfl, t7 _ _ upd_same, upd_same, (by show 4 ≤ sizeLine; decide), fun l3 n15 => ?_⟩
      have sz := Same.new (o := .lst ([.ref r1, .ref r2] ++ [.ref r3, .ref r4])) n15
      have h1 := Int.emod_nonneg (v / 8) (show (4 : Int) ≠ 0 by decide)
      have h2 := Int.emod_lt_of_pos (v / 8) (show (0 : Int) < 4 by decide)
      obtain ⟨x, hx, r, a, c, m, y, rfl, er, ea, ec, my⟩ := pick (P := fun x => ∃ (r a c : Addr) (m y : Rat), x = V.ref r ∧ (L2.upd _ l3 (.lst ([.ref r1, .ref r2] ++ [.ref r3, .ref r4]))) r = some (.tup [.ref a, .ref c]) ∧ Tp (L2.upd _ l3 (.lst ([.ref r1, .ref r2] ++ [.ref r3, .ref r4]))) a m ∧ Tp (L2.upd _ l3 (.lst ([.ref r1, .ref r2] ++ [.ref r3, .ref r4]))) c y ∧ MY m y) (xs := [.ref r1, .ref r2, .ref r3, .ref r4]) h1 h2 (by
        intro x hx
        rcases List.mem_cons.mp hx with rfl | hx
        · exact ⟨r1, a1, c1, qm1, qy1, rfl, sz _ _ (t3 _ _ upd_same), sz _ _ (t1 _ _ upd_same), sz _ _ (t2 _ _ upd_same), my1⟩
        rcases List.mem_cons.mp hx with rfl | hx
        · exact ⟨r2, a2, c2, qm2, qy2, rfl, sz _ _ (t6 _ _ upd_same), sz _ _ (t4 _ _ upd_same), sz _ _ (t5 _ _ upd_same), my2⟩
        rcases List.mem_cons.mp hx with rfl | hx
        · exact ⟨r3, a3, c3, qm3, qy3, rfl, sz _ _ (t10 _ _ upd_same), sz _ _ (t8 _ _ upd_same), sz _ _ (t9 _ _ upd_same), my3⟩
        rcases List.mem_cons.mp hx with rfl | hx
        · exact ⟨r4, a4, c4, qm4, qy4, rfl, sz _ _ (t13 _ _ upd_same), sz _ _ (t11 _ _ upd_same), sz _ _ (t12 _ _ upd_same), my4⟩
        · cases hx)
      refine ⟨_, rfl, _, _, rfl, rfl, ⟨by decide, by decide⟩, _, _, rfl, rfl, md, l3, _, _, _, rfl, rfl, SqL.of upd_same, hx, ?_⟩
      refine ⟨r, _, rfl, SqT.of er, rfl, _, _, rfl, _, _, rfl, rfl, ?_⟩
      exact fin _ _ _ _ _ a c m y _ my (b1.trans (But.same (t0.trans sz))) (d1.same (t0.trans sz) (by omega)) ea ec
    · refine ⟨_, rfl, _, _, rfl, rfl, ⟨by decide, by decide⟩, _, _, rfl, rfl, md, _, _, rfl, rfl, _, rfl, _, _, rfl, rfl, ⟨by decide, by decide⟩, _, _, rfl, rfl, md, _, _, rfl, rfl, _, rfl, _, _, rfl, rfl, ⟨by decide, by decide⟩, _, _, rfl, rfl, md, _, _, rfl, rfl, (by show 5 ≤ sizeLine; decide), fun p hp => ?_⟩
      have h1 := Int.emod_nonneg (v / 400) (show (5 : Int) ≠ 0 by decide)
      have h2 := Int.emod_lt_of_pos (v / 400) (show (0 : Int) < 5 by decide)
      obtain ⟨z, hz, i, rfl, i0, i1⟩ := pick (P := fun x => ∃ i : Int, x = V.int i ∧ 1 ≤ i ∧ i ≤ 32) (xs := [.int (1 + v / 8 % 4), .int (2 + v / 8 % 30), .int (28 + v / 8 % 5), .int 30, .int 30]) h1 h2 (by
        intro x hx
        rcases List.mem_cons.mp hx with rfl | hx
        · exact ⟨_, rfl, by omega, by omega⟩
        rcases List.mem_cons.mp hx with rfl | hx
        · exact ⟨_, rfl, by omega, by omega⟩
        rcases List.mem_cons.mp hx with rfl | hx
        · exact ⟨_, rfl, by omega, by omega⟩
        rcases List.mem_cons.mp hx with rfl | hx
        · exact ⟨_, rfl, by omega, by omega⟩
        rcases List.mem_cons.mp hx with rfl | hx
        · exact ⟨_, rfl, by omega, by omega⟩
        · cases hx)
      refine ⟨_, rfl, _, _, rfl, rfl, ⟨by decide, by decide⟩, _, _, rfl, rfl, md, p, _, _, _, rfl, rfl, SqL.of upd_same, hz, ?_⟩
      refine ⟨_, rfl, l, n + 1, rfl, d1.new hp, by omega, fun a2 H2 sq s0 s1 zs b2 d2 e2 => ?_⟩
      refine ⟨_, rfl, l, n + 3, rfl, d2, by omega, fun a3 H3 rq r0 r1 zr b3 d3 e3 => ?_⟩
      have b13 : But l H H3 := ((b1.upd hp).trans b2).trans b3
      have e2' : Tp H3 a2 sq := e2.but b3 d2
      have p6 : (2 : Int) ^ 6 = 64 := by decide
      have p10 : (2 : Int) ^ 10 = 1024 := by decide
      have z1 : Rz 6 ((i - 1 : Int) : Rat) := Rz.int (n := 6) (Sz.of (by omega) (by omega)) (by decide)
      have z12 : Rz 10 ((12 * i : Int) : Rat) := Rz.int (n := 10) (Sz.of (by omega) (by omega)) (by decide)
      have z121 : Rz 10 ((12 * i + 1 : Int) : Rat) := Rz.int (n := 10) (Sz.of (by omega) (by omega)) (by decide)
      have zsw : Rz 25 (sq * ((i - 1 : Int) : Rat)) := zs.mul z1 (by decide)
      have zp : Rz 36 (((12 * i + 1 : Int) : Rat) + sq * ((i - 1 : Int) : Rat)) := z121.add zsw (by decide)
      have z13 : Rz 4 (Rat.divInt 1 13) := Rz.divInt (szi 1) (szi 13) (by decide)
      have zm : Rz 60 ((((12 * i + 1 : Int) : Rat) + sq * ((i - 1 : Int) : Rat)) * Rat.divInt 1 13) := zp.mul z13 (by decide)
      have zrs : Rz 37 (rq * sq) := zr.mul zs (by decide)
      have zrw : Rz 44 (rq * sq * ((i - 1 : Int) : Rat)) := zrs.mul z1 (by decide)
      have zy : Rz 60 (((12 * i : Int) : Rat) + rq * sq * ((i - 1 : Int) : Rat)) := z12.add zrw (by decide)
      refine ⟨_, rfl, _, _, rfl, rfl, .inl ⟨by decide, by decide⟩, _, _, rfl, rfl, (by show 2 ≤ sizeLine; decide), fun t1 n1 => ?_⟩
      refine ⟨_, rfl, _, rfl, _, _, rfl, rfl, (by show 2 ≤ sizeLine; decide), fun t2 n2 => ?_⟩
      have u1 := Same.new (o := .tup [.int (12 * i + 1), .int 1]) n1
      have u2 := Same.new (o := .tup [.int (i - 1), .int 1]) n2
      refine ⟨a2, t2, sq, _, rfl, ((e2'.same u1).same u2).tq (zs.mono (by decide)), int_div (i - 1) (z1.1.mono (by decide)) (by decide), fun t3 H4 n3 u3 e4 => ?_⟩
      refine ⟨t1, t3, _, _, rfl, ((int_div (12 * i + 1) (z121.1.mono (by decide)) (by decide)).same u2).same u3, e4.tq (zsw.mono (by decide)), fun t4 H5 n4 u4 e5 => ?_⟩
      refine ⟨(by show 2 ≤ sizeLine; decide), fun t5 n5 => ?_⟩
      have u5 := Same.new (o := .tup [.int 1, .int 13]) n5
      refine ⟨t4, t5, _, Rat.divInt 1 13, rfl, (e5.same u5).tq (zp.mono (by decide)), ⟨1, 13, upd_same, by decide, rfl, szi 1 (Nat.one_lt_two_pow (by decide)), (szi (n := 4) 13).mono (by decide)⟩, fun t6 H6 n6 u6 e6 => ?_⟩
      have v16 : Same H3 H6 := u1.trans (u2.trans (u3.trans (u4.trans (u5.trans u6))))
      refine ⟨_, rfl, _, _, rfl, rfl, .inl ⟨by decide, by decide⟩, (by show 2 ≤ sizeLine; decide), fun t7 n7 => ?_⟩
      have u7 := Same.new (o := .tup [.int (12 * i), .int 1]) n7
      refine ⟨_, rfl, _, rfl, a3, a2, rq, sq, rfl, ((e3.same v16).same u7).tq (zr.mono (by decide)), ((e2'.same v16).same u7).tq (zs.mono (by decide)), fun t8 H8 n8 u8 e8 => ?_⟩
      refine ⟨_, rfl, _, _, rfl, rfl, (by show 2 ≤ sizeLine; decide), fun t9 n9 => ?_⟩
      have u9 := Same.new (o := .tup [.int (i - 1), .int 1]) n9
      refine ⟨t8, t9, _, _, rfl, (e8.same u9).tq (zrs.mono (by decide)), int_div (i - 1) (z1.1.mono (by decide)) (by decide), fun t10 H10 n10 u10 e10 => ?_⟩
      refine ⟨t7, t10, _, _, rfl, ((int_div (12 * i) (z12.1.mono (by decide)) (by decide)).same (u8.trans u9)).same u10, e10.tq (zrw.mono (by decide)), fun t11 H11 n11 u11 e11 => ?_⟩
      have v6 : Same H6 H11 := u7.trans (u8.trans (u9.trans (u10.trans u11)))
      exact fin _ _ _ _ _ t6 t11 _ _ H11 ⟨fit_drawn i0 s0 s1 r0 r1, zm, zy⟩ (b13.trans (But.same (v16.trans v6))) (d3.same (v16.trans v6) (by omega)) (e6.same v6) e11
end
/-- the law's four and the calendar made of them, of these fractions -/
structure Pr (C Cc : Addr) (H : Hp) (r p : Addr) (m y o k : Rat) : Prop where
  fo : Fo H r m y o k
  cl : Cl C Cc H p m y o k
  g : Good m y o k
theorem Pr.same {C Cc : Addr} {H H1 : Hp} {r p : Addr} {m y o k : Rat} (h : Pr C Cc H r p m y o k) (s : Same H H1) : Pr C Cc H1 r p m y o k := ⟨h.fo.same s, h.cl.same s, h.g⟩
theorem Pr.but {C Cc l : Addr} {H H1 : Hp} {r p : Addr} {n : Nat} {m y o k : Rat} (h : Pr C Cc H r p m y o k) (b : But l H H1) (d : Dr H l n) : Pr C Cc H1 r p m y o k := by
  refine ⟨h.fo.but b d, ?_, h.g⟩
  obtain ⟨dx, a, b', c, d', e, ⟨x1, h1⟩, ⟨x2, h2⟩, ⟨x3, h3⟩, ⟨x4, h4⟩⟩ := h.cl
  exact ⟨dx, a, b', c, d', b.ins d e, ⟨x1, b.ins d h1⟩, ⟨x2, b.ins d h2⟩, ⟨x3, b.ins d h3⟩, ⟨x4, b.ins d h4⟩⟩
/-! ### the law -/
def spLaw (K : PySem.W.Frag) : Sp := fun vs H Q _ => ∃ (a : Addr) (ns : List Int), vs = [.ref a] ∧ SqL K H a (ns.map V.int) ∧ ns.length ≤ 63 ∧ ∀ H', Q (.bl true) H'
theorem cut_ints {ns : List Int} {lo hi : Option Int} {j : Nat} {x : V} (h : (cutV (ns.map V.int) lo hi ++ [V.int 0])[j]? = some x) : ∃ c : Int, x = .int c := by
  have hx : x ∈ cutV (ns.map V.int) lo hi ++ [V.int 0] := List.mem_of_getElem? h
  rcases List.mem_append.mp hx with hx | hx
  · have h1 := List.mem_of_mem_take hx
    have h2 := List.mem_of_mem_drop h1
    obtain ⟨c, _, e⟩ := List.mem_map.mp h2
    exact ⟨c, e.symm⟩
  · exact ⟨0, List.mem_singleton.mp hx⟩
theorem cut_len {ns : List Int} {lo hi : Option Int} (h : ns.length ≤ 63) : (cutV (ns.map V.int) lo hi).length + ([V.int 0] : List V).length ≤ sizeLine := by
  have h1 := cutV_length (ns.map V.int) lo hi
  rw [List.length_map] at h1
  have h2 : ([V.int 0] : List V).length = 1 := rfl
  exact Nat.le_trans (show _ ≤ 64 by omega) (by decide)
theorem ne_of_none' {H : Hp} {l p : Addr} {n : Nat} (d : Dr H l n) (e : H p = none) : p ≠ l := by
  obtain ⟨_, _, _, h, _⟩ := d
  exact (ne_of_none h e).symm
/-! ### the law's calendars and years of feasts -/
def gC4 {α : Type} : List α → List α → List α → List α := fun us _ ws => us ++ (match ws with | [a, b, c, d] => [d, c, b, a] | _ => [])
theorem gC4_rel {vs ds zs : List V} {us its ws : List Value} (h : Vals vs us) (_ : Vals ds its) (k : Vals zs ws) : Vals (gC4 vs ds zs) (gC4 us its ws) := by
  refine h.append ?_
  cases k with
  | nil => exact .nil
  | cons a k => cases k with
    | nil => exact .nil
    | cons b k => cases k with
      | nil => exact .nil
      | cons c k => cases k with
        | nil => exact .nil
        | cons d k => cases k with
          | nil => exact .cons d (.cons c (.cons b (.cons a .nil)))
          | cons e k => exact .nil
theorem kb_Calendar_0_mark_moon_year_month : Kd "Calendar.__init__" s_Calendar_init 2 1 ["mark", "moon", "year", "month"] ["self", "month", "year", "moon", "mark"] gC4 :=
  ⟨fun _ _ _ _ _ _ _ us its ws hu hi hw => match us, hu, its, hi, ws, hw with | [_], _, [_, _], _, [_, _, _, _], _ => ⟨_, rfl, rfl⟩, gC4_rel⟩
theorem bd_Calendar4 : Bd1 "__init__" "Calendar.__init__" s_Calendar_init ["self", "month", "year", "moon", "mark"] 5 2 2 := fun _ _ _ _ _ _ _ us its hu hi => match us, hu, its, hi with | [_, _, _, _, _], _, [_, _], _ => ⟨_, rfl, rfl⟩
theorem made_ca {C Cc : Addr} {H : Hp} {R : Addr → Hp → Prop} {E : XK} {v u x z : V} {m y o k : Rat} (hv : Rv C H v m) (hu : Rv C H u y) (hx : Mv C H x o) (hz : Mv C H z k) (g : Good m y o k) (h : ∀ p H', H p = none → Same H H' → Cl C Cc H' p m y o k → R p H') :
    ∀ a dx, H a = none → H dx = none → dx ≠ a → spCaI C Cc [.ref a, v, u, x, z] (L2.upd (L2.upd H dx (.own a)) a (.ins Cc dx [])) (fun r H2 => r = .non ∧ R a H2) E := by
  intro a dx ha hd ne
  have s0 : Same H (L2.upd (L2.upd H dx (.own a)) a (.ins Cc dx [])) := Same.upd (Same.new hd) (by rw [upd_ne ne.symm]; exact ha)
  refine ⟨a, dx, v, u, x, z, m, y, o, k, rfl, upd_same, hv.same s0, hu.same s0, hx.same s0, hz.same s0, g, fun H' b hc => ⟨rfl, ?_⟩⟩
  exact h a H' ha (fun c w e => b c w (ne_of_none e ha) (s0 c w e)) hc
theorem Sh.mv {C p : Addr} {H : Hp} {q : Rat} (h : Sh C H p q) : Mv C H (.ref p) q := .inr h.rv
theorem four_at {H : Hp} {r a b c d : Addr} {m y o k : Rat} (g : Good m y o k) (h1 : Tp H a m) (h2 : Tp H b y) (h3 : Tp H c o) (h4 : Tp H d k) {i : Nat} {x : V} (hi : [V.ref a, V.ref b, V.ref c, V.ref d][i]? = some x) : ∃ (t : Addr) (q : Rat), x = V.ref t ∧ [m, y, o, k][i]? = some q ∧ Tp H t q ∧ Rz 70 q := by
  match i, hi with
  | 0, hi => cases hi; exact ⟨a, m, rfl, rfl, h1, g.zm⟩
  | 1, hi => cases hi; exact ⟨b, y, rfl, rfl, h2, g.zy⟩
  | 2, hi => cases hi; exact ⟨c, o, rfl, rfl, h3, g.zo⟩
  | 3, hi => cases hi; exact ⟨d, k, rfl, rfl, h4, g.zk⟩
  | j + 4, hi => simp at hi
def spCal (C Cc : Addr) : Sp := fun vs H Q _ => ∃ (l r : Addr) (n : Nat) (m y o k : Rat), vs = [.ref l, .ref r] ∧ Dr H l n ∧ n ≤ 1000 ∧ Fo H r m y o k ∧ Good m y o k ∧ ∀ p H', But l H H' → Dr H' l (n + 1) → Pr C Cc H' r p m y o k → Q (.ref p) H'
section
variable {P : Program} {w : World} {K : PySem.W.Frag} {mg : Str → Option Value} {base : Heap} {C Cc : Addr}
abbrev TE_l_cal1 (K : PySem.W.Frag) (C : Addr) : TE := tMake C (spShI C) (([.int 1] : List V).drop 1) E0 (tCons (tOp (rIxT K) (tVar 3) (tC (.int 0))) (tCons (tOp (rIxT K) (tVar 3) (tC (.int 1))) tNil))
theorem ok_lcal (D : Df K mg "_law_cal" s_l_cal []) (f_l_next : Ca P w K mg base CX0 1 "_law_next" s_l_next [] ["_law_draws_here"] spNext) (f_Share : Ci P w K mg base CX0 2 "Share" C "Share.__init__" s_Share_init [.int 1] ["self", "top", "bottom"] (spShI C)) (f_Calendar : Ci P w K mg base CX0 8 "Calendar" Cc "Calendar.__init__" s_Calendar_init [.non, .non] ["self", "month", "year", "moon", "mark"] (spCaI C Cc)) : Ca P w K mg base CX0 10 "_law_cal" s_l_cal [] ["_law_draws_here", "_law_four_here"] (spCal C Cc) := by
  refine ca0 (k := 9) D c_l_cal (fun vs H Q E h => ?_) fun f cdv A outer s H vs Q E hr h => ?_
  · obtain ⟨l, r, n, m, y, o, k, rfl, _⟩ := h
    rfl
  · obtain ⟨l, r, n, m, y, o, k, rfl, d0, hn, fo, g, q⟩ := h
    obtain ⟨a, b, c, d, e, h1, h2, h3, h4⟩ := id fo
    refine ⟨_, (pss_cons (ps_setLc (i := 2) (own := [("_law_one", 3)]) (g := gName 3) (tt := tYes) (te := TE_l_cal1 K C) rfl c_l_cal.nd rfl rfl (sw_true rfl rfl rfl (by decide +kernel)) (pi_tup (pv 1)) (blkOk_by (N := ["_law_draws_here", "_law_four_here", "_law_parts", "_law_one"]) (sc := defScope s_l_cal) (by decide +kernel)) (fun _ _ _ _ _ => (pg_name (i := 3) c_l_cal.nd rfl (.inl rfl))) (fun _ _ _ _ _ => by exact pts_nil) (fun _ _ _ _ _ => by exact (pe_ci f_Share bd_Share2 (by decide) rfl hr (by decide) pass0 rfl (pa_cons (pe_ix ix_tup (pv 3) pe_int (fun _ _ => rfl)) (pa_cons (pe_ix ix_tup (pv 3) pe_int (fun _ _ => rfl)) pa_nil)))))
      (pss_cons (ps_if (pt_cmpR op_eq (pe_op op_mod (pe_ca f_l_next b_l_next hr (by decide) pass0 rfl (pa_cons (pv 0) pa_nil)) pe_int) pe_int (nomark _)) (pss_one (ps_ret (pe_ci f_Calendar bd_Calendar4 (by decide) rfl hr (by decide) pass0 rfl (pa_cons (pe_ix ix_list (pv 2) pe_int (fun _ _ => rfl)) (pa_cons (pe_ix ix_list (pv 2) pe_int (fun _ _ => rfl)) (pa_cons (pe_ix ix_list (pv 2) pe_int (fun _ _ => rfl)) (pa_cons (pe_ix ix_list (pv 2) pe_int (fun _ _ => rfl)) pa_nil))))))) pss_nil)
      (pss_one (ps_ret (pe_ciK0 f_Calendar kb_Calendar_0_mark_moon_year_month (by decide) hr (by decide) pass0 rfl (pk_cons (pe_ix ix_list (pv 2) pe_int (fun _ _ => rfl)) (pk_cons (pe_ix ix_list (pv 2) pe_int (fun _ _ => rfl)) (pk_cons (pe_ix ix_list (pv 2) pe_int (fun _ _ => rfl)) (pk_cons (pe_ix ix_list (pv 2) pe_int (fun _ _ => rfl)) pk_nil))))))))), ?_⟩
    refine ⟨_, rfl, r, rfl, ⟨_, SqT.of e⟩, fun D0 hD => ?_⟩
    refine lc_all (walk_tup (K := K) (a := r) (xs := [.ref a, .ref b, .ref c, .ref d])) yAt_same hD (by show 4 < sizeLine; decide) (fun j v H' => ∃ (p : Addr) (x : Rat), v = .ref p ∧ [m, y, o, k][j]? = some x ∧ Sh C H' p x)
      (fun j v H1 H2 s ⟨p, x, e1, e2, e3⟩ => ⟨p, x, e1, e2, e3.same s⟩) (fun j v H1 acc acc' hacc ⟨p, x, e1, e2, dx, e3⟩ => ⟨p, x, e1, e2, dx, ?_⟩) (fun H' s' => SqT.of (s' _ _ e)) ?_ ?_
    · rw [upd_ne (ne_of e3 hacc (by intro z; cases z))]
      exact e3
    · rintro i x H1 H2 R hi s1 ⟨rfl, hx⟩ k1
      obtain ⟨t, xq, rfl, hq, ht, zq⟩ := four_at (r := r) g (h1.same s1) (h2.same s1) (h3.same s1) (h4.same s1) hx
      refine ⟨rfl, ?_⟩
      refine ⟨_, rfl, t, _, _, _, rfl, rfl, SqT.of ht, rfl, _, rfl, t, _, _, _, rfl, rfl, SqT.of ht, rfl, ?_⟩
      refine made_sh (Int.ne_of_gt (den_pos xq)) (zq.1.mono (by decide)) (zq.2.mono (by decide)) fun p H3 np s3 h3' => ?_
      rw [Rat.num_divInt_den] at h3'
      exact k1 _ H3 s3 ⟨p, xq, rfl, hq, h3'⟩
    · intro us H' hl hD' hs hp
      match us, hl with
      | [u1, u2, u3, u4], _ =>
        obtain ⟨p1, x1, rfl, e1, g1⟩ := hp 0 _ rfl
        obtain ⟨p2, x2, rfl, e2, g2⟩ := hp 1 _ rfl
        obtain ⟨p3, x3, rfl, e3, g3⟩ := hp 2 _ rfl
        obtain ⟨p4, x4, rfl, e4, g4⟩ := hp 3 _ rfl
        cases e1
        cases e2
        cases e3
        cases e4
        have d1 := d0.same hs (Nat.le_refl _)
        have neD : D0 ≠ l := ne_of_none' d0 hD
        refine ⟨_, rfl, l, n, rfl, d1, by omega, fun v H2 v0 v1 b2 d2 => ?_⟩
        have eD := b2 _ _ neD hD'
        have sh : ∀ {p : Addr} {x : Rat}, Sh C H' p x → Sh C H2 p x := fun ⟨dx, e⟩ => ⟨dx, b2.ins d1 e⟩
        have fo2 := (fo.same hs).but b2 d1
        have fin : ∀ a dx, H2 a = none → H2 dx = none → dx ≠ a → spCaI C Cc [.ref a, .ref p1, .ref p2, .ref p3, .ref p4] (L2.upd (L2.upd H2 dx (.own a)) a (.ins Cc dx [])) (fun r H2 => r = .non ∧ Q (.ref a) H2) E0 :=
          made_ca (sh g1).rv (sh g2).rv (sh g3).mv (sh g4).mv g fun p H3 np s3 hc => q p H3 (((But.same hs).trans b2).trans (But.same s3)) (d2.same s3 (Nat.le_refl _)) ⟨fo2.same s3, hc, g⟩
        refine ⟨_, _, rfl, rfl, md, rfl, _, rfl, ite2 (fun _ => ?_) (fun _ => ?_)⟩
        · exact ⟨_, rfl, D0, _, _, _, rfl, rfl, SqL.of eD, rfl, _, rfl, D0, _, _, _, rfl, rfl, SqL.of eD, rfl, _, rfl, D0, _, _, _, rfl, rfl, SqL.of eD, rfl, _, rfl, D0, _, _, _, rfl, rfl, SqL.of eD, rfl, fin⟩
        · exact ⟨_, rfl, D0, _, _, _, rfl, rfl, SqL.of eD, rfl, _, rfl, D0, _, _, _, rfl, rfl, SqL.of eD, rfl, _, rfl, D0, _, _, _, rfl, rfl, SqL.of eD, rfl, _, rfl, D0, _, _, _, rfl, rfl, SqL.of eD, rfl, rfl, rfl, fin⟩
end
/-! ### the __init__ of own errors -/
/-- a def of a class that is an exception's -/
structure Dx (K : PySem.W.Frag) (C : Addr) (qual : Str) (st : Stmt) : Prop where
  ex : ∃ (f : Addr) (fd : FuncData), FunD K "__init__" qual (defArgs st) (defBody st) (defScope st) [] [] f fd ∧ PySem.W.findIn K (.ref C) "__init__" = some (some (.ref f)) ∧ PySem.W.typeIn K (.ref f) = some (.type "function")
structure Cx1 (P : Program) (w : World) (K : PySem.W.Frag) (mg : Str → Option Value) (base : Heap) (k : Nat) (C : Addr) (qual : Str) (st : Stmt) (ps : List Str) (sp : Sp) : Prop where
  ex : ∃ (f : Addr) (fd : FuncData), FunD K "__init__" qual (defArgs st) (defBody st) (defScope st) [] [] f fd ∧ PySem.W.findIn K (.ref C) "__init__" = some (some (.ref f)) ∧ PySem.W.typeIn K (.ref f) = some (.type "function") ∧ FnOk P w K mg base CX0 k f fd ps sp
theorem str_app_len (a b : Str) : (a ++ b).length = a.length + b.length := by
  show (a.cps ++ b.cps).size = a.cps.size + b.cps.size
  exact Array.size_append
/-! ### figures of numbers -/
def spNum : Sp := fun vs H Q _ => ∃ (i : Int) (b : Nat), vs = [.int i, .int (b : Int)] ∧ 2 ≤ b ∧ b ≤ 16 ∧ Sz 400 i ∧ ∀ H', Same H H' → Q (.str (numT b i)) H'
theorem numT_len {b : Nat} {i : Int} (hb : 2 ≤ b) (h : Sz 400 i) : (numT b i).length ≤ 401 := by
  have h1 := lsd_len hb 400 i.natAbs h (by decide)
  unfold numT
  split
  · rw [dash_txt_len, List.length_reverse]
    omega
  · rw [txt_len, List.length_reverse]
    omega
theorem abs_nat (i : Int) : (if i < 0 then -i else i) = ((i.natAbs : Nat) : Int) := by
  split <;> omega
theorem sum_one : ∀ ds : List Nat, ((ds.map sg).map (·.length)).sum = ds.length
  | [] => rfl
  | d :: ds => by
    rw [List.map_cons, List.map_cons, List.sum_cons, sum_one ds, List.length_cons]
    show 1 + _ = _
    omega
theorem len_sg {ds : List Nat} (h : ds.length ≤ 400) : ((ds.map sg).reverse.map (·.length)).sum + (ds.map sg).reverse.length * ("" : Str).length ≤ 16777216 := by
  have e : ("" : Str).length = 0 := by decide +kernel
  rw [e, Nat.mul_zero, ← List.map_reverse, sum_one, List.length_reverse]
  omega
theorem len_dash {ds : List Nat} (h : ds.length ≤ 400) : ((ds.map sg ++ [("-" : Str)]).reverse.map (·.length)).sum + (ds.map sg ++ [("-" : Str)]).reverse.length * ("" : Str).length ≤ 16777216 := by
  have e : ("" : Str).length = 0 := by decide +kernel
  rw [e, Nat.mul_zero, List.reverse_append, List.map_append, List.sum_append, ← List.map_reverse, sum_one, List.length_reverse]
  have e2 : (List.map (fun x : Str => x.length) [("-" : Str)].reverse).sum = 1 := by decide +kernel
  rw [e2]
  omega
theorem szb {b n : Nat} (h : b ≤ 16) (hn : 5 ≤ n) : Sz n ((b : Nat) : Int) := Nat.lt_of_lt_of_le (show ((b : Nat) : Int).natAbs < 2 ^ 5 by omega) (Nat.pow_le_pow_right (by decide) hn)
section
variable {P : Program} {w : World} {K : PySem.W.Frag} {mg : Str → Option Value} {base : Heap}
theorem ok_num (D : Df K mg "numeral" s_numeral [.int 10]) {tk : Tok} (h_FIGURES : mg "FIGURES" = some (.str FIG tk)) (g_abs : mg "abs" = none) (g_reversed : mg "reversed" = none) : Ca P w K mg base CX0 1 "numeral" s_numeral [.int 10] ["number", "base"] spNum := by
  refine ca0 (k := 0) D c_numeral (fun vs H Q E h => ?_) fun f cdv A outer s H vs Q E hr h => ?_
  · obtain ⟨i, b, rfl, _⟩ := h
    rfl
  · obtain ⟨i, b, rfl, h2, h16, zi, q⟩ := h
    refine ⟨_, (pss_cons (ps_set (i := 2) c_numeral.nd rfl (.inl rfl) (pe_callB call_abs rfl g_abs (by decide +kernel) (pa_cons (pv 0) pa_nil)))
      (pss_cons (ps_set (i := 3) c_numeral.nd rfl (.inl rfl) (pe_lst (pa_cons (pe_ix ix_str (pe_glob (v := .str FIG) rfl h_FIGURES ⟨_, rfl⟩) (pe_op op_mod (pv 2) (pv 1)) (fun _ _ => rfl)) pa_nil)))
      (pss_cons (ps_while PassesOwn.never (pt_cmpR op_ge (pv 2) (pv 1) (nomark _)) (pss_cons (ps_set (i := 2) c_numeral.nd rfl (.inl rfl) (pe_op op_fdivA (pv 2) (pv 1)))
      (pss_one (ps_expr (pe_bm PySem.F.plainAttrs_list PySem.F.slot_list_append PySem.F.type_list_append mt_append (pv 3) (pa_cons (pe_ix ix_str (pe_glob (v := .str FIG) rfl h_FIGURES ⟨_, rfl⟩) (pe_op op_mod (pv 2) (pv 1)) (fun _ _ => rfl)) pa_nil))))))
      (pss_cons (ps_if (pt_cmpR op_lt (pv 0) pe_int (nomark _)) (pss_one (ps_expr (pe_bm PySem.F.plainAttrs_list PySem.F.slot_list_append PySem.F.type_list_append mt_append (pv 3) (pa_cons pe_str pa_nil)))) pss_nil)
      (pss_one (ps_ret (pe_joinRev rfl pe_str rfl g_reversed (pv 3)))))))), ?_⟩
    have hl := lsd_len h2 400 i.natAbs zi (by decide)
    have hb0 : (0 : Int) < (b : Int) := by omega
    have md' : ∀ r : Nat, ((r : Nat) : Int) % (b : Int) = ((r % b : Nat) : Int) := fun r => (Int.natCast_emod r b).symm
    have dv' : ∀ r : Nat, ((r : Nat) : Int).fdiv (b : Int) = ((r / b : Nat) : Int) := fun r => by
      rw [Int.fdiv_eq_ediv_of_nonneg _ (by omega)]
      exact (Int.natCast_ediv r b).symm
    have lt16 : ∀ r : Nat, r % b < 16 := fun r => Nat.lt_of_lt_of_le (Nat.mod_lt _ (by omega)) h16
    have fa : ∀ r : Nat, atI FIG.cps.toList (((r : Nat) : Int) % (b : Int)) = some (dg (r % b)) := fun r => by
      rw [md']
      exact fig_at (lt16 r)
    have fl : FIG.length ≤ sizeLine := by rw [fig_len]; decide
    refine ⟨_, rfl, i, rfl, ?_⟩
    rw [abs_nat]
    refine ⟨_, rfl, _, rfl, _, _, rfl, rfl, hb0, FIG, _, dg (i.natAbs % b), rfl, rfl, fl, fa _, (by show 1 ≤ sizeLine; decide), fun l nl => ?_⟩
    have e0 : ([V.str ⟨#[dg (i.natAbs % b)]⟩] : List V) = ((([] : List Nat) ++ [i.natAbs % b]).map sg).map V.str := rfl
    rw [e0]
    refine while_by (fun σ H' => ∃ (pre : List Nat) (r : Nat), σ = [some (.int i), some (.int (b : Int)), some (.int ((r : Nat) : Int)), some (.ref l)] ∧ pre ++ lsd b r = lsd b i.natAbs ∧ H' = L2.upd H l (.lst (((pre ++ [r % b]).map sg).map V.str))) (mu2 2) ⟨[], i.natAbs, rfl, rfl, rfl⟩ ?_ (fun σ H' R R' hq ⟨v, h1, v2, h12, a, c, h2, h3, k, h4, h5⟩ => ⟨v, h1, v2, h12, a, c, h2, h3, k, h4, hq _ _ h5⟩)
    rintro σ H' ⟨pre, r, rfl, hp, rfl⟩
    refine ⟨_, rfl, _, rfl, _, _, rfl, rfl, _, rfl, ?_⟩
    have plen : (pre ++ [r % b]).length ≤ 400 := by
      have h3 : (pre ++ lsd b r).length ≤ 400 := by rw [hp]; exact hl
      have h4 : 0 < (lsd b r).length := List.length_pos_iff.mpr (lsd_ne b r)
      rw [List.length_append] at h3 ⊢
      simp only [List.length_singleton]
      omega
    by_cases hr' : b ≤ r
    · rw [decide_eq_true (show ((r : Nat) : Int) ≥ (b : Int) by omega)]
      refine iteT ?_
      refine ⟨_, rfl, _, rfl, _, _, rfl, rfl, ⟨by omega, szb h16 (by decide)⟩, ?_⟩
      rw [show (fun i j : Int => V.int (Int.fdiv i j)) ((r : Nat) : Int) (b : Int) = V.int ((r / b : Nat) : Int) from congrArg V.int (dv' r)]
      refine ⟨_, rfl, .inl ⟨rfl, _, SqL.of upd_same⟩, _, rfl, _, rfl, _, _, rfl, rfl, hb0, FIG, _, dg (r / b % b), rfl, rfl, fl, fa _, l, _, _, rfl, rfl, upd_same, ?_, ?_⟩
      · rw [List.length_map, List.length_map]
        exact Nat.lt_of_le_of_lt plen (by decide)
      · refine ⟨⟨pre ++ [r % b], r / b, rfl, ?_, ?_⟩, ?_⟩
        · rw [← hp, lsd_ge h2 hr', List.append_assoc]
          rfl
        · rw [upd_upd]
          congr 1
          rw [List.map_append (l₁ := pre ++ [r % b]), List.map_append (l₁ := (pre ++ [r % b]).map sg)]
          rfl
        · show (((r / b : Nat) : Int)).natAbs < (((r : Nat) : Int)).natAbs
          rw [Int.natAbs_natCast, Int.natAbs_natCast]
          exact Nat.div_lt_self (show 0 < r by omega) (show 1 < b by omega)
    · rw [decide_eq_false (show ¬ ((r : Nat) : Int) ≥ (b : Int) by omega)]
      refine iteF ?_
      have er : pre ++ [r % b] = lsd b i.natAbs := by
        rw [← hp, lsd_lt (by omega), Nat.mod_eq_of_lt (by omega)]
      rw [er]
      refine ⟨_, rfl, _, _, rfl, rfl, _, rfl, ?_⟩
      by_cases hn : i < 0
      · rw [decide_eq_true hn]
        refine iteT ?_
        refine ⟨_, rfl, .inl ⟨rfl, _, SqL.of upd_same⟩, l, _, _, rfl, rfl, upd_same, ?_, ?_⟩
        · rw [List.length_map, List.length_map]
          exact Nat.lt_of_le_of_lt hl (by decide)
        rw [upd_upd]
        have e1 : ((lsd b i.natAbs).map sg).map V.str ++ [V.str ("-" : Str)] = ((lsd b i.natAbs).map sg ++ [("-" : Str)]).map V.str := by
          rw [List.map_append]
          rfl
        rw [e1]
        refine ⟨⟨_, rfl⟩, _, rfl, _, l, _, rfl, rfl, SqL.of upd_same, ?_, ?_⟩
        · exact len_dash hl
        · rw [join_dash]
          have q2 := q _ (Same.new (o := .lst (((lsd b i.natAbs).map sg ++ [("-" : Str)]).map V.str)) nl)
          unfold numT at q2
          rw [if_pos hn] at q2
          exact q2
      · rw [decide_eq_false hn]
        refine iteF ?_
        refine ⟨⟨_, rfl⟩, _, rfl, _, l, _, rfl, rfl, SqL.of upd_same, ?_, ?_⟩
        · exact len_sg hl
        · rw [join_sg]
          have q2 := q _ (Same.new (o := .lst (((lsd b i.natAbs).map sg).map V.str)) nl)
          unfold numT at q2
          rw [if_neg hn] at q2
          exact q2
end
/-! ### NoText -/
abbrev bmV : List Value := [.type "ValueError", .type "Exception", .type "BaseException", .type "object"]
abbrev OxV (K : PySem.W.Frag) (C : Addr) : Prop := OxG K C "ValueError" "ValueError.__new__" "ValueError.__init__" bmV
theorem typ_V : typeOf (.type "ValueError") = pure (.type "type") := by kernel_rfl
structure NtT (K : PySem.W.Frag) (mg : Str → Option Value) (CN : Addr) : Prop where
  ox : OxV K CN
  no : PySem.W.findIn K (.ref CN) "at" = some none
  vV : PySem.W.findCls K (.type "ValueError") (.type "type") "__init__" = some (.val (.builtin "ValueError.__init__"))
  gV : mg "ValueError" = none
  mN : mg "NoText" = some (.ref CN)
def spNt (CN : Addr) : Sp := fun vs H Q _ => ∃ (a : Addr) (x : Str), vs = [.ref a, .str x] ∧ x.length ≤ 1000 ∧ H a = some (exo a CN none) ∧ ∀ dx, H dx = none → dx ≠ a → Q .non (L2.upd (L2.upd H dx (exd dx [("at", .str x)])) a (exo a CN (some dx)))
/-- an error of NoText that tells x -/
def NtE (CN : Addr) (E : XK) (H : Hp) (x : Str) : Prop := ∀ (d : Addr) (H' : Hp), H d = none → Same H H' → H' d = some (.xd [("at", .str x)]) → E (.ref CN) (some d) H'
theorem NtE.same {CN : Addr} {E : XK} {H H1 : Hp} {x : Str} (k : NtE CN E H x) (s : Same H H1) : NtE CN E H1 x := fun d H' nd hs e => k d H' (s.free nd) (s.trans hs) e
section
variable {P : Program} {w : World} {K : PySem.W.Frag} {mg : Str → Option Value} {base : Heap} {CN : Addr}
theorem ok_nt (D : Dx K CN "NoText.__init__" s_NoText_init) (T : NtT K mg CN) : Cx1 P w K mg base 1 CN "NoText.__init__" s_NoText_init ["self", "at"] (spNt CN) := by
  obtain ⟨f, fd, F, h1, h2⟩ := D.ex
  refine ⟨f, fd, F, h1, h2, F.ok c_NoText_init (fun vs H Q E h => ?_) fun cdv A outer s H vs Q E hr h => ?_⟩
  · obtain ⟨a, x, rfl, _⟩ := h
    rfl
  · obtain ⟨a, x, rfl, hx, ha, q⟩ := h
    refine ⟨_, PSs.nox (pss_cons (ps_expr (pe_bini (newId := "ValueError.__new__") (bm := bmV) rfl T.gV (by decide +kernel) typ_V T.vV (pa_cons (pv 0) (pa_cons (pe_joined (.cons pe_str (.cons (pe_fmt (pv 1)) .nil))) pa_nil)))) (pss_one (ps_gst (B := "ValueError") (newId := "ValueError.__new__") (initId := "ValueError.__init__") (bm := bmV) (f := "at") (pv 0) (pv 1)))), ?_⟩
    refine ⟨_, rfl, _, rfl, (by decide), _, rfl, .inl ⟨x, rfl, Nat.le_trans hx (by decide), x, rfl, ?_, a, CN, _, rfl, (by show 1 ≤ 1000; decide), T.ox, ha, ?_⟩⟩
    · rw [str_app_len, str_app_len]
      exact Nat.le_trans (Nat.add_le_add_left hx _) (by decide)
    · exact ⟨_, rfl, _, rfl, a, CN, rfl, T.ox, T.no, .inl ⟨ha, q⟩⟩
/-- raise NoText(x) -/
theorem mk_nt {X : Cx} {e : Expr} {te : TE} {p pos : Pos} (T : NtT X.K X.mg CN) (c : Cx1 X.prog X.w X.K X.mg X.base 1 CN "NoText.__init__" s_NoText_init ["self", "at"] (spNt CN)) (hr : Room 2 X.A) (hg : Gl X "NoText") (ha : PA X [e] (tCons te tNil))
    (he : starEach (e :: []) X.env = (false, eval e X.env) :: starEach [] X.env := by rfl) (hpl : (backTo pos (starEach [] X.env)).any (·.1) = false := by rfl) : PMk X (.Call (.Name "NoText" p) [e] [] pos) (tMkO CN (spNt CN) [] (tCons te tNil)) := by
  obtain ⟨f, fd, F, h1, h2, G⟩ := c.ex
  exact pmk_g T.ox h1 h2 G hr (F.bindsN fun _ _ _ _ _ _ us hl => match us, hl with | [_, _], _ => rfl) .nil pass0 hg T.mN ha (by decide) he hpl
theorem rd_nt {H : Hp} {E : XK} {x : Str} (hx : x.length ≤ 1000) (k : NtE CN E H x) {H1 : Hp} (s : Same H H1) : ([V.str x] : List V).length ≤ 1000 ∧ ∀ a, H1 a = none → spNt CN (.ref a :: ([V.str x] ++ [])) (L2.upd H1 a (exo a CN none))
    (fun v H2 => v = .non ∧ ∃ (d : Addr) (fs : List (Str × V)), H2 a = some (exo a CN (some d)) ∧ H2 d = some (exd d fs) ∧ H1 d = none ∧ E (.ref CN) (some d) (L2.upd (del H2 a) d (.xd fs))) (fun _ _ _ => False) := by
  refine ⟨(by show 1 ≤ 1000; decide), fun a na => ⟨a, x, rfl, hx, upd_same, fun dx nd ne => ⟨rfl, dx, [("at", .str x)], upd_same, ?_, ?_, ?_⟩⟩⟩
  · rw [upd_ne ne, upd_same]
  · rw [upd_ne ne] at nd
    exact nd
  · rw [upd_ne ne] at nd
    refine k dx _ (s.free nd) (fun b o e => ?_) upd_same
    have e1 := s b o e
    rw [upd_ne (ne_of_none e1 nd), del_ne (ne_of_none e1 na), upd_ne (ne_of_none e1 na), upd_ne (ne_of_none e1 nd), upd_ne (ne_of_none e1 na)]
    exact e1
end
/-! ### Date -/
def dfs (y n d o : V) : List (Str × V) := putF "odd" o (putF "day" d (putF "number" n (putF "year" y [])))
theorem dyn_ : ¬ (("year" : Str) = "number") := by decide +kernel
theorem dyd_ : ¬ (("year" : Str) = "day") := by decide +kernel
theorem dyo_ : ¬ (("year" : Str) = "odd") := by decide +kernel
theorem dnd_ : ¬ (("number" : Str) = "day") := by decide +kernel
theorem dno_ : ¬ (("number" : Str) = "odd") := by decide +kernel
theorem ddo_ : ¬ (("day" : Str) = "odd") := by decide +kernel
theorem df_year (y n d o : V) : (dfs y n d o).lookup ("year" : Str) = some y := by
  unfold dfs
  rw [lookup_putF, if_neg dyo_, lookup_putF, if_neg dyd_, lookup_putF, if_neg dyn_, lookup_putF, if_pos rfl]
theorem df_number (y n d o : V) : (dfs y n d o).lookup ("number" : Str) = some n := by
  unfold dfs
  rw [lookup_putF, if_neg dno_, lookup_putF, if_neg dnd_, lookup_putF, if_pos rfl]
theorem df_day (y n d o : V) : (dfs y n d o).lookup ("day" : Str) = some d := by
  unfold dfs
  rw [lookup_putF, if_neg ddo_, lookup_putF, if_pos rfl]
theorem df_odd (y n d o : V) : (dfs y n d o).lookup ("odd" : Str) = some o := by
  unfold dfs
  rw [lookup_putF, if_pos rfl]
/-- what the top says of the class -/
structure DaT (K : PySem.W.Frag) (Cd : Addr) : Prop where
  cl : Cls K Cd
  n1 : NoAttr K Cd "year"
  n2 : NoAttr K Cd "number"
  n3 : NoAttr K Cd "day"
  n4 : NoAttr K Cd "odd"
  ty : ∀ (H : Hp) (a dx : Addr) (fs : List (Str × V)), H a = some (.ins Cd dx fs) → TyX K H (.ref a) (.ref Cd)
/-- at p a Date -/
def Da (Cd : Addr) (H : Hp) (p : Addr) (y n d : Int) (o : Bool) : Prop := ∃ dx, H p = some (.ins Cd dx (dfs (.int y) (.int n) (.int d) (.bl o)))
theorem Da.same {Cd p : Addr} {H H1 : Hp} {y n d : Int} {o : Bool} (h : Da Cd H p y n d o) (s : Same H H1) : Da Cd H1 p y n d o := by
  obtain ⟨dx, e⟩ := h
  exact ⟨dx, s _ _ e⟩
def spDaI (Cd : Addr) : Sp := fun vs H Q _ => ∃ (p dx : Addr) (y n d o : V), vs = [.ref p, y, n, d, o] ∧ H p = some (.ins Cd dx []) ∧ Q .non (L2.upd H p (.ins Cd dx (dfs y n d o)))
def spDaE (Cd : Addr) : Sp := fun vs H Q _ => ∃ (p r : Addr) (y n d y' n' d' : Int) (o o' : Bool), vs = [.ref p, .ref r] ∧ Da Cd H p y n d o ∧ Da Cd H r y' n' d' o' ∧ Q (.bl (decide (y = y') && (decide (n = n') && (decide (d = d') && decide (o = o'))))) H
theorem dec_int (a b : Int) : decide (V.int a = V.int b) = decide (a = b) := by
  by_cases h : a = b
  · rw [decide_eq_true h, decide_eq_true (congrArg V.int h)]
  · rw [decide_eq_false h, decide_eq_false (fun z => h (V.int.inj z))]
theorem dec_bl (a b : Bool) : decide (V.bl a = V.bl b) = decide (a = b) := by
  by_cases h : a = b
  · rw [decide_eq_true h, decide_eq_true (congrArg V.bl h)]
  · rw [decide_eq_false h, decide_eq_false (fun z => h (V.bl.inj z))]
section
variable {P : Program} {w : World} {K : PySem.W.Frag} {mg : Str → Option Value} {base : Heap} {Cd : Addr}
theorem ok_daI (D : Di K mg "Date" Cd "Date.__init__" s_Date_init [.bl false]) (T : DaT K Cd) : Ci P w K mg base CX0 1 "Date" Cd "Date.__init__" s_Date_init [.bl false] ["self", "year", "number", "day", "odd"] (spDaI Cd) := by
  refine ci0 (k := 0) D c_Date_init (fun vs H Q E h => ?_) fun f cdv A outer s H vs Q E hr h => ?_
  · obtain ⟨p, dx, y, n, d, o, rfl, _⟩ := h
    rfl
  · obtain ⟨p, dx, y, n, d, o, rfl, hp, q⟩ := h
    refine ⟨_, (pss_cons (ps_fld (pv 0) (pv 1) rfl)
      (pss_cons (ps_fld (pv 0) (pv 2) rfl)
      (pss_cons (ps_fld (pv 0) (pv 3) rfl)
      (pss_one (ps_fld (pv 0) (pv 4) rfl))))), ?_⟩
    refine ⟨_, rfl, _, rfl, p, Cd, dx, _, rfl, hp, T.cl, T.n1, (by show 0 < 1000; decide), ?_⟩
    refine ⟨_, rfl, _, rfl, p, Cd, dx, _, rfl, upd_same, T.cl, T.n2, (by show 1 < 1000; decide), ?_⟩
    refine ⟨_, rfl, _, rfl, p, Cd, dx, _, rfl, upd_same, T.cl, T.n3, (by show 2 < 1000; decide), ?_⟩
    refine ⟨_, rfl, _, rfl, p, Cd, dx, _, rfl, upd_same, T.cl, T.n4, (by show 3 < 1000; decide), ?_⟩
    rw [upd_upd, upd_upd, upd_upd]
    exact q
theorem bd_Date4 : Bd1 "__init__" "Date.__init__" s_Date_init ["self", "year", "number", "day", "odd"] 5 1 1 := fun _ _ _ _ _ _ _ us its hu hi => match us, hu, its, hi with | [_, _, _, _, _], _, [_], _ => ⟨_, rfl, rfl⟩
theorem ok_daE (D : Dm K Cd "__eq__" "Date.__eq__" s_Date_eq) (T : DaT K Cd) (g_isinstance : mg "isinstance" = none) (h_Date : mg "Date" = some (.ref Cd)) : Cm P w K mg base CX0 1 Cd "__eq__" "Date.__eq__" s_Date_eq ["self", "other"] (spDaE Cd) := by
  refine cm0 (k := 0) D c_Date_eq (fun vs H Q E h => ?_) fun f cdv A outer s H vs Q E hr h => ?_
  · obtain ⟨p, r, y, n, d, y', n', d', o, o', rfl, _⟩ := h
    rfl
  · obtain ⟨p, r, y, n, d, y', n', d', o, o', rfl, ⟨dx, hp⟩, ⟨dx', hr'⟩, q⟩ := h
    refine ⟨_, (pss_one (ps_ret (pe_and (pe_callB call_isi rfl g_isinstance (by decide +kernel) (pa_cons (pv 1) (pa_cons (pe_glob (v := .ref Cd) rfl h_Date rfl) pa_nil))) (pe_and (pe_cmpR op_eq (pe_fld (pv 0) rfl) (pe_fld (pv 1) rfl) (nomark _)) (pe_and (pe_cmpR op_eq (pe_fld (pv 0) rfl) (pe_fld (pv 1) rfl) (nomark _)) (pe_and (pe_cmpR op_eq (pe_fld (pv 0) rfl) (pe_fld (pv 1) rfl) (nomark _)) (pe_one (pe_cmpR op_eq (pe_fld (pv 0) rfl) (pe_fld (pv 1) rfl) (nomark _))))))))), ?_⟩
    refine ⟨_, rfl, _, _, _, _, _, rfl, .own Cd, T.ty _ _ _ _ hr', kit_self, _, rfl, iteT ?_⟩
    refine ⟨_, rfl, p, Cd, dx, _, _, rfl, hp, T.cl, T.n1, df_year _ _ _ _, _, rfl, r, Cd, dx', _, _, rfl, hr', T.cl, T.n1, df_year _ _ _ _, rfl, _, rfl, ?_⟩
    rw [dec_int]
    by_cases h1 : y = y'
    · rw [decide_eq_true h1] at q ⊢
      refine iteT ?_
      refine ⟨_, rfl, p, Cd, dx, _, _, rfl, hp, T.cl, T.n2, df_number _ _ _ _, _, rfl, r, Cd, dx', _, _, rfl, hr', T.cl, T.n2, df_number _ _ _ _, rfl, _, rfl, ?_⟩
      rw [dec_int]
      by_cases h2 : n = n'
      · rw [decide_eq_true h2] at q ⊢
        refine iteT ?_
        refine ⟨_, rfl, p, Cd, dx, _, _, rfl, hp, T.cl, T.n3, df_day _ _ _ _, _, rfl, r, Cd, dx', _, _, rfl, hr', T.cl, T.n3, df_day _ _ _ _, rfl, _, rfl, ?_⟩
        rw [dec_int]
        by_cases h3 : d = d'
        · rw [decide_eq_true h3] at q ⊢
          refine iteT ?_
          refine ⟨_, rfl, p, Cd, dx, _, _, rfl, hp, T.cl, T.n4, df_odd _ _ _ _, _, rfl, r, Cd, dx', _, _, rfl, hr', T.cl, T.n4, df_odd _ _ _ _, rfl, ?_⟩
          rw [dec_bl]
          exact q
        · rw [decide_eq_false h3] at q ⊢
          exact iteF q
      · rw [decide_eq_false h2] at q ⊢
        exact iteF q
    · rw [decide_eq_false h1] at q ⊢
      exact iteF q
end
/-- a new Date, read as its maker's caller wants it -/
theorem made_da {Cd : Addr} {H : Hp} {R : Addr → Hp → Prop} {E : XK} {y n d o : V} (h : ∀ p dx H', H p = none → Same H H' → H' p = some (.ins Cd dx (dfs y n d o)) → R p H') :
    ∀ x dx, H x = none → H dx = none → dx ≠ x → spDaI Cd [.ref x, y, n, d, o] (L2.upd (L2.upd H dx (.own x)) x (.ins Cd dx [])) (fun v H2 => v = .non ∧ R x H2) E := by
  intro x dx hx hd ne
  refine ⟨x, dx, y, n, d, o, rfl, upd_same, rfl, ?_⟩
  rw [upd_upd]
  refine h x dx _ hx (Same.upd (Same.new hd) ?_) upd_same
  rw [upd_ne ne.symm]
  exact hx
/-! ### numbers out of any text -/
theorem bd_numeral1 : Bd1 "numeral" "numeral" s_numeral ["number", "base"] 1 0 1 := fun _ _ _ _ _ _ _ us its hu hi => match us, hu, its, hi with | [_], _, [_], _ => ⟨_, rfl, rfl⟩
theorem bd_numeral2 : Bd1 "numeral" "numeral" s_numeral ["number", "base"] 2 1 1 := fun _ _ _ _ _ _ _ us its hu hi => match us, hu, its, hi with | [_, _], _, [_], _ => ⟨_, rfl, rfl⟩
theorem bd_number_in1 : Bd1 "number_in" "number_in" s_number_in ["text", "base"] 1 0 1 := fun _ _ _ _ _ _ _ us its hu hi => match us, hu, its, hi with | [_], _, [_], _ => ⟨_, rfl, rfl⟩
theorem bd_number_in2 : Bd1 "number_in" "number_in" s_number_in ["text", "base"] 2 1 1 := fun _ _ _ _ _ _ _ us its hu hi => match us, hu, its, hi with | [_, _], _, [_], _ => ⟨_, rfl, rfl⟩
def spNinG : Sp := fun vs H Q _ => ∃ (t : Str) (b : Nat), vs = [.str t, .int (b : Int)] ∧ 2 ≤ b ∧ b ≤ 16 ∧ t.length ≤ 98 ∧ Q (.int (nin (b : Int) t)) H
section
variable {P : Program} {w : World} {K : PySem.W.Frag} {mg : Str → Option Value} {base : Heap}
theorem ok_ninG (D : Df K mg "number_in" s_number_in [.int 10]) {tk : Tok} (h_FIGURES : mg "FIGURES" = some (.str FIG tk)) : Ca P w K mg base CX0 1 "number_in" s_number_in [.int 10] ["text", "base"] spNinG := by
  refine ca0 (k := 0) D c_number_in (fun vs H Q E h => ?_) fun f cdv A outer s H vs Q E hr h => ?_
  · obtain ⟨t, b, rfl, _⟩ := h
    rfl
  · obtain ⟨t, b, rfl, h2, h16, hl, q⟩ := h
    refine ⟨_, (pss_cons (ps_set (i := 2) c_number_in.nd rfl (.inl rfl) pe_int)
      (pss_cons (ps_for PassesOwn.never rfl (pi_str (pe_m1 PySem.F.slot_str_removeprefix PySem.F.type_str_removeprefix mt_removeprefix (pv 0) pe_str)) (pg_name (i := 3) c_number_in.nd rfl (.inl rfl)) (pss_one (ps_set (i := 2) c_number_in.nd rfl (.inl rfl) (pe_op op_add (pe_op op_mulA (pv 2) (pv 1)) (pe_m1 PySem.F.slot_str_find PySem.F.type_str_find mt_find (pe_glob (v := .str FIG) rfl h_FIGURES ⟨_, rfl⟩) (pv 3))))))
      (pss_one (ps_ret (pe_ifExp (pt_val (pe_m1 PySem.F.slot_str_startswith PySem.F.type_str_startswith mt_startswith (pv 0) pe_str)) (pe_un un_neg (pv 2)) (pv 2)))))), ?_⟩
    have ll : t.length ≤ sizeLine := Nat.le_trans hl (by decide)
    refine ⟨_, rfl, ⟨_, rfl⟩, t, _, rfl, rfl, ll, _, rfl, ?_⟩
    have rp := rp_gen t
    have hcl := unm_len t.cps.toList
    rw [← len_cps] at hcl
    generalize hz : Txt.removeprefix t ("-" : Str) = z at *
    have hzs : z.cps.size = (unm t.cps.toList).length := by rw [← rp]; simp
    refine for_it (walk_str (z := z)) (fun j σ H' => ∃ v3 : Option V, σ = [some (.str t), some (.int (b : Int)), some (.int (ninL (b : Int) ((unm t.cps.toList).take j))), v3] ∧ H' = H) ⟨_, rfl, rfl⟩ (fun _ _ _ _ _ => trivial) ?_ ?_
    · rintro j x σ H' H2 hj ⟨v3, rfl, rfl⟩ ⟨rfl, c, hc, rfl⟩
      have hj' : j < (unm t.cps.toList).length := by omega
      have ec : c = (unm t.cps.toList)[j] := by
        have e1 : z.cps.toList[j]? = some c := by simpa using hc
        rw [rp, List.getElem?_eq_getElem hj'] at e1
        exact (Option.some.inj e1).symm
      have vz : Sz 399 (ninL (b : Int) ((unm t.cps.toList).take j)) := by
        have h3 := ninL_sz h16 ((unm t.cps.toList).take j)
        have h4 : ((unm t.cps.toList).take j).length ≤ 98 := by rw [List.length_take]; omega
        have h5 : (16 : Nat) ^ (((unm t.cps.toList).take j).length + 1) ≤ 16 ^ 99 := Nat.pow_le_pow_right (by decide) (by omega)
        have h6 : (16 : Nat) ^ 99 = 2 ^ 396 := by decide
        exact Nat.lt_of_lt_of_le (Nat.lt_of_lt_of_le h3 h5) (by rw [h6]; exact Nat.pow_le_pow_right (by decide) (by decide))
      refine ⟨_, rfl, _, rfl, _, _, rfl, rfl, ⟨vz.mono (by decide), szb h16 (by decide)⟩, ⟨_, rfl⟩, _, rfl, FIG, ⟨#[c]⟩, rfl, rfl, _, _, rfl, rfl, ?_⟩
      refine ⟨some (.str ⟨#[c]⟩), ?_, rfl⟩
      show [_, _, some (V.int (ninL (b : Int) ((unm t.cps.toList).take j) * (b : Int) + fv c)), _] = _
      rw [← List.take_append_getElem hj', ninL_app, ec]
    · rintro σ H' ⟨v3, rfl, rfl⟩
      rw [hzs, List.take_length]
      refine ⟨_, rfl, ⟨_, rfl⟩, t, _, rfl, rfl, _, rfl, ?_⟩
      rw [sw_gen]
      unfold nin at q
      cases hD : hasD t.cps.toList with
      | true =>
        rw [hD, if_pos rfl] at q
        exact iteT ⟨_, rfl, _, rfl, q⟩
      | false =>
        rw [hD, if_neg Bool.false_ne_true] at q
        exact iteF ⟨_, rfl, q⟩
end
/-! ### a Date as a text, a Date beside anything -/
def daR (y n d : Int) (o : Bool) : Str := ((((((((Str.empty ++ ("Date(" : Str)) ++ numT 10 y) ++ (", " : Str)) ++ numT 10 n) ++ (", " : Str)) ++ numT 10 d) ++ (", odd=" : Str)) ++ blS o) ++ (")" : Str)
theorem sl_len {a : Str} {n : Nat} (h : a.length ≤ n) (hn : n ≤ 5000 := by decide) : a.length ≤ sizeLine := Nat.le_trans h (Nat.le_trans hn (by decide))
theorem ap_len {a b : Str} {n m : Nat} (ha : a.length ≤ n) (hb : b.length ≤ m) : (a ++ b).length ≤ n + m := by
  rw [str_app_len]
  omega
theorem lit_len {s : Str} {n : Nat} (h : Nat.ble s.length n = true := by decide +kernel) : s.length ≤ n := Nat.le_of_ble_eq_true h
theorem two_len {i : Int} (z : Sz 400 i) : (twoF i).length ≤ 402 := two_len' (numT_len (by decide) z)
theorem odd_len (o : Bool) : (oddS o).length ≤ 1 := by cases o <;> decide +kernel
theorem bls_len (o : Bool) : (blS o).length ≤ 5 := by cases o <;> decide +kernel
def spTwoF : Sp := fun vs H Q _ => ∃ i : Int, vs = [.int i] ∧ Sz 400 i ∧ ∀ H', Same H H' → Q (.str (twoF i)) H'
def spOddS : Sp := fun vs H Q _ => ∃ o : Bool, vs = [.bl o] ∧ Q (.str (oddS o)) H
def spDaS (Cd : Addr) : Sp := fun vs H Q _ => ∃ (p : Addr) (y n d : Int) (o : Bool), vs = [.ref p] ∧ Da Cd H p y n d o ∧ Sz 400 y ∧ Sz 400 n ∧ Sz 400 d ∧ ∀ H', Same H H' → Q (.str (daS y n d o)) H'
def spDaR (Cd : Addr) : Sp := fun vs H Q _ => ∃ (p : Addr) (y n d : Int) (o : Bool), vs = [.ref p] ∧ Da Cd H p y n d o ∧ Sz 400 y ∧ Sz 400 n ∧ Sz 400 d ∧ ∀ H', Same H H' → Q (.str (daR y n d o)) H'
def spDaG (K : PySem.W.Frag) (Cd : Addr) : Sp := fun vs H Q _ => ∃ (p : Addr) (x : V) (y n d : Int) (o : Bool), vs = [.ref p, x] ∧ Da Cd H p y n d o ∧
  ((∃ (r : Addr) (y' n' d' : Int) (o' : Bool), x = .ref r ∧ Da Cd H r y' n' d' o' ∧ Q (.bl (decide (y = y') && (decide (n = n') && (decide (d = d') && decide (o = o'))))) H) ∨ (∃ t, TyX K H x t ∧ PySem.W.kitOne K t (.ref Cd) = some false ∧ Q (.bl false) H))
section
variable {P : Program} {w : World} {K : PySem.W.Frag} {mg : Str → Option Value} {base : Heap} {Cd : Addr}
theorem ok_twoF (D : Df K mg "two_figures" s_two_figures []) (f_numeral : Ca P w K mg base CX0 1 "numeral" s_numeral [.int 10] ["number", "base"] spNum) : Ca P w K mg base CX0 2 "two_figures" s_two_figures [] ["number"] spTwoF := by
  refine ca0 (k := 1) D c_two_figures (fun vs H Q E h => ?_) fun f cdv A outer s H vs Q E hr h => ?_
  · obtain ⟨i, rfl, _⟩ := h
    rfl
  · obtain ⟨i, rfl, z, q⟩ := h
    refine ⟨_, (pss_one (ps_ret (pe_m1 PySem.F.slot_str_zfill PySem.F.type_str_zfill mt_zfill (pe_caD f_numeral bd_numeral1 (by decide) rfl hr (by decide) pass0 rfl (pa_cons (pv 0) pa_nil)) pe_int))), ?_⟩
    exact ⟨_, rfl, i, 10, rfl, by decide, by decide, z, fun H1 s1 => ⟨⟨_, rfl⟩, numT 10 i, 2, rfl, rfl, by decide +kernel, q H1 s1⟩⟩
theorem ok_oddS (D : Df K mg "odd_sign" s_odd_sign []) : Ca P w K mg base CX0 1 "odd_sign" s_odd_sign [] ["odd"] spOddS := by
  refine ca0 (k := 0) D c_odd_sign (fun vs H Q E h => ?_) fun f cdv A outer s H vs Q E hr h => ?_
  · obtain ⟨i, rfl, _⟩ := h
    rfl
  · obtain ⟨o, rfl, q⟩ := h
    refine ⟨_, (pss_one (ps_ret (pe_ifExp (pt_val (pv 0)) pe_str pe_str))), ?_⟩
    refine ⟨_, rfl, _, rfl, ?_⟩
    cases o with
    | true => exact iteT q
    | false => exact iteF q
theorem ok_daS (D : Dm K Cd "__str__" "Date.__str__" s_Date_str) (T : DaT K Cd) (f_numeral : Ca P w K mg base CX0 1 "numeral" s_numeral [.int 10] ["number", "base"] spNum) (f_two_figures : Ca P w K mg base CX0 2 "two_figures" s_two_figures [] ["number"] spTwoF)
    (f_odd_sign : Ca P w K mg base CX0 1 "odd_sign" s_odd_sign [] ["odd"] spOddS) : Cm P w K mg base CX0 3 Cd "__str__" "Date.__str__" s_Date_str ["self"] (spDaS Cd) := by
  refine cm0 (k := 2) D c_Date_str (fun vs H Q E h => ?_) fun f cdv A outer s H vs Q E hr h => ?_
  · obtain ⟨p, y, n, d, o, rfl, _⟩ := h
    rfl
  · obtain ⟨p, y, n, d, o, rfl, ⟨dx, e⟩, zy, zn, zd, q⟩ := h
    refine ⟨_, (pss_one (ps_ret (pe_joined (.cons (pe_fmt (pe_caD f_numeral bd_numeral1 (by decide) rfl hr (by decide) pass0 rfl (pa_cons (pe_fld (pv 0) rfl) pa_nil))) (.cons pe_str (.cons (pe_fmt (pe_ca f_two_figures b_two_figures hr (by decide) pass0 rfl (pa_cons (pe_fld (pv 0) rfl) pa_nil))) (.cons (pe_fmt (pe_ca f_odd_sign b_odd_sign hr (by decide) pass0 rfl (pa_cons (pe_fld (pv 0) rfl) pa_nil))) (.cons pe_str (.cons (pe_fmt (pe_ca f_two_figures b_two_figures hr (by decide) pass0 rfl (pa_cons (pe_fld (pv 0) rfl) pa_nil))) .nil))))))))), ?_⟩
    have l1 : (numT 10 y).length ≤ 401 := numT_len (by decide) zy
    have l2 := two_len zn
    have l3 := odd_len o
    have l4 := two_len zd
    have k0 : Str.empty.length ≤ 0 := lit_len
    have kd : ("-" : Str).length ≤ 1 := lit_len
    have a1 := ap_len k0 l1
    have a2 := ap_len a1 kd
    have a3 := ap_len a2 l2
    have a4 := ap_len a3 l3
    have a5 := ap_len a4 kd
    have a6 := ap_len a5 l4
    refine ⟨_, rfl, p, Cd, dx, _, _, rfl, e, T.cl, T.n1, df_year _ _ _ _, y, 10, rfl, by decide, by decide, zy, fun H1 s1 => .inl ⟨_, rfl, sl_len l1, _, rfl, sl_len a1, ?_⟩⟩
    refine ⟨_, rfl, sl_len a2, ?_⟩
    refine ⟨_, rfl, p, Cd, dx, _, _, rfl, s1 _ _ e, T.cl, T.n2, df_number _ _ _ _, n, rfl, zn, fun H2 s2 => .inl ⟨_, rfl, sl_len l2, _, rfl, sl_len a3, ?_⟩⟩
    refine ⟨_, rfl, p, Cd, dx, _, _, rfl, s2 _ _ (s1 _ _ e), T.cl, T.n4, df_odd _ _ _ _, o, rfl, .inl ⟨_, rfl, sl_len l3, _, rfl, sl_len a4, ?_⟩⟩
    refine ⟨_, rfl, sl_len a5, ?_⟩
    refine ⟨_, rfl, p, Cd, dx, _, _, rfl, s2 _ _ (s1 _ _ e), T.cl, T.n3, df_day _ _ _ _, d, rfl, zd, fun H3 s3 => .inl ⟨_, rfl, sl_len l4, _, rfl, sl_len a6, ?_⟩⟩
    exact q H3 (s1.trans (s2.trans s3))
theorem ok_daR (D : Dm K Cd "__repr__" "Date.__repr__" s_Date_repr) (T : DaT K Cd) (f_numeral : Ca P w K mg base CX0 1 "numeral" s_numeral [.int 10] ["number", "base"] spNum) : Cm P w K mg base CX0 2 Cd "__repr__" "Date.__repr__" s_Date_repr ["self"] (spDaR Cd) := by
  refine cm0 (k := 1) D c_Date_repr (fun vs H Q E h => ?_) fun f cdv A outer s H vs Q E hr h => ?_
  · obtain ⟨p, y, n, d, o, rfl, _⟩ := h
    rfl
  · obtain ⟨p, y, n, d, o, rfl, ⟨dx, e⟩, zy, zn, zd, q⟩ := h
    refine ⟨_, (pss_one (ps_ret (pe_joined (.cons pe_str (.cons (pe_fmt (pe_caD f_numeral bd_numeral1 (by decide) rfl hr (by decide) pass0 rfl (pa_cons (pe_fld (pv 0) rfl) pa_nil))) (.cons pe_str (.cons (pe_fmt (pe_caD f_numeral bd_numeral1 (by decide) rfl hr (by decide) pass0 rfl (pa_cons (pe_fld (pv 0) rfl) pa_nil))) (.cons pe_str (.cons (pe_fmt (pe_caD f_numeral bd_numeral1 (by decide) rfl hr (by decide) pass0 rfl (pa_cons (pe_fld (pv 0) rfl) pa_nil))) (.cons pe_str (.cons (pe_fmtB (pe_fld (pv 0) rfl)) (.cons pe_str .nil)))))))))))), ?_⟩
    have l1 : (numT 10 y).length ≤ 401 := numT_len (by decide) zy
    have l2 : (numT 10 n).length ≤ 401 := numT_len (by decide) zn
    have l3 : (numT 10 d).length ≤ 401 := numT_len (by decide) zd
    have l4 := bls_len o
    have k0 : (Str.empty ++ ("Date(" : Str)).length ≤ 5 := lit_len
    have kc : (", " : Str).length ≤ 2 := lit_len
    have ko : (", odd=" : Str).length ≤ 6 := lit_len
    have kp : (")" : Str).length ≤ 1 := lit_len
    have a1 := ap_len k0 l1
    have a2 := ap_len a1 kc
    have a3 := ap_len a2 l2
    have a4 := ap_len a3 kc
    have a5 := ap_len a4 l3
    have a6 := ap_len a5 ko
    have a7 := ap_len a6 l4
    have a8 := ap_len a7 kp
    refine ⟨_, rfl, sl_len k0, ?_⟩
    refine ⟨_, rfl, p, Cd, dx, _, _, rfl, e, T.cl, T.n1, df_year _ _ _ _, y, 10, rfl, by decide, by decide, zy, fun H1 s1 => .inl ⟨_, rfl, sl_len l1, _, rfl, sl_len a1, ?_⟩⟩
    refine ⟨_, rfl, sl_len a2, ?_⟩
    refine ⟨_, rfl, p, Cd, dx, _, _, rfl, s1 _ _ e, T.cl, T.n2, df_number _ _ _ _, n, 10, rfl, by decide, by decide, zn, fun H2 s2 => .inl ⟨_, rfl, sl_len l2, _, rfl, sl_len a3, ?_⟩⟩
    refine ⟨_, rfl, sl_len a4, ?_⟩
    refine ⟨_, rfl, p, Cd, dx, _, _, rfl, s2 _ _ (s1 _ _ e), T.cl, T.n3, df_day _ _ _ _, d, 10, rfl, by decide, by decide, zd, fun H3 s3 => .inl ⟨_, rfl, sl_len l3, _, rfl, sl_len a5, ?_⟩⟩
    refine ⟨_, rfl, sl_len a6, ?_⟩
    refine ⟨_, rfl, p, Cd, dx, _, _, rfl, s3 _ _ (s2 _ _ (s1 _ _ e)), T.cl, T.n4, df_odd _ _ _ _, o, rfl, _, rfl, sl_len a7, ?_⟩
    refine ⟨_, rfl, sl_len a8, ?_⟩
    exact q H3 (s1.trans (s2.trans s3))
theorem ok_daG (D : Dm K Cd "__eq__" "Date.__eq__" s_Date_eq) (T : DaT K Cd) (g_isinstance : mg "isinstance" = none) (h_Date : mg "Date" = some (.ref Cd)) : Cm P w K mg base CX0 1 Cd "__eq__" "Date.__eq__" s_Date_eq ["self", "other"] (spDaG K Cd) := by
  refine cm0 (k := 0) D c_Date_eq (fun vs H Q E h => ?_) fun f cdv A outer s H vs Q E hr h => ?_
  · obtain ⟨p, x, y, n, d, o, rfl, _⟩ := h
    rfl
  · obtain ⟨p, x, y, n, d, o, rfl, ⟨dx, hp⟩, hh⟩ := h
    refine ⟨_, (pss_one (ps_ret (pe_and (pe_callB call_isi rfl g_isinstance (by decide +kernel) (pa_cons (pv 1) (pa_cons (pe_glob (v := .ref Cd) rfl h_Date rfl) pa_nil))) (pe_and (pe_cmpR op_eq (pe_fld (pv 0) rfl) (pe_fld (pv 1) rfl) (nomark _)) (pe_and (pe_cmpR op_eq (pe_fld (pv 0) rfl) (pe_fld (pv 1) rfl) (nomark _)) (pe_and (pe_cmpR op_eq (pe_fld (pv 0) rfl) (pe_fld (pv 1) rfl) (nomark _)) (pe_one (pe_cmpR op_eq (pe_fld (pv 0) rfl) (pe_fld (pv 1) rfl) (nomark _))))))))), ?_⟩
    rcases hh with ⟨r, y', n', d', o', rfl, ⟨dx', hr'⟩, q⟩ | ⟨t, ty, kt, q⟩
    · refine ⟨_, rfl, _, _, _, _, _, rfl, .own Cd, T.ty _ _ _ _ hr', kit_self, _, rfl, iteT ?_⟩
      refine ⟨_, rfl, p, Cd, dx, _, _, rfl, hp, T.cl, T.n1, df_year _ _ _ _, _, rfl, r, Cd, dx', _, _, rfl, hr', T.cl, T.n1, df_year _ _ _ _, rfl, _, rfl, ?_⟩
      rw [dec_int]
      by_cases h1 : y = y'
      · rw [decide_eq_true h1] at q ⊢
        refine iteT ?_
        refine ⟨_, rfl, p, Cd, dx, _, _, rfl, hp, T.cl, T.n2, df_number _ _ _ _, _, rfl, r, Cd, dx', _, _, rfl, hr', T.cl, T.n2, df_number _ _ _ _, rfl, _, rfl, ?_⟩
        rw [dec_int]
        by_cases h2 : n = n'
        · rw [decide_eq_true h2] at q ⊢
          refine iteT ?_
          refine ⟨_, rfl, p, Cd, dx, _, _, rfl, hp, T.cl, T.n3, df_day _ _ _ _, _, rfl, r, Cd, dx', _, _, rfl, hr', T.cl, T.n3, df_day _ _ _ _, rfl, _, rfl, ?_⟩
          rw [dec_int]
          by_cases h3 : d = d'
          · rw [decide_eq_true h3] at q ⊢
            refine iteT ?_
            refine ⟨_, rfl, p, Cd, dx, _, _, rfl, hp, T.cl, T.n4, df_odd _ _ _ _, _, rfl, r, Cd, dx', _, _, rfl, hr', T.cl, T.n4, df_odd _ _ _ _, rfl, ?_⟩
            rw [dec_bl]
            exact q
          · rw [decide_eq_false h3] at q ⊢
            exact iteF q
        · rw [decide_eq_false h2] at q ⊢
          exact iteF q
      · rw [decide_eq_false h1] at q ⊢
        exact iteF q
    · exact ⟨_, rfl, _, _, _, _, _, rfl, .own Cd, ty, kt, _, rfl, iteF q⟩
end
/-! ### Dates out of texts -/
def spRd (Cd CN : Addr) : Sp := fun vs H Q E => ∃ t : Str, vs = [.str t] ∧ t.length ≤ 98 ∧ (∀ y n d o, 0 ≤ n → 0 ≤ d → t = daS y n d o → ∀ p H', Same H H' → Da Cd H' p y n d o → Q (.ref p) H') ∧ ((∀ y n d o, 0 ≤ n → 0 ≤ d → t ≠ daS y n d o) → NtE CN E H t)
theorem rpt_len (t : Str) : (Txt.rpartition t ("-" : Str)).1.length ≤ t.length ∧ (Txt.rpartition t ("-" : Str)).2.2.length ≤ t.length := by
  rcases rpart_cases dash_tl t with ⟨e, _⟩ | ⟨a, b, e, h, _⟩
  · rw [e]
    exact ⟨Nat.zero_le _, Nat.le_refl _⟩
  · rw [e, h]
    have h1 := str_app_len (a ++ ("-" : Str)) b
    have h2 := str_app_len a ("-" : Str)
    constructor
    · show a.length ≤ _
      omega
    · show b.length ≤ _
      omega
theorem nin_z {t : Str} (h : t.length ≤ 98) : Sz 400 (nin ((10 : Nat) : Int) t) := Nat.lt_of_lt_of_le (nin_sz (b := 10) (n := 98) (by decide) h) (Nat.pow_le_pow_right (by decide) (by decide))
section
variable {P : Program} {w : World} {K : PySem.W.Frag} {mg : Str → Option Value} {base : Heap} {Cd CN : Addr}
theorem ok_rd (D : Df K mg "read_date" s_read_date []) (T : NtT K mg CN) (nc : Cx1 P w K mg base 1 CN "NoText.__init__" s_NoText_init ["self", "at"] (spNt CN)) (Td : DaT K Cd) (g_str : mg "str" = none) (f_number_in : Ca P w K mg base CX0 1 "number_in" s_number_in [.int 10] ["text", "base"] spNinG)
    (f_Date : Ci P w K mg base CX0 1 "Date" Cd "Date.__init__" s_Date_init [.bl false] ["self", "year", "number", "day", "odd"] (spDaI Cd)) (f_Date_str : Cm P w K mg base CX0 3 Cd "__str__" "Date.__str__" s_Date_str ["self"] (spDaS Cd)) : Ca P w K mg base (L2.CX P w) 6 "read_date" s_read_date [] ["text"] (spRd Cd CN) := by
  refine caX (k := 5) D c_read_date (fun vs H Q E h => ?_) fun f cdv A outer s H vs Q E hr h => ?_
  · obtain ⟨t, rfl, _⟩ := h
    rfl
  · obtain ⟨t, rfl, hl, q, qn⟩ := h
    refine ⟨_, (pss_cons (ps_asg (pe_m1 PySem.F.slot_str_rpartition PySem.F.type_str_rpartition mt_rpartition (pv 0) pe_str) (pg_tup rfl (pgs_cons (pg_name (i := 1) c_read_date.nd rfl (.inl rfl)) (pgs_cons (pg_name (i := 2) c_read_date.nd rfl (.inl rfl)) (pgs_cons (pg_name (i := 3) c_read_date.nd rfl (.inl rfl)) pgs_nil)))))
      (pss_cons (ps_asg (pe_m1 PySem.F.slot_str_rpartition PySem.F.type_str_rpartition mt_rpartition (pv 1) pe_str) (pg_tup rfl (pgs_cons (pg_name (i := 4) c_read_date.nd rfl (.inl rfl)) (pgs_cons (pg_name (i := 2) c_read_date.nd rfl (.inl rfl)) (pgs_cons (pg_name (i := 5) c_read_date.nd rfl (.inl rfl)) pgs_nil)))))
      (pss_cons (ps_set (i := 6) c_read_date.nd rfl (.inl rfl) (pe_caD f_number_in bd_number_in1 (by decide) rfl hr (by decide) pass0 rfl (pa_cons (pe_m1 PySem.F.slot_str_removesuffix PySem.F.type_str_removesuffix mt_removesuffix (pv 5) pe_str) pa_nil)))
      (pss_cons (ps_set (i := 7) c_read_date.nd rfl (.inl rfl) (pe_ci f_Date bd_Date4 (by decide) rfl hr (by decide) pass0 rfl (pa_cons (pe_caD f_number_in bd_number_in1 (by decide) rfl hr (by decide) pass0 rfl (pa_cons (pv 4) pa_nil)) (pa_cons (pv 6) (pa_cons (pe_caD f_number_in bd_number_in1 (by decide) rfl hr (by decide) pass0 rfl (pa_cons (pv 3) pa_nil)) (pa_cons (pe_m1 PySem.F.slot_str_endswith PySem.F.type_str_endswith mt_endswith (pv 5) pe_str) pa_nil))))))
      (pss_cons (ps_if (pt_cmpR op_ne (pe_callTy (call_str_SA f_Date_str b_Date_str (hr.mono (by decide)) pass0) rfl g_str (by decide +kernel) (pa_cons (pv 7) pa_nil)) (pv 0) (nomark _)) (pss_one (ps_raise rfl (takes_of (E := E) rfl rfl rfl rfl) (mk_nt T nc (hr.mono (by decide)) rfl (pa_cons (pv 0) pa_nil)))) pss_nil)
      (pss_one (ps_ret (pv 7)))))))), ?_⟩
    have ll : t.length ≤ sizeLine := Nat.le_trans hl (by decide)
    have lp := rpt_len t
    refine ⟨_, rfl, ⟨_, rfl⟩, t, ("-" : Str), rfl, rfl, rfl, ll, fun p np => ?_⟩
    have sp' := Same.new (o := .tup [.str (Txt.rpartition t ("-" : Str)).1, .str (Txt.rpartition t ("-" : Str)).2.1, .str (Txt.rpartition t ("-" : Str)).2.2]) np
    refine ⟨p, _, rfl, SqT.of upd_same, rfl, _, _, rfl, _, _, rfl, _, _, rfl, rfl, ?_⟩
    generalize L2.upd H p _ = H1 at *
    have er : ∀ r1 r2, Txt.rpartition t ("-" : Str) = r1 → Txt.rpartition r1.1 ("-" : Str) = r2 → rdd t = ⟨nin ((10 : Nat) : Int) r2.1, nin ((10 : Nat) : Int) (Txt.removesuffix r2.2.2 ("*" : Str)), nin ((10 : Nat) : Int) r1.2.2, Txt.endswith r2.2.2 ("*" : Str)⟩ := fun r1 r2 h1 h2 => by
      subst h1 h2
      rfl
    have er' := er _ _ rfl rfl
    clear er
    generalize Txt.rpartition t ("-" : Str) = r1 at *
    obtain ⟨r, d1, dd⟩ := r1
    have lr : r.length ≤ 98 := Nat.le_trans lp.1 hl
    have ldd : dd.length ≤ 98 := Nat.le_trans lp.2 hl
    have lq := rpt_len r
    refine ⟨_, rfl, ⟨_, rfl⟩, r, ("-" : Str), rfl, rfl, rfl, Nat.le_trans lr (by decide), fun p2 np2 => ?_⟩
    have sp2 := Same.new (o := .tup [.str (Txt.rpartition r ("-" : Str)).1, .str (Txt.rpartition r ("-" : Str)).2.1, .str (Txt.rpartition r ("-" : Str)).2.2]) np2
    refine ⟨p2, _, rfl, SqT.of upd_same, rfl, _, _, rfl, _, _, rfl, _, _, rfl, rfl, ?_⟩
    generalize L2.upd H1 p2 _ = H2 at *
    dsimp only at er' lp lq
    generalize Txt.rpartition r ("-" : Str) = r2 at *
    obtain ⟨yy, d2, mm⟩ := r2
    dsimp only at er'
    have lyy : yy.length ≤ 98 := Nat.le_trans lq.1 lr
    have lmm : mm.length ≤ 98 := Nat.le_trans lq.2 lr
    have lsf : (Txt.removesuffix mm ("*" : Str)).length ≤ 98 := Nat.le_trans (len_removesuffix mm ("*" : Str)) lmm
    have s12 := sp'.trans sp2
    refine ⟨_, rfl, ⟨_, rfl⟩, mm, ("*" : Str), rfl, rfl, Nat.le_trans lmm (by decide), _, 10, rfl, by decide, by decide, lsf, ?_⟩
    refine ⟨_, rfl, yy, 10, rfl, by decide, by decide, lyy, _, rfl, _, rfl, dd, 10, rfl, by decide, by decide, ldd, _, rfl, ⟨_, rfl⟩, mm, ("*" : Str), rfl, rfl, ?_⟩
    refine made_da (R := fun p H1 => _) fun dt dx H3 nd s3 ed => ?_
    have zy := nin_z lyy
    have zn := nin_z lsf
    have zd := nin_z ldd
    have s13 := s12.trans s3
    have eda : Da Cd H3 dt (rdd t).y (rdd t).n (rdd t).d (rdd t).o := by
      rw [er']
      exact ⟨dx, ed⟩
    refine ⟨_, rfl, sa_own ed ⟨dt, _, _, _, _, rfl, ⟨dx, ed⟩, zy, zn, zd, fun H4 s4 => ⟨_, rfl, _, rfl, rfl, _, rfl, ?_⟩⟩⟩
    by_cases hc : daS (rdd t).y (rdd t).n (rdd t).d (rdd t).o = t
    · have hc' := hc
      rw [er'] at hc'
      rw [show decide (V.str (daS _ _ _ _) = V.str t) = true from decide_eq_true (congrArg V.str hc')]
      obtain ⟨h0, h1⟩ := rdd_ok hc
      exact iteF ⟨_, rfl, q _ _ _ _ h0 h1 hc.symm _ _ (s13.trans s4) (eda.same s4)⟩
    · have hc' := hc
      rw [er'] at hc'
      rw [show decide (V.str (daS _ _ _ _) = V.str t) = false from decide_eq_false (fun z => hc' (V.str.inj z))]
      refine iteT ⟨_, rfl, rd_nt (Nat.le_trans hl (by decide)) (qn fun y n d o h0 h1 e => hc ?_) (s13.trans s4)⟩
      obtain ⟨e1, e2, e3, e4⟩ := rdd_of h0 h1 e
      rw [e1, e2, e3, e4]
      exact e.symm
end
def spDateOf (C Cc Cd : Addr) : Sp := fun vs H Q _ => ∃ (p : Addr) (i : Int) (m y o k : Rat), vs = [.ref p, .int i] ∧ Cl C Cc H p m y o k ∧ Good m y o k ∧ Sz 1200 i ∧
  ∀ r H', H r = none → Same H H' → Da Cd H' r (dtY m y o k i) (dtN m y o k i) (dtD m o i) (dtO m y o k i) → Q (.ref r) H'
section
variable {P : Program} {w : World} {K : PySem.W.Frag} {mg : Str → Option Value} {base : Heap} {C Cc Cd : Addr}
theorem ok_date_of (D : Df K mg "date_of" s_date_of []) (f_month_at : Cm P w K mg base CX0 7 Cc "month_at" "Calendar.month_at" s_Calendar_month_at ["self", "day"] (spM1 C Cc 2900 fun m _ o _ i => .int (maF m o i))) (f_name_of : Cm P w K mg base CX0 9 Cc "name_of" "Calendar.name_of" s_Calendar_name_of ["self", "k"] (spName C Cc)) (f_start : Cm P w K mg base CX0 7 Cc "start" "Calendar.start" s_Calendar_start ["self", "k"] (spM1 C Cc 3000 fun m _ o _ i => .int (stF m o i))) (f_Date : Ci P w K mg base CX0 1 "Date" Cd "Date.__init__" s_Date_init [.bl false] ["self", "year", "number", "day", "odd"] (spDaI Cd)) : Ca P w K mg base CX0 10 "date_of" s_date_of [] ["calendar", "day"] (spDateOf C Cc Cd) := by
  refine ca0 (k := 9) D c_date_of (fun vs H Q E h => ?_) fun f cdv A outer s H vs Q E hr h => ?_
  · obtain ⟨p, i, m, y, o, k, rfl, _⟩ := h
    rfl
  · obtain ⟨p, i, m, y, o, k, rfl, hc, g, zi, q⟩ := h
    obtain ⟨dx, a, b, c, d, e, h1, h2, h3, h4⟩ := id hc
    refine ⟨_, (pss_cons (ps_set (i := 2) c_date_of.nd rfl (.inl rfl) (pe_cm f_month_at b_Calendar_month_at hr (by decide) pass0 (pv 0) (pa_cons (pv 1) pa_nil)))
      (pss_cons (ps_asg (pe_cm f_name_of b_Calendar_name_of hr (by decide) pass0 (pv 0) (pa_cons (pv 2) pa_nil)) (pg_tup rfl (pgs_cons (pg_name (i := 3) c_date_of.nd rfl (.inl rfl)) (pgs_cons (pg_name (i := 4) c_date_of.nd rfl (.inl rfl)) (pgs_cons (pg_name (i := 5) c_date_of.nd rfl (.inl rfl)) pgs_nil)))))
      (pss_one (ps_ret (pe_ci f_Date bd_Date4 (by decide) rfl hr (by decide) pass0 rfl (pa_cons (pv 3) (pa_cons (pv 4) (pa_cons (pe_op op_add (pe_op op_sub (pv 1) (pe_cm f_start b_Calendar_start hr (by decide) pass0 (pv 0) (pa_cons (pv 2) pa_nil))) pe_int) (pa_cons (pv 5) pa_nil))))))))), ?_⟩
    have zk : Sz 1360 (maF m o i) := g.zma zi (by decide) (by decide)
    refine ⟨_, rfl, p, dx, _, rfl, e, cf_no _ _ _ _, _, rfl, p, i, m, y, o, k, rfl, hc, g, zi.mono (by decide), fun H1 s1 => ?_⟩
    refine ⟨_, rfl, p, dx, _, rfl, s1 _ _ e, cf_no _ _ _ _, _, rfl, p, _, m, y, o, k, rfl, hc.same s1, g, zk.mono (by decide), fun t H2 nt s2 et => ?_⟩
    refine ⟨t, _, rfl, SqT.of et, rfl, _, _, rfl, _, _, rfl, _, _, rfl, rfl, ?_⟩
    have s12 := s1.trans s2
    refine ⟨_, rfl, _, rfl, _, rfl, _, rfl, p, dx, _, rfl, s12 _ _ e, cf_no _ _ _ _, _, rfl, p, _, m, y, o, k, rfl, hc.same s12, g, zk.mono (by decide), fun H3 s3 => ⟨_, _, rfl, rfl, _, _, rfl, rfl, _, rfl, ?_⟩⟩
    exact made_da fun r dx H4 nr s4 er => q r H4 ((s12.trans s3).free nr) ((s12.trans s3).trans s4) ⟨dx, er⟩
end
def spDaysOf (C Cc : Addr) : Sp := fun vs H Q _ => ∃ (p : Addr) (i j : Int) (m y o k : Rat), vs = [.ref p, .int i, .int j] ∧ Cl C Cc H p m y o k ∧ Good m y o k ∧ Sz 1500 i ∧ Sz 1500 j ∧ ∀ H', Same H H' → Q (.int (stF m o (i + j) - stF m o i)) H'
section
variable {P : Program} {w : World} {K : PySem.W.Frag} {mg : Str → Option Value} {base : Heap} {C Cc : Addr}
theorem ok_daysof (D : Df K mg "days_of" s_days_of []) (f_start : Cm P w K mg base CX0 7 Cc "start" "Calendar.start" s_Calendar_start ["self", "k"] (spM1 C Cc 3000 fun m _ o _ i => .int (stF m o i))) : Ca P w K mg base CX0 8 "days_of" s_days_of [] ["calendar", "k", "many"] (spDaysOf C Cc) := by
  refine ca0 (k := 7) D c_days_of (fun vs H Q E h => ?_) fun f cdv A outer s H vs Q E hr h => ?_
  · obtain ⟨p, i, j, m, y, o, k, rfl, _⟩ := h
    rfl
  · obtain ⟨p, i, j, m, y, o, k, rfl, hc, g, zi, zj, q⟩ := h
    obtain ⟨dx, a, b, c, d, e, h1, h2, h3, h4⟩ := id hc
    refine ⟨_, (pss_one (ps_ret (pe_op op_sub (pe_cm f_start b_Calendar_start hr (by decide) pass0 (pv 0) (pa_cons (pe_op op_add (pv 1) (pv 2)) pa_nil)) (pe_cm f_start b_Calendar_start hr (by decide) pass0 (pv 0) (pa_cons (pv 1) pa_nil))))), ?_⟩
    refine ⟨_, rfl, p, dx, _, rfl, e, cf_no _ _ _ _, _, rfl, _, rfl, _, _, rfl, rfl, p, _, m, y, o, k, rfl, hc, g, (Sz.add zi zj (by decide : 1500 < 1600)).mono (by decide), fun H1 s1 => ?_⟩
    refine ⟨_, rfl, p, dx, _, rfl, s1 _ _ e, cf_no _ _ _ _, _, rfl, p, i, m, y, o, k, rfl, hc.same s1, g, zi.mono (by decide), fun H2 s2 => ⟨_, _, rfl, rfl, q H2 (s1.trans s2)⟩⟩
end
/-! ### NoDate -/
abbrev bmL : List Value := [.type "LookupError", .type "Exception", .type "BaseException", .type "object"]
abbrev OxL (K : PySem.W.Frag) (C : Addr) : Prop := OxG K C "LookupError" "LookupError.__new__" "LookupError.__init__" bmL
theorem typ_L : typeOf (.type "LookupError") = pure (.type "type") := by kernel_rfl
structure NdT (K : PySem.W.Frag) (mg : Str → Option Value) (CD : Addr) : Prop where
  ox : OxL K CD
  n1 : PySem.W.findIn K (.ref CD) "date" = some none
  n2 : PySem.W.findIn K (.ref CD) "why" = some none
  vV : PySem.W.findCls K (.type "LookupError") (.type "type") "__init__" = some (.val (.builtin "LookupError.__init__"))
  gV : mg "LookupError" = none
  mN : mg "NoDate" = some (.ref CD)
def spNd (CD : Addr) : Sp := fun vs H Q _ => ∃ (a d : Addr) (x : Str), vs = [.ref a, .ref d, .str x] ∧ x.length ≤ 1000 ∧ H a = some (exo a CD none) ∧ ∀ dx, H dx = none → dx ≠ a → Q .non (L2.upd (L2.upd (L2.upd H dx (exd dx [("date", .ref d)])) a (exo a CD (some dx))) dx (exd dx [("why", .str x), ("date", .ref d)]))
/-- an error of NoDate that tells d and x -/
def NdE (CD : Addr) (E : XK) (H : Hp) (d : Addr) (x : Str) : Prop := ∀ (e : Addr) (H' : Hp), H e = none → Same H H' → H' e = some (.xd [("why", .str x), ("date", .ref d)]) → E (.ref CD) (some e) H'
theorem NdE.same {CD : Addr} {E : XK} {H H1 : Hp} {d : Addr} {x : Str} (k : NdE CD E H d x) (s : Same H H1) : NdE CD E H1 d x := fun e H' ne hs he => k e H' (s.free ne) (s.trans hs) he
section
variable {P : Program} {w : World} {K : PySem.W.Frag} {mg : Str → Option Value} {base : Heap} {CD : Addr}
theorem ok_nd (D : Dx K CD "NoDate.__init__" s_NoDate_init) (T : NdT K mg CD) : Cx1 P w K mg base 1 CD "NoDate.__init__" s_NoDate_init ["self", "date", "why"] (spNd CD) := by
  obtain ⟨f, fd, F, h1, h2⟩ := D.ex
  refine ⟨f, fd, F, h1, h2, F.ok c_NoDate_init (fun vs H Q E h => ?_) fun cdv A outer s H vs Q E hr h => ?_⟩
  · obtain ⟨a, d, x, rfl, _⟩ := h
    rfl
  · obtain ⟨a, d, x, rfl, hx, ha, q⟩ := h
    refine ⟨_, PSs.nox (pss_cons (ps_expr (pe_bini (newId := "LookupError.__new__") (bm := bmL) rfl T.gV (by decide +kernel) typ_L T.vV (pa_cons (pv 0) (pa_cons (pe_joined (.cons pe_str (.cons (pe_fmt (pv 2)) .nil))) pa_nil))))
      (pss_cons (ps_gst (B := "LookupError") (newId := "LookupError.__new__") (initId := "LookupError.__init__") (bm := bmL) (f := "date") (pv 0) (pv 1))
      (pss_one (ps_gst (B := "LookupError") (newId := "LookupError.__new__") (initId := "LookupError.__init__") (bm := bmL) (f := "why") (pv 0) (pv 2))))), ?_⟩
    refine ⟨_, rfl, _, rfl, (by decide), _, rfl, .inl ⟨x, rfl, Nat.le_trans hx (by decide), x, rfl, ?_, a, CD, _, rfl, (by show 1 ≤ 1000; decide), T.ox, ha, ?_⟩⟩
    · rw [str_app_len, str_app_len]
      exact Nat.le_trans (Nat.add_le_add_left hx _) (by decide)
    · refine ⟨_, rfl, _, rfl, a, CD, rfl, T.ox, T.n1, .inl ⟨ha, fun dx nd ne => ?_⟩⟩
      refine ⟨_, rfl, _, rfl, a, CD, rfl, T.ox, T.n2, .inr ⟨dx, [("date", .ref d)], upd_same, ?_, (by show 1 ≤ 900; decide), q dx nd ne⟩⟩
      rw [upd_ne ne, upd_same]
/-- raise NoDate(d, x) -/
theorem mk_nd {X : Cx} {e e2 : Expr} {te te2 : TE} {p pos : Pos} (T : NdT X.K X.mg CD) (c : Cx1 X.prog X.w X.K X.mg X.base 1 CD "NoDate.__init__" s_NoDate_init ["self", "date", "why"] (spNd CD)) (hr : Room 2 X.A) (hg : Gl X "NoDate") (ha : PA X [e, e2] (tCons te (tCons te2 tNil)))
    (he : starEach (e :: [e2]) X.env = (false, eval e X.env) :: starEach [e2] X.env := by rfl) (hpl : (backTo pos (starEach [e2] X.env)).any (·.1) = false := by rfl) : PMk X (.Call (.Name "NoDate" p) [e, e2] [] pos) (tMkO CD (spNd CD) [] (tCons te (tCons te2 tNil))) := by
  obtain ⟨f, fd, F, h1, h2, G⟩ := c.ex
  exact pmk_g T.ox h1 h2 G hr (F.bindsN fun _ _ _ _ _ _ us hl => match us, hl with | [_, _, _], _ => rfl) .nil pass0 hg T.mN ha (by decide) he hpl
theorem rd_nd {H : Hp} {E : XK} {d : Addr} {x : Str} (hx : x.length ≤ 1000) (k : NdE CD E H d x) {H1 : Hp} (s : Same H H1) : ([V.ref d, V.str x] : List V).length ≤ 1000 ∧ ∀ a, H1 a = none → spNd CD (.ref a :: ([V.ref d, V.str x] ++ [])) (L2.upd H1 a (exo a CD none))
    (fun v H2 => v = .non ∧ ∃ (e : Addr) (fs : List (Str × V)), H2 a = some (exo a CD (some e)) ∧ H2 e = some (exd e fs) ∧ H1 e = none ∧ E (.ref CD) (some e) (L2.upd (del H2 a) e (.xd fs))) (fun _ _ _ => False) := by
  refine ⟨(by show 2 ≤ 1000; decide), fun a na => ⟨a, d, x, rfl, hx, upd_same, fun dx nd ne => ⟨rfl, dx, [("why", .str x), ("date", .ref d)], ?_, upd_same, ?_, ?_⟩⟩⟩
  · rw [upd_ne ne.symm, upd_same]
  · rw [upd_ne ne] at nd
    exact nd
  · rw [upd_ne ne] at nd
    refine k dx _ (s.free nd) (fun b o e => ?_) upd_same
    have e1 := s b o e
    rw [upd_ne (ne_of_none e1 nd), del_ne (ne_of_none e1 na), upd_ne (ne_of_none e1 nd), upd_ne (ne_of_none e1 na), upd_ne (ne_of_none e1 nd), upd_ne (ne_of_none e1 na)]
    exact e1
end
/-! ### months of dates -/
def pmF (m y o k : Rat) (a b : Int) : Int := maF m o (mdF y k (12 * a + b - 1))
def hasM (m y o k : Rat) (i : Int) : Prop := mdF y k (jF y k (stF m o i)) < stF m o (i + 1)
instance {m y o k : Rat} {i : Int} : Decidable (hasM m y o k i) := by
  unfold hasM
  exact inferInstance
theorem miF_eq (m y o k : Rat) (i : Int) : miF m y o k i = if hasM m y o k i then .int (jF y k (stF m o i)) else .non := rfl
/-- the month of a date, or why there is none -/
def moF (m y o k : Rat) (a b : Int) (od : Bool) : Sum Str Int := if b < 1 then .inl "number" else if 12 < b then .inl "number" else if od = true then (if hasM m y o k (pmF m y o k a b + 1) then .inl "odd" else .inr (pmF m y o k a b + 1)) else .inr (pmF m y o k a b)
def dyF (m y o k : Rat) (a b c : Int) (od : Bool) : Sum Str Int := match moF m y o k a b od with
  | .inl w => .inl w
  | .inr i => if c < 1 then .inl "day" else if stF m o (i + 1) - stF m o i < c then .inl "day" else .inr (stF m o i + c - 1)
theorem Good.zpm {m y o k : Rat} (g : Good m y o k) {a b : Int} (ha : Sz 900 a) (hb : Sz 900 b) : Sz 906 (12 * a + b - 1) ∧ Sz 1218 (pmF m y o k a b) := by
  have h1 : Sz 904 (12 * a) := Sz.mul (szi (n := 4) 12) ha
  have h2 : Sz 905 (12 * a + b) := Sz.add h1 (hb.mono (by decide)) (by decide)
  have h3 : Sz 906 (12 * a + b - 1) := zsub h2 1
  have h4 : Sz 1067 (mdF y k (12 * a + b - 1)) := g.zmd h3 (by decide) (by decide)
  exact ⟨h3, g.zma h4 (by decide) (by decide)⟩
def spPlain (C Cc : Addr) : Sp := fun vs H Q _ => ∃ (p : Addr) (a b : Int) (m y o k : Rat), vs = [.ref p, .int a, .int b] ∧ Cl C Cc H p m y o k ∧ Good m y o k ∧ Sz 900 a ∧ Sz 900 b ∧ ∀ H', Same H H' → Q (.int (pmF m y o k a b)) H'
def spOddM (C Cc : Addr) : Sp := fun vs H Q _ => ∃ (p : Addr) (a b : Int) (m y o k : Rat), vs = [.ref p, .int a, .int b] ∧ Cl C Cc H p m y o k ∧ Good m y o k ∧ Sz 900 a ∧ Sz 900 b ∧ ∀ H', Same H H' → Q (if hasM m y o k (pmF m y o k a b + 1) then .non else .int (pmF m y o k a b + 1)) H'
def spDayIn (C Cc : Addr) : Sp := fun vs H Q _ => ∃ (p : Addr) (a b : Int) (m y o k : Rat), vs = [.ref p, .int a, .int b] ∧ Cl C Cc H p m y o k ∧ Good m y o k ∧ Sz 2000 a ∧ ∀ H', Same H H' → Q (.int (stF m o a + b - 1)) H'
section
variable {P : Program} {w : World} {K : PySem.W.Frag} {mg : Str → Option Value} {base : Heap} {C Cc Cd CD : Addr}
theorem ok_plain (D : Df K mg "plain_month" s_plain_month []) (f_month_with : Cm P w K mg base CX0 8 Cc "month_with" "Calendar.month_with" s_Calendar_month_with ["self", "j"] (spM1 C Cc 2000 fun m y o k i => .int (maF m o (mdF y k i)))) {tk : Tok} (h_MARKS : mg "MARKS" = some (.int 12 tk)) : Ca P w K mg base CX0 9 "plain_month" s_plain_month [] ["calendar", "year", "number"] (spPlain C Cc) := by
  refine ca0 (k := 8) D c_plain_month (fun vs H Q E h => ?_) fun f cdv A outer s H vs Q E hr h => ?_
  · obtain ⟨p, a, b, m, y, o, k, rfl, _⟩ := h
    rfl
  · obtain ⟨p, a, b, m, y, o, k, rfl, hc, g, za, zb, q⟩ := h
    obtain ⟨dx, a1, b1, c1, d1, e, _⟩ := id hc
    refine ⟨_, (pss_one (ps_ret (pe_cm f_month_with b_Calendar_month_with hr (by decide) pass0 (pv 0) (pa_cons (pe_op op_sub (pe_op op_add (pe_op op_mul (pe_glob (v := .int 12) rfl h_MARKS ⟨_, rfl⟩) (pv 1)) (pv 2)) pe_int) pa_nil)))), ?_⟩
    exact ⟨_, rfl, p, dx, _, rfl, e, cf_no _ _ _ _, _, rfl, _, _, rfl, rfl, .inl ⟨by decide, by decide⟩, _, rfl, _, _, rfl, rfl, _, _, rfl, rfl, p, _, m, y, o, k, rfl, hc, g, (g.zpm za zb).1.mono (by decide), fun H' s' => q H' s'⟩
theorem ok_oddm (D : Df K mg "odd_month" s_odd_month []) (f_plain_month : Ca P w K mg base CX0 9 "plain_month" s_plain_month [] ["calendar", "year", "number"] (spPlain C Cc)) (f_mark_in : Cm P w K mg base CX0 8 Cc "mark_in" "Calendar.mark_in" s_Calendar_mark_in ["self", "k"] (spM1 C Cc 1400 miF)) : Ca P w K mg base CX0 10 "odd_month" s_odd_month [] ["calendar", "year", "number"] (spOddM C Cc) := by
  refine ca0 (k := 9) D c_odd_month (fun vs H Q E h => ?_) fun f cdv A outer s H vs Q E hr h => ?_
  · obtain ⟨p, a, b, m, y, o, k, rfl, _⟩ := h
    rfl
  · obtain ⟨p, a, b, m, y, o, k, rfl, hc, g, za, zb, q⟩ := h
    obtain ⟨dx, a1, b1, c1, d1, e, _⟩ := id hc
    refine ⟨_, (pss_cons (ps_set (i := 3) c_odd_month.nd rfl (.inl rfl) (pe_op op_add (pe_ca f_plain_month b_plain_month hr (by decide) pass0 rfl (pa_cons (pv 0) (pa_cons (pv 1) (pa_cons (pv 2) pa_nil)))) pe_int))
      (pss_cons (ps_if (pt_cmp (pc_isN (pe_cm f_mark_in b_Calendar_mark_in hr (by decide) pass0 (pv 0) (pa_cons (pv 3) pa_nil)))) (pss_one (ps_ret (pv 3))) pss_nil)
      (pss_one (ps_ret pe_non)))), ?_⟩
    refine ⟨_, rfl, _, rfl, _, rfl, p, a, b, m, y, o, k, rfl, hc, g, za, zb, fun H1 s1 => ⟨_, _, rfl, rfl, ?_⟩⟩
    refine ⟨_, rfl, p, dx, _, rfl, s1 _ _ e, cf_no _ _ _ _, _, rfl, p, _, m, y, o, k, rfl, hc.same s1, g, zadd ((g.zpm za zb).2.mono (by decide : 1218 ≤ 1300)) 1, fun H2 s2 => ⟨_, rfl, ?_⟩⟩
    have q2 := q H2 (s1.trans s2)
    rw [miF_eq]
    by_cases hm : hasM m y o k (pmF m y o k a b + 1)
    · rw [if_pos hm] at q2 ⊢
      exact iteF q2
    · rw [if_neg hm] at q2 ⊢
      exact iteT ⟨_, rfl, q2⟩
theorem ok_dayin (D : Df K mg "day_in" s_day_in []) (f_start : Cm P w K mg base CX0 7 Cc "start" "Calendar.start" s_Calendar_start ["self", "k"] (spM1 C Cc 3000 fun m _ o _ i => .int (stF m o i))) : Ca P w K mg base CX0 8 "day_in" s_day_in [] ["calendar", "k", "count"] (spDayIn C Cc) := by
  refine ca0 (k := 7) D c_day_in (fun vs H Q E h => ?_) fun f cdv A outer s H vs Q E hr h => ?_
  · obtain ⟨p, a, b, m, y, o, k, rfl, _⟩ := h
    rfl
  · obtain ⟨p, a, b, m, y, o, k, rfl, hc, g, za, q⟩ := h
    obtain ⟨dx, a1, b1, c1, d1, e, _⟩ := id hc
    refine ⟨_, (pss_one (ps_ret (pe_op op_sub (pe_op op_add (pe_cm f_start b_Calendar_start hr (by decide) pass0 (pv 0) (pa_cons (pv 1) pa_nil)) (pv 2)) pe_int))), ?_⟩
    exact ⟨_, rfl, p, dx, _, rfl, e, cf_no _ _ _ _, _, rfl, p, a, m, y, o, k, rfl, hc, g, za.mono (by decide), fun H' s' => ⟨_, rfl, _, _, rfl, rfl, _, _, rfl, rfl, q H' s'⟩⟩
end
/-! ### day_of -/
def spMoX (C Cc Cd CD : Addr) : Sp := fun vs H Q E => ∃ (p d : Addr) (a b c : Int) (od : Bool) (m y o k : Rat), vs = [.ref p, .ref d] ∧ Cl C Cc H p m y o k ∧ Good m y o k ∧ Da Cd H d a b c od ∧ Sz 900 a ∧ Sz 900 b ∧
  (∀ i, moF m y o k a b od = .inr i → ∀ H', Same H H' → Q (.int i) H') ∧ (∀ x, moF m y o k a b od = .inl x → NdE CD E H d x)
def spDyX (C Cc Cd CD : Addr) : Sp := fun vs H Q E => ∃ (p d : Addr) (a b c : Int) (od : Bool) (m y o k : Rat), vs = [.ref p, .ref d] ∧ Cl C Cc H p m y o k ∧ Good m y o k ∧ Da Cd H d a b c od ∧ Sz 900 a ∧ Sz 900 b ∧
  (∀ i, dyF m y o k a b c od = .inr i → ∀ H', Same H H' → Q (.int i) H') ∧ (∀ x, dyF m y o k a b c od = .inl x → NdE CD E H d x)
theorem Good.zmo {m y o k : Rat} (g : Good m y o k) {a b i : Int} {od : Bool} (ha : Sz 900 a) (hb : Sz 900 b) (h : moF m y o k a b od = .inr i) : Sz 1300 i := by
  have hz := (g.zpm ha hb).2
  unfold moF at h
  split at h
  · cases h
  split at h
  · cases h
  split at h
  · split at h
    · cases h
    · cases h
      exact zadd hz 1
  · cases h
    exact hz.mono (by decide)
section
variable {P : Program} {w : World} {K : PySem.W.Frag} {mg : Str → Option Value} {base : Heap} {C Cc Cd CD : Addr}
theorem ok_monthof (D : Df K mg "month_of" s_month_of []) (Td : DaT K Cd) (T : NdT K mg CD) (nd : Cx1 P w K mg base 1 CD "NoDate.__init__" s_NoDate_init ["self", "date", "why"] (spNd CD)) (f_plain_month : Ca P w K mg base CX0 9 "plain_month" s_plain_month [] ["calendar", "year", "number"] (spPlain C Cc)) (f_odd_month : Ca P w K mg base CX0 10 "odd_month" s_odd_month [] ["calendar", "year", "number"] (spOddM C Cc)) {tk : Tok} (h_MARKS : mg "MARKS" = some (.int 12 tk)) :
    Ca P w K mg base (L2.CX P w) 11 "month_of" s_month_of [] ["calendar", "date"] (spMoX C Cc Cd CD) := by
  refine caX (k := 10) D c_month_of (fun vs H Q E h => ?_) fun f cdv A outer s H vs Q E hr h => ?_
  · obtain ⟨p, d, a, b, c, od, m, y, o, k, rfl, _⟩ := h
    rfl
  · obtain ⟨p, d, a, b, c, od, m, y, o, k, rfl, hc, g, hd, za, zb, q, qe⟩ := h
    obtain ⟨dx, ed⟩ := id hd
    have hr2 : Room 2 _ := hr.mono (by decide)
    refine ⟨_, (pss_cons (ps_if (PW.pt (pw_or (pt_cmpR op_lt (pe_fld (pv 1) rfl) pe_int (nomark _)) (pw_or1 (pt_cmpR op_gt (pe_fld (pv 1) rfl) (pe_glob (v := .int 12) rfl h_MARKS ⟨_, rfl⟩) (nomark _))))) (pss_one (ps_raise rfl (takes_of (E := E) rfl rfl rfl rfl) (mk_nd T nd hr2 rfl (pa_cons (pv 1) (pa_cons pe_str pa_nil))))) pss_nil)
      (pss_cons (ps_if (pt_not (pt_val (pe_fld (pv 1) rfl))) (pss_one (ps_ret (pe_ca f_plain_month b_plain_month hr (by decide) pass0 rfl (pa_cons (pv 0) (pa_cons (pe_fld (pv 1) rfl) (pa_cons (pe_fld (pv 1) rfl) pa_nil)))))) pss_nil)
      (pss_cons (ps_set (i := 2) c_month_of.nd rfl (.inl rfl) (pe_ca f_odd_month b_odd_month hr (by decide) pass0 rfl (pa_cons (pv 0) (pa_cons (pe_fld (pv 1) rfl) (pa_cons (pe_fld (pv 1) rfl) pa_nil)))))
      (pss_cons (ps_if (pt_cmp (pc_isN (pv 2))) (pss_one (ps_raise rfl (takes_of (E := E) rfl rfl rfl rfl) (mk_nd T nd hr2 rfl (pa_cons (pv 1) (pa_cons pe_str pa_nil))))) pss_nil)
      (pss_one (ps_ret (pv 2))))))), ?_⟩
    have fY : (dfs (.int a) (.int b) (.int c) (.bl od)).lookup ("year" : Str) = some (.int a) := df_year _ _ _ _
    refine ⟨_, rfl, d, Cd, dx, _, _, rfl, ed, Td.cl, Td.n2, df_number _ _ _ _, _, _, rfl, rfl, _, rfl, ?_⟩
    by_cases h1 : b < 1
    · rw [decide_eq_true h1]
      refine iteT (iteT ⟨_, rfl, ?_⟩)
      exact rd_nd (by decide) (qe "number" (by unfold moF; rw [if_pos h1])) (Same.refl H)
    rw [decide_eq_false h1]
    refine iteF ?_
    refine ⟨_, rfl, d, Cd, dx, _, _, rfl, ed, Td.cl, Td.n2, df_number _ _ _ _, _, _, rfl, rfl, _, rfl, ?_⟩
    by_cases h2 : 12 < b
    · rw [decide_eq_true (show (12 : Int) < b from h2)]
      refine iteT ⟨_, rfl, ?_⟩
      exact rd_nd (by decide) (qe "number" (by unfold moF; rw [if_neg h1, if_pos h2])) (Same.refl H)
    rw [decide_eq_false (show ¬ (12 : Int) < b from h2)]
    refine iteF ?_
    refine ⟨_, rfl, d, Cd, dx, _, _, rfl, ed, Td.cl, Td.n4, df_odd _ _ _ _, _, rfl, ?_⟩
    cases od with
    | false =>
      refine iteT ?_
      refine ⟨_, rfl, _, rfl, d, Cd, dx, _, _, rfl, ed, Td.cl, Td.n1, df_year _ _ _ _, _, rfl, d, Cd, dx, _, _, rfl, ed, Td.cl, Td.n2, df_number _ _ _ _, p, a, b, m, y, o, k, rfl, hc, g, za, zb, fun H1 s1 => ?_⟩
      exact q _ (by unfold moF; rw [if_neg h1, if_neg h2, if_neg Bool.false_ne_true]) H1 s1
    | true =>
      refine iteF ?_
      refine ⟨_, rfl, _, rfl, d, Cd, dx, _, _, rfl, ed, Td.cl, Td.n1, df_year _ _ _ _, _, rfl, d, Cd, dx, _, _, rfl, ed, Td.cl, Td.n2, df_number _ _ _ _, p, a, b, m, y, o, k, rfl, hc, g, za, zb, fun H1 s1 => ?_⟩
      by_cases hm : hasM m y o k (pmF m y o k a b + 1)
      · rw [if_pos hm]
        refine ⟨_, rfl, _, rfl, iteT ⟨_, rfl, ?_⟩⟩
        exact rd_nd (by decide) (qe "odd" (by unfold moF; rw [if_neg h1, if_neg h2, if_pos rfl, if_pos hm])) s1
      · rw [if_neg hm]
        refine ⟨_, rfl, _, rfl, iteF ⟨_, rfl, ?_⟩⟩
        exact q _ (by unfold moF; rw [if_neg h1, if_neg h2, if_pos rfl, if_neg hm]) H1 s1
theorem ok_dayof (D : Df K mg "day_of" s_day_of []) (Td : DaT K Cd) (T : NdT K mg CD) (nd : Cx1 P w K mg base 1 CD "NoDate.__init__" s_NoDate_init ["self", "date", "why"] (spNd CD)) (f_month_of : Ca P w K mg base (L2.CX P w) 11 "month_of" s_month_of [] ["calendar", "date"] (spMoX C Cc Cd CD)) (f_days_of : Ca P w K mg base CX0 8 "days_of" s_days_of [] ["calendar", "k", "many"] (spDaysOf C Cc)) (f_day_in : Ca P w K mg base CX0 8 "day_in" s_day_in [] ["calendar", "k", "count"] (spDayIn C Cc)) :
    Ca P w K mg base (L2.CX P w) 12 "day_of" s_day_of [] ["calendar", "date"] (spDyX C Cc Cd CD) := by
  refine caX (k := 11) D c_day_of (fun vs H Q E h => ?_) fun f cdv A outer s H vs Q E hr h => ?_
  · obtain ⟨p, d, a, b, c, od, m, y, o, k, rfl, _⟩ := h
    rfl
  · obtain ⟨p, d, a, b, c, od, m, y, o, k, rfl, hc, g, hd, za, zb, q, qe⟩ := h
    have hr2 : Room 2 _ := hr.mono (by decide)
    refine ⟨_, (pss_cons (ps_set (i := 2) c_day_of.nd rfl (.inl rfl) (pe_ca f_month_of b_month_of hr (by decide) (passes_call (takes_of (E := E) rfl rfl rfl rfl) fun _ _ _ _ z => z) rfl (pa_cons (pv 0) (pa_cons (pv 1) pa_nil))))
      (pss_cons (ps_if (PW.pt (pw_or (pt_cmpR op_lt (pe_fld (pv 1) rfl) pe_int (nomark _)) (pw_or1 (pt_cmpR op_gt (pe_fld (pv 1) rfl) (pe_ca f_days_of b_days_of hr (by decide) pass0 rfl (pa_cons (pv 0) (pa_cons (pv 2) (pa_cons pe_int pa_nil)))) (nomark _))))) (pss_one (ps_raise rfl (takes_of (E := E) rfl rfl rfl rfl) (mk_nd T nd hr2 rfl (pa_cons (pv 1) (pa_cons pe_str pa_nil))))) pss_nil)
      (pss_one (ps_ret (pe_ca f_day_in b_day_in hr (by decide) pass0 rfl (pa_cons (pv 0) (pa_cons (pv 2) (pa_cons (pe_fld (pv 1) rfl) pa_nil)))))))), ?_⟩
    refine ⟨_, rfl, _, rfl, p, d, a, b, c, od, m, y, o, k, rfl, hc, g, hd, za, zb, fun i hi H1 s1 => ?_, fun x hx => qe x (by unfold dyF; rw [hx])⟩
    have zi := g.zmo za zb hi
    have z1 : Sz 1500 (1 : Int) := szi 1 (Nat.one_lt_two_pow (by decide))
    have hd1 := hd.same s1
    obtain ⟨dx, ed⟩ := id hd1
    have edy : dyF m y o k a b c od = if c < 1 then .inl "day" else if stF m o (i + 1) - stF m o i < c then .inl "day" else .inr (stF m o i + c - 1) := by
      unfold dyF
      rw [hi]
    refine ⟨_, rfl, d, Cd, dx, _, _, rfl, ed, Td.cl, Td.n3, df_day _ _ _ _, _, _, rfl, rfl, _, rfl, ?_⟩
    by_cases h1 : c < 1
    · rw [decide_eq_true h1]
      refine iteT (iteT ⟨_, rfl, ?_⟩)
      exact rd_nd (by decide) (qe "day" (by rw [edy, if_pos h1])) s1
    rw [decide_eq_false h1]
    refine iteF ?_
    refine ⟨_, rfl, d, Cd, dx, _, _, rfl, ed, Td.cl, Td.n3, df_day _ _ _ _, _, rfl, _, rfl, p, i, 1, m, y, o, k, rfl, hc.same s1, g, zi.mono (by decide), z1, fun H2 s2 => ⟨_, _, rfl, rfl, _, rfl, ?_⟩⟩
    have s12 := s1.trans s2
    by_cases h2 : stF m o (i + 1) - stF m o i < c
    · rw [decide_eq_true (show stF m o (i + 1) - stF m o i < c from h2)]
      refine iteT ⟨_, rfl, ?_⟩
      exact rd_nd (by decide) (qe "day" (by rw [edy, if_neg h1, if_pos h2])) s12
    rw [decide_eq_false (show ¬ stF m o (i + 1) - stF m o i < c from h2)]
    refine iteF ?_
    refine ⟨_, rfl, _, rfl, _, rfl, d, Cd, dx, _, _, rfl, s2 _ _ ed, Td.cl, Td.n3, df_day _ _ _ _, p, i, c, m, y, o, k, rfl, hc.same s12, g, zi.mono (by decide), fun H3 s3 => ?_⟩
    exact q _ (by rw [edy, if_neg h1, if_neg h2]) H3 (s12.trans s3)
end
/-! ### years that begin together -/
def spYw (C Cc : Addr) : Sp := fun vs H Q _ => ∃ (p : Addr) (a : Int) (m y o k : Rat), vs = [.ref p, .int a] ∧ Cl C Cc H p m y o k ∧ Good m y o k ∧ Sz 1200 a ∧ ∀ H', Same H H' → Q (.int (dtY m y o k a)) H'
section
variable {P : Program} {w : World} {K : PySem.W.Frag} {mg : Str → Option Value} {base : Heap} {C Cc : Addr}
theorem ok_yw (D : Df K mg "year_with" s_year_with []) (f_month_at : Cm P w K mg base CX0 7 Cc "month_at" "Calendar.month_at" s_Calendar_month_at ["self", "day"] (spM1 C Cc 2900 fun m _ o _ i => .int (maF m o i))) (f_name_of : Cm P w K mg base CX0 9 Cc "name_of" "Calendar.name_of" s_Calendar_name_of ["self", "k"] (spName C Cc)) : Ca P w K mg base CX0 10 "year_with" s_year_with [] ["calendar", "day"] (spYw C Cc) := by
  refine ca0 (k := 9) D c_year_with (fun vs H Q E h => ?_) fun f cdv A outer s H vs Q E hr h => ?_
  · obtain ⟨p, a, m, y, o, k, rfl, _⟩ := h
    rfl
  · obtain ⟨p, i, m, y, o, k, rfl, hc, g, zi, q⟩ := h
    obtain ⟨dx, a1, b1, c1, d1, e, _⟩ := id hc
    have zk : Sz 1360 (maF m o i) := g.zma zi (by decide) (by decide)
    refine ⟨_, (pss_one (ps_ret (pe_ix ix_tup (pe_cm f_name_of b_Calendar_name_of hr (by decide) pass0 (pv 0) (pa_cons (pe_cm f_month_at b_Calendar_month_at hr (by decide) pass0 (pv 0) (pa_cons (pv 1) pa_nil)) pa_nil)) pe_int (fun _ _ => rfl)))), ?_⟩
    refine ⟨_, rfl, p, dx, _, rfl, e, cf_no _ _ _ _, _, rfl, p, dx, _, rfl, e, cf_no _ _ _ _, _, rfl, p, i, m, y, o, k, rfl, hc, g, zi.mono (by decide), fun H1 s1 => ?_⟩
    refine ⟨p, _, m, y, o, k, rfl, hc.same s1, g, zk.mono (by decide), fun t H2 nt s2 et => ?_⟩
    exact ⟨t, _, _, _, rfl, rfl, SqT.of et, rfl, q H2 (s1.trans s2)⟩
end
section
variable {P : Program} {w : World} {K : PySem.W.Frag} {mg : Str → Option Value} {base : Heap}
theorem ok_llen (D : Df K mg "_law_long" s_l_long []) (f_l_start : Ca P w K mg base CX0 3 "_law_start" s_l_start [] ["_law_four_here", "_law_k"] (spF1 3000 fun m _ o _ i => .int (stF m o i))) : Ca P w K mg base CX0 4 "_law_long" s_l_long [] ["_law_four_here", "_law_k"] (spF1 2000 fun m _ o _ i => .int (stF m o (i + 1) - stF m o i)) := by
  refine ca0 (k := 3) D c_l_long (fun vs H Q E h => ?_) fun f cdv A outer s H vs Q E hr h => ?_
  · obtain ⟨r, i, m, y, o, k, rfl, _⟩ := h
    rfl
  · obtain ⟨r, i, m, y, o, k, rfl, fo, g, zi, q⟩ := h
    refine ⟨_, (pss_one (ps_ret (pe_op op_sub (pe_ca f_l_start b_l_start hr (by decide) pass0 rfl (pa_cons (pv 0) (pa_cons (pe_op op_add (pv 1) pe_int) pa_nil))) (pe_ca f_l_start b_l_start hr (by decide) pass0 rfl (pa_cons (pv 0) (pa_cons (pv 1) pa_nil)))))), ?_⟩
    refine ⟨_, rfl, _, rfl, _, _, rfl, rfl, r, _, m, y, o, k, rfl, fo, g, (zadd (l := 2001) zi 1).mono (by decide), fun H1 s1 => ?_⟩
    exact ⟨_, rfl, _, rfl, r, _, m, y, o, k, rfl, fo.same s1, g, zi.mono (by decide), fun H2 s2 => ⟨_, _, rfl, rfl, q H2 (s1.trans s2)⟩⟩
end
/-! ### NoNote and NoDeed -/
theorem hu1 {k : Nat} {A : Around} (r : Room k A) : A.units + 1 < cLine := by
  have := r.un
  omega
/-- the __init__ of an error with one field -/
def spNx (CN : Addr) (f : Str) (ok : V → Prop) : Sp := fun vs H Q _ => ∃ (a : Addr) (x : V), vs = [.ref a, x] ∧ ok x ∧ H a = some (exo a CN none) ∧ ∀ dx, H dx = none → dx ≠ a → Q .non (L2.upd (L2.upd H dx (exd dx [(f, x)])) a (exo a CN (some dx)))
def okI (x : V) : Prop := ∃ i : Int, x = .int i
/-- an error of the class CN whose field f is x -/
def NxE (CN : Addr) (f : Str) (E : XK) (H : Hp) (x : V) : Prop := ∀ (d : Addr) (H' : Hp), H d = none → Same H H' → H' d = some (.xd [(f, x)]) → E (.ref CN) (some d) H'
theorem NxE.same {CN : Addr} {f : Str} {E : XK} {H H1 : Hp} {x : V} (k : NxE CN f E H x) (s : Same H H1) : NxE CN f E H1 x := fun d H' nd hs e => k d H' (s.free nd) (s.trans hs) e
structure NwT (K : PySem.W.Frag) (mg : Str → Option Value) (CW : Addr) : Prop where
  ox : OxI K CW
  no : PySem.W.findIn K (.ref CW) "at" = some none
  vV : PySem.W.findCls K (.type "IndexError") (.type "type") "__init__" = some (.val (.builtin "IndexError.__init__"))
  gV : mg "IndexError" = none
  mN : mg "NoNote" = some (.ref CW)
structure NzT (K : PySem.W.Frag) (mg : Str → Option Value) (CZ : Addr) : Prop where
  ox : OxR K CZ
  vV : PySem.W.findCls K (.type "RuntimeError") (.type "type") "__init__" = some (.val (.builtin "RuntimeError.__init__"))
  gV : mg "RuntimeError" = none
  mN : mg "NoDeed" = some (.ref CZ)
def spNz (CZ : Addr) : Sp := fun vs H Q _ => ∃ a : Addr, vs = [.ref a] ∧ H a = some (exo a CZ none) ∧ Q .non H
section
variable {P : Program} {w : World} {K : PySem.W.Frag} {mg : Str → Option Value} {base : Heap} {CW CZ : Addr}
theorem ok_nw (D : Dx K CW "NoNote.__init__" s_NoNote_init) (T : NwT K mg CW) : Cx1 P w K mg base 1 CW "NoNote.__init__" s_NoNote_init ["self", "at"] (spNx CW "at" okI) := by
  obtain ⟨f, fd, F, h1, h2⟩ := D.ex
  refine ⟨f, fd, F, h1, h2, F.ok c_NoNote_init (fun vs H Q E h => ?_) fun cdv A outer s H vs Q E hr h => ?_⟩
  · obtain ⟨a, x, rfl, _⟩ := h
    rfl
  · obtain ⟨a, x, rfl, ⟨t, rfl⟩, ha, q⟩ := h
    refine ⟨_, PSs.nox (pss_cons (ps_expr (pe_bini (newId := "IndexError.__new__") (bm := bmI) rfl T.gV (by decide +kernel) typ_I T.vV (pa_cons (pv 0) (pa_cons pe_str pa_nil)))) (pss_one (ps_gst (B := "IndexError") (newId := "IndexError.__new__") (initId := "IndexError.__init__") (bm := bmI) (f := "at") (pv 0) (pv 1)))), ?_⟩
    exact ⟨_, rfl, a, CW, _, rfl, (by show 1 ≤ 1000; decide), T.ox, ha, _, rfl, _, rfl, a, CW, rfl, T.ox, T.no, .inl ⟨ha, q⟩⟩
theorem mk_nw {X : Cx} {e : Expr} {te : TE} {p pos : Pos} (T : NwT X.K X.mg CW) (c : Cx1 X.prog X.w X.K X.mg X.base 1 CW "NoNote.__init__" s_NoNote_init ["self", "at"] (spNx CW "at" okI)) (hr : Room 2 X.A) (hg : Gl X "NoNote") (ha : PA X [e] (tCons te tNil))
    (he : starEach (e :: []) X.env = (false, eval e X.env) :: starEach [] X.env := by rfl) (hpl : (backTo pos (starEach [] X.env)).any (·.1) = false := by rfl) : PMk X (.Call (.Name "NoNote" p) [e] [] pos) (tMkO CW (spNx CW "at" okI) [] (tCons te tNil)) := by
  obtain ⟨f, fd, F, h1, h2, G⟩ := c.ex
  exact pmk_g T.ox h1 h2 G hr (F.bindsN fun _ _ _ _ _ _ us hl => match us, hl with | [_, _], _ => rfl) .nil pass0 hg T.mN ha (by decide) he hpl
theorem rd_nx {CN : Addr} {f : Str} {ok : V → Prop} {H : Hp} {E : XK} {x : V} (hx : ok x) (k : NxE CN f E H x) {H1 : Hp} (s : Same H H1) : ([x] : List V).length ≤ 1000 ∧ ∀ a, H1 a = none → spNx CN f ok (.ref a :: ([x] ++ [])) (L2.upd H1 a (exo a CN none))
    (fun v H2 => v = .non ∧ ∃ (d : Addr) (fs : List (Str × V)), H2 a = some (exo a CN (some d)) ∧ H2 d = some (exd d fs) ∧ H1 d = none ∧ E (.ref CN) (some d) (L2.upd (del H2 a) d (.xd fs))) (fun _ _ _ => False) := by
  refine ⟨(by show 1 ≤ 1000; decide), fun a na => ⟨a, x, rfl, hx, upd_same, fun dx nd ne => ⟨rfl, dx, [(f, x)], upd_same, ?_, ?_, ?_⟩⟩⟩
  · rw [upd_ne ne, upd_same]
  · rw [upd_ne ne] at nd
    exact nd
  · rw [upd_ne ne] at nd
    refine k dx _ (s.free nd) (fun b o e => ?_) upd_same
    have e1 := s b o e
    rw [upd_ne (ne_of_none e1 nd), del_ne (ne_of_none e1 na), upd_ne (ne_of_none e1 na), upd_ne (ne_of_none e1 nd), upd_ne (ne_of_none e1 na)]
    exact e1
theorem ok_nz (D : Dx K CZ "NoDeed.__init__" s_NoDeed_init) (T : NzT K mg CZ) : Cx1 P w K mg base 1 CZ "NoDeed.__init__" s_NoDeed_init ["self"] (spNz CZ) := by
  obtain ⟨f, fd, F, h1, h2⟩ := D.ex
  refine ⟨f, fd, F, h1, h2, F.ok c_NoDeed_init (fun vs H Q E h => ?_) fun cdv A outer s H vs Q E hr h => ?_⟩
  · obtain ⟨a, rfl, _⟩ := h
    rfl
  · obtain ⟨a, rfl, ha, q⟩ := h
    refine ⟨_, PSs.nox (pss_one (ps_expr (pe_bini (newId := "RuntimeError.__new__") (bm := bmR) rfl T.gV (by decide +kernel) typ_R T.vV (pa_cons (pv 0) (pa_cons pe_str pa_nil))))), ?_⟩
    exact ⟨_, rfl, a, CZ, _, rfl, (by show 1 ≤ 1000; decide), T.ox, ha, q⟩
theorem mk_nz {X : Cx} {p pos : Pos} (T : NzT X.K X.mg CZ) (c : Cx1 X.prog X.w X.K X.mg X.base 1 CZ "NoDeed.__init__" s_NoDeed_init ["self"] (spNz CZ)) (hr : Room 2 X.A) (hg : Gl X "NoDeed") : PMk X (.Call (.Name "NoDeed" p) [] [] pos) (tMkN CZ (spNz CZ)) := by
  obtain ⟨f, fd, F, h1, h2, G⟩ := c.ex
  exact pmk_g0 T.ox h1 h2 G hr (F.bindsN fun _ _ _ _ _ _ us hl => match us, hl with | [_], _ => rfl) pass0 hg T.mN (by decide)
theorem rd_nz {E : XK} {H1 : Hp} (k : E (.ref CZ) none H1) : ∀ a, H1 a = none → spNz CZ [.ref a] (L2.upd H1 a (exo a CZ none)) (fun v H2 => v = .non ∧ H2 a = some (exo a CZ none) ∧ E (.ref CZ) none (del H2 a)) (fun _ _ _ => False) := by
  intro a na
  refine ⟨a, rfl, upd_same, rfl, upd_same, ?_⟩
  have e : del (L2.upd H1 a (exo a CZ none)) a = H1 := funext fun b => by
    by_cases n : b = a
    · rw [n, del_same, na]
    · rw [del_ne n, upd_ne n]
  rw [e]
  exact k
end
/-! ### the diary -/
inductive All2 {α β : Type} (R : α → β → Prop) : List α → List β → Prop
  | nil : All2 R [] []
  | cons {a : α} {b : β} {as : List α} {bs : List β} : R a b → All2 R as bs → All2 R (a :: as) (b :: bs)
section
variable {α β : Type} {R S : α → β → Prop}
theorem All2.mono (f : ∀ a b, R a b → S a b) {as : List α} {bs : List β} (h : All2 R as bs) : All2 S as bs := by
  induction h with
  | nil => exact .nil
  | cons r _ ih => exact .cons (f _ _ r) ih
theorem All2.len {as : List α} {bs : List β} (h : All2 R as bs) : as.length = bs.length := by
  induction h with
  | nil => rfl
  | cons r _ ih => rw [List.length_cons, List.length_cons, ih]
theorem All2.snoc {as : List α} {bs : List β} {a : α} {b : β} (h : All2 R as bs) (r : R a b) : All2 R (as ++ [a]) (bs ++ [b]) := by
  induction h with
  | nil => exact .cons r .nil
  | cons r' _ ih => exact .cons r' ih
theorem All2.last {bs : List β} {b : β} : ∀ {as : List α}, All2 R as (bs ++ [b]) → ∃ as' a, as = as' ++ [a] ∧ All2 R as' bs ∧ R a b := by
  induction bs with
  | nil =>
    intro as h
    cases h with
    | cons r h' =>
      cases h'
      exact ⟨[], _, rfl, .nil, r⟩
  | cons c bs ih =>
    intro as h
    cases h with
    | cons r h' =>
      obtain ⟨as', a, rfl, h2, r2⟩ := ih h'
      exact ⟨_ :: as', a, rfl, .cons r h2, r2⟩
theorem All2.get {as : List α} {bs : List β} (h : All2 R as bs) : ∀ {i : Nat} {a : α}, as[i]? = some a → ∃ b, bs[i]? = some b ∧ R a b := by
  induction h with
  | nil => intro i a e; simp at e
  | @cons a0 b0 as bs r _ ih =>
    intro i a e
    cases i with
    | zero => cases e; exact ⟨b0, rfl, r⟩
    | succ i => exact ih e
theorem All2.of : ∀ {as : List α} {bs : List β}, as.length = bs.length → (∀ (i : Nat) (a : α), as[i]? = some a → ∃ b, bs[i]? = some b ∧ R a b) → All2 R as bs
  | [], [], _, _ => .nil
  | a :: as, b :: bs, hl, h => by
    obtain ⟨b', e, r⟩ := h 0 a rfl
    cases e
    exact .cons r (All2.of (by simpa using hl) fun i x hx => h (i + 1) x hx)
end
abbrev Row := Int × List Str
structure DvT (K : PySem.W.Frag) (Cv : Addr) : Prop where
  cl : Cls K Cv
  n1 : NoAttr K Cv "calendar"
  n2 : NoAttr K Cv "kept"
  n3 : NoAttr K Cv "deeds"
def dvs (p d l : Addr) : List (Str × V) := putF "deeds" (.ref l) (putF "kept" (.ref d) (putF "calendar" (.ref p) []))
theorem dck_ : ¬ (("calendar" : Str) = "kept") := by decide +kernel
theorem dcd_ : ¬ (("calendar" : Str) = "deeds") := by decide +kernel
theorem dkd_ : ¬ (("kept" : Str) = "deeds") := by decide +kernel
theorem dv_cal (p d l : Addr) : (dvs p d l).lookup ("calendar" : Str) = some (.ref p) := by
  unfold dvs
  rw [lookup_putF, if_neg dcd_, lookup_putF, if_neg dck_, lookup_putF, if_pos rfl]
theorem dv_kept (p d l : Addr) : (dvs p d l).lookup ("kept" : Str) = some (.ref d) := by
  unfold dvs
  rw [lookup_putF, if_neg dkd_, lookup_putF, if_pos rfl]
theorem dv_deeds (p d l : Addr) : (dvs p d l).lookup ("deeds" : Str) = some (.ref l) := by
  unfold dvs
  rw [lookup_putF, if_pos rfl]
theorem dv_no (p d l : Addr) {x : Str} (h1 : ¬ (x = ("deeds" : Str))) (h2 : ¬ (x = ("kept" : Str))) (h3 : ¬ (x = ("calendar" : Str))) : (dvs p d l).lookup x = none := by
  unfold dvs
  rw [lookup_putF, if_neg h1, lookup_putF, if_neg h2, lookup_putF, if_neg h3]
  rfl
/-- what is kept of a day -/
def KvR (H : Hp) (l : Addr) (f : Int → List Str) (kv : L2.Key × V) : Prop := ∃ (x : Int) (a : Addr), kv = (.inl x, .ref a) ∧ a ≠ l ∧ H a = some (.lst ((f x).map V.str)) ∧ Sz 100 x
structure KR (H : Hp) (l : Addr) (kvs : List (L2.Key × V)) (f : Int → List Str) : Prop where
  ats : ∀ kv ∈ kvs, KvR H l f kv
  nd : (kvs.map (·.1)).Nodup
  no : ∀ x, valV kvs (.inl x) = none → f x = []
def RwR (H : Hp) (l : Addr) (u : V) (r : Row) : Prop := ∃ t a : Addr, u = .ref t ∧ H t = some (.tup [.int r.1, .ref a]) ∧ a ≠ l ∧ H a = some (.lst (r.2.map V.str)) ∧ Sz 100 r.1
def DdR (H : Hp) (l : Addr) (u : V) (dd : List Row) : Prop := ∃ (q : Addr) (us : List V), u = .ref q ∧ q ≠ l ∧ H q = some (.lst us) ∧ All2 (RwR H l) us dd
/-- at b a diary of the calendar at p, that keeps f, with such deeds -/
structure Dy (C Cc Cv : Addr) (H : Hp) (b p d l : Addr) (m y o k : Rat) (f : Int → List Str) (U : List (List Row)) (n : Nat) : Prop where
  ob : ∃ dx, H b = some (.ins Cv dx (dvs p d l))
  c : Cl C Cc H p m y o k
  g : Good m y o k
  kp : ∃ kvs, H d = some (.dK kvs) ∧ KR H l kvs f ∧ kvs.length ≤ n
  de : ∃ us, H l = some (.lst us) ∧ All2 (DdR H l) us U ∧ us.length ≤ n
/-- all but dicts and the list at l stays -/
def Kp (l : Addr) (H H' : Hp) : Prop := ∀ c o, (∀ kvs, o ≠ .dK kvs) → c ≠ l → H c = some o → H' c = some o
def B2 (d l : Addr) (H H' : Hp) : Prop := ∀ c o, c ≠ d → c ≠ l → H c = some o → H' c = some o
theorem Kp.same {l : Addr} {H H' : Hp} (s : Same H H') : Kp l H H' := fun c o _ _ e => s c o e
theorem B2.same {d l : Addr} {H H' : Hp} (s : Same H H') : B2 d l H H' := fun c o _ _ e => s c o e
theorem B2.trans {d l : Addr} {H H1 H2 : Hp} (a : B2 d l H H1) (b : B2 d l H1 H2) : B2 d l H H2 := fun c o n1 n2 e => b c o n1 n2 (a c o n1 n2 e)
theorem KvR.kp {l : Addr} {H H' : Hp} {f : Int → List Str} {kv : L2.Key × V} (h : KvR H l f kv) (s : Kp l H H') : KvR H' l f kv := by
  obtain ⟨x, a, e, n, ea, z⟩ := h
  exact ⟨x, a, e, n, s _ _ (fun _ w => nomatch w) n ea, z⟩
theorem KR.kp {l : Addr} {H H' : Hp} {f : Int → List Str} {kvs : List (L2.Key × V)} (h : KR H l kvs f) (s : Kp l H H') : KR H' l kvs f := ⟨fun kv hk => (h.ats kv hk).kp s, h.nd, h.no⟩
theorem RwR.kp {l : Addr} {H H' : Hp} {u : V} {r : Row} (h : RwR H l u r) (hl : ∃ xs, H l = some (.lst xs)) (s : Kp l H H') : RwR H' l u r := by
  obtain ⟨t, a, e, et, n, ea, z⟩ := h
  obtain ⟨xs, el⟩ := hl
  have nt : t ≠ l := fun w => by rw [w, el] at et; cases et
  exact ⟨t, a, e, s _ _ (fun _ w => nomatch w) nt et, n, s _ _ (fun _ w => nomatch w) n ea, z⟩
theorem DdR.kp {l : Addr} {H H' : Hp} {u : V} {dd : List Row} (h : DdR H l u dd) (hl : ∃ xs, H l = some (.lst xs)) (s : Kp l H H') : DdR H' l u dd := by
  obtain ⟨q, us, e, n, eq, a⟩ := h
  exact ⟨q, us, e, n, s _ _ (fun _ w => nomatch w) n eq, a.mono fun _ _ r => r.kp hl s⟩
section
variable {C Cc Cv : Addr} {H H' : Hp} {b p d l : Addr} {m y o k : Rat} {f : Int → List Str} {U : List (List Row)} {n : Nat}
theorem Cl.kp (h : Cl C Cc H p m y o k) (hl : ∃ xs, H l = some (.lst xs)) (s : Kp l H H') : Cl C Cc H' p m y o k := by
  obtain ⟨xs, el⟩ := hl
  have ki : ∀ {c c' dx : Addr} {fs : List (Str × V)}, H c = some (.ins c' dx fs) → H' c = some (.ins c' dx fs) := fun e => s _ _ (fun _ w => nomatch w) (fun w => by rw [w, el] at e; cases e) e
  obtain ⟨dx, a, b, c, d, e, ⟨x1, h1⟩, ⟨x2, h2⟩, ⟨x3, h3⟩, ⟨x4, h4⟩⟩ := h
  exact ⟨dx, a, b, c, d, ki e, ⟨x1, ki h1⟩, ⟨x2, ki h2⟩, ⟨x3, ki h3⟩, ⟨x4, ki h4⟩⟩
theorem Dy.same (h : Dy C Cc Cv H b p d l m y o k f U n) (s : Same H H') : Dy C Cc Cv H' b p d l m y o k f U n := by
  obtain ⟨⟨dx, e⟩, hc, g, ⟨kvs, ed, kr, l1⟩, ⟨us, el, du, l2⟩⟩ := h
  exact ⟨⟨dx, s _ _ e⟩, hc.same s, g, ⟨kvs, s _ _ ed, kr.kp (.same s), l1⟩, us, s _ _ el, du.mono fun _ _ r => r.kp ⟨_, el⟩ (.same s), l2⟩
theorem Dy.lst (h : Dy C Cc Cv H b p d l m y o k f U n) : ∃ xs, H l = some (.lst xs) := by
  obtain ⟨us, el, _⟩ := h.de
  exact ⟨us, el⟩
theorem Dy.mono (h : Dy C Cc Cv H b p d l m y o k f U n) {n' : Nat} (hn : n ≤ n') : Dy C Cc Cv H b p d l m y o k f U n' := by
  obtain ⟨a, hc, g, ⟨kvs, ed, kr, l1⟩, ⟨us, el, du, l2⟩⟩ := h
  exact ⟨a, hc, g, ⟨kvs, ed, kr, Nat.le_trans l1 hn⟩, us, el, du, Nat.le_trans l2 hn⟩
theorem Dy.ne (h : Dy C Cc Cv H b p d l m y o k f U n) : d ≠ l := fun e => by
  obtain ⟨kvs, ed, _⟩ := h.kp
  obtain ⟨us, el, _⟩ := h.de
  rw [e, el] at ed
  cases ed
theorem B2.free (h : B2 d l H H') (hy : Dy C Cc Cv H' b p d l m y o k f U n) {c : Addr} (e : H' c = none) : H c = none := by
  cases hc : H c with
  | none => rfl
  | some o =>
    have n1 : c ≠ d := fun w => by
      obtain ⟨kvs, ed, _⟩ := hy.kp
      rw [w, ed] at e
      cases e
    have n2 : c ≠ l := fun w => by
      obtain ⟨us, el, _⟩ := hy.de
      rw [w, el] at e
      cases e
    rw [h c o n1 n2 hc] at e
    cases e
end
theorem valV_mem {kvs : List (L2.Key × V)} {k : L2.Key} {v : V} (h : valV kvs k = some v) : (k, v) ∈ kvs := by
  unfold valV at h
  cases hf : kvs.find? (fun kv => decide (kv.1 = k)) with
  | none => rw [hf] at h; cases h
  | some q =>
    rw [hf] at h
    have e1 : q.2 = v := Option.some.inj h
    have e2 : q.1 = k := by
      have := List.find?_some hf
      simpa using this
    have e3 := List.mem_of_find?_eq_some hf
    rw [← e1, ← e2]
    exact e3
theorem KR.get {H : Hp} {l : Addr} {kvs : List (L2.Key × V)} {f : Int → List Str} (h : KR H l kvs f) {x : Int} {v : V} (e : valV kvs (.inl x) = some v) : ∃ a, v = .ref a ∧ a ≠ l ∧ H a = some (.lst ((f x).map V.str)) ∧ Sz 100 x := by
  obtain ⟨x', a, e2, n, ea, z⟩ := h.ats _ (valV_mem e)
  obtain ⟨e3, e4⟩ := Prod.mk.inj e2
  cases e3
  exact ⟨a, e4, n, ea, z⟩
def upF (f : Int → List Str) (x : Int) (ts : List Str) : Int → List Str := fun z => if z = x then ts else f z
theorem putK_keys {kvs : List (L2.Key × V)} {k : L2.Key} {v : V} (nd : (kvs.map (·.1)).Nodup) : ((putK kvs k v).map (·.1)).Nodup := by
  unfold putK
  by_cases h : (kvs.any fun kv => decide (kv.1 = k)) = true
  · rw [if_pos h, List.map_map]
    have e : ((fun kv : L2.Key × V => kv.1) ∘ fun kv => if kv.1 = k then (kv.1, v) else kv) = fun kv => kv.1 := by
      funext kv
      show (if kv.1 = k then (kv.1, v) else kv).1 = kv.1
      split <;> rfl
    rw [e]
    exact nd
  · rw [if_neg h, List.map_append, List.nodup_append]
    refine ⟨nd, by simp, fun a ha b hb e => h ?_⟩
    obtain ⟨kv, hk, rfl⟩ := List.mem_map.mp ha
    have hb' : b = k := by simpa using hb
    exact List.any_eq_true.mpr ⟨kv, hk, decide_eq_true (e.trans hb')⟩
theorem KR.put {H H' : Hp} {l a : Addr} {kvs : List (L2.Key × V)} {f : Int → List Str} (h : KR H l kvs f) (s : Kp l H H') {x : Int} {ts : List Str} (n : a ≠ l) (ea : H' a = some (.lst (ts.map V.str))) (z : Sz 100 x) : KR H' l (putK kvs (.inl x) (.ref a)) (upF f x ts) := by
  refine ⟨fun kv hk => ?_, putK_keys h.nd, fun x' e => ?_⟩
  · have old : ∀ kv ∈ kvs, kv.1 ≠ .inl x → KvR H' l (upF f x ts) kv := fun kv hk hn => by
      obtain ⟨x', a', e, n', e', z'⟩ := (h.ats kv hk).kp s
      have hx : x' ≠ x := fun w => hn (by rw [e, w])
      exact ⟨x', a', e, n', by unfold upF; rw [if_neg hx]; exact e', z'⟩
    have new : KvR H' l (upF f x ts) (.inl x, .ref a) := ⟨x, a, rfl, n, by unfold upF; rw [if_pos rfl]; exact ea, z⟩
    unfold putK at hk
    by_cases c : (kvs.any fun kv => decide (kv.1 = .inl x)) = true
    · rw [if_pos c] at hk
      obtain ⟨q, hq, rfl⟩ := List.mem_map.mp hk
      by_cases e : q.1 = .inl x
      · rw [if_pos e, e]
        exact new
      · rw [if_neg e]
        exact old q hq e
    · rw [if_neg c] at hk
      rcases List.mem_append.mp hk with hk | hk
      · exact old kv hk fun e => c (List.any_eq_true.mpr ⟨kv, hk, decide_eq_true e⟩)
      · rw [List.mem_singleton.mp hk]
        exact new
  · rw [valV_put] at e
    by_cases hx : x' = x
    · rw [hx, if_pos rfl] at e
      cases e
    · rw [if_neg (fun w => hx (Sum.inl.inj w))] at e
      unfold upF
      rw [if_neg hx]
      exact h.no x' e
/-- putting a day's list in its place -/
theorem Dy.put {C Cc Cv : Addr} {H : Hp} {b p d l a : Addr} {m y o k : Rat} {f : Int → List Str} {U : List (List Row)} {n : Nat} (h : Dy C Cc Cv H b p d l m y o k f U n) {kvs : List (L2.Key × V)} (ed : H d = some (.dK kvs)) {x : Int} {ts : List Str} (na : a ≠ l) (ea : H a = some (.lst (ts.map V.str))) (z : Sz 100 x) :
    Dy C Cc Cv (L2.upd H d (.dK (putK kvs (.inl x) (.ref a)))) b p d l m y o k (upF f x ts) U (n + 1) ∧ B2 d l H (L2.upd H d (.dK (putK kvs (.inl x) (.ref a)))) := by
  have s : Kp l H (L2.upd H d (.dK (putK kvs (.inl x) (.ref a)))) := fun c o hn _ e => (upd_ne (fun w => by rw [w, ed] at e; exact hn _ (Option.some.inj e).symm)).trans e
  have hl := h.lst
  have dl := h.ne
  obtain ⟨⟨dx, e⟩, hc, g, ⟨kvs', ed', kr, l1⟩, ⟨us, el, du, l2⟩⟩ := h
  obtain rfl : kvs = kvs' := by
    rw [ed] at ed'
    injection ed' with w
    injection w
  refine ⟨⟨⟨dx, (upd_ne (fun w => by rw [w, ed] at e; cases e)).trans e⟩, hc.kp hl s, g, ⟨_, upd_same, kr.put s na (s _ _ (fun _ w => nomatch w) na ea) z, ?_⟩, us, (upd_ne dl.symm).trans el, du.mono fun _ _ r => r.kp hl s, by omega⟩, fun c o n1 _ e => (upd_ne n1).trans e⟩
  have : (putK kvs (.inl x) (.ref a)).length ≤ kvs.length + 1 := by
    unfold putK
    split
    · rw [List.length_map]; omega
    · rw [List.length_append]; exact Nat.le_refl _
  omega
/-- a deed more -/
theorem Dy.deed {C Cc Cv : Addr} {H : Hp} {b p d l q : Addr} {m y o k : Rat} {f : Int → List Str} {U : List (List Row)} {n : Nat} (h : Dy C Cc Cv H b p d l m y o k f U n) {us vs : List V} {dd : List Row} (el : H l = some (.lst us)) (nq : q ≠ l) (eq : H q = some (.lst vs)) (hr : All2 (RwR H l) vs dd) :
    Dy C Cc Cv (L2.upd H l (.lst (us ++ [.ref q]))) b p d l m y o k f (U ++ [dd]) (n + 1) ∧ B2 d l H (L2.upd H l (.lst (us ++ [.ref q]))) := by
  have s : Kp l H (L2.upd H l (.lst (us ++ [.ref q]))) := fun c o _ hn e => (upd_ne hn).trans e
  have hl := h.lst
  have dl := h.ne
  obtain ⟨⟨dx, e⟩, hc, g, ⟨kvs, ed, kr, l1⟩, ⟨us', el', du, l2⟩⟩ := h
  obtain rfl : us = us' := by
    rw [el] at el'
    injection el' with w
    injection w
  refine ⟨⟨⟨dx, (upd_ne (fun w => by rw [w, el] at e; cases e)).trans e⟩, hc.kp hl s, g, ⟨kvs, (upd_ne dl).trans ed, kr.kp s, by omega⟩, _, upd_same, (du.mono fun _ _ r => r.kp hl s).snoc ?_, by rw [List.length_append]; exact Nat.add_le_add_right l2 1⟩, fun c o _ n2 e => (upd_ne n2).trans e⟩
  exact ⟨q, vs, rfl, nq, (upd_ne nq).trans eq, hr.mono fun _ _ r => r.kp hl s⟩
/-- a deed less -/
theorem Dy.back {C Cc Cv : Addr} {H : Hp} {b p d l : Addr} {m y o k : Rat} {f : Int → List Str} {U : List (List Row)} {n : Nat} {dd : List Row} (h : Dy C Cc Cv H b p d l m y o k f (U ++ [dd]) n) {us : List V} {v : V} (el : H l = some (.lst (us ++ [v]))) :
    Dy C Cc Cv (L2.upd H l (.lst us)) b p d l m y o k f U n ∧ B2 d l H (L2.upd H l (.lst us)) ∧ DdR (L2.upd H l (.lst us)) l v dd := by
  have s : Kp l H (L2.upd H l (.lst us)) := fun c o _ hn e => (upd_ne hn).trans e
  have hl := h.lst
  have dl := h.ne
  obtain ⟨⟨dx, e⟩, hc, g, ⟨kvs, ed, kr, l1⟩, ⟨us', el', du, l2⟩⟩ := h
  obtain ⟨us2, v2, rfl, du2, r2⟩ := du.last
  obtain ⟨rfl, rfl⟩ : us = us2 ∧ v = v2 := by
    rw [el] at el'
    injection el' with w
    injection w with w
    have := List.append_inj' w rfl
    exact ⟨this.1, by simpa using this.2⟩
  refine ⟨⟨⟨dx, (upd_ne (fun w => by rw [w, el] at e; cases e)).trans e⟩, hc.kp hl s, g, ⟨kvs, (upd_ne dl).trans ed, kr.kp s, l1⟩, _, upd_same, du2.mono fun _ _ r => r.kp hl s, ?_⟩, fun c o _ n2 e => (upd_ne n2).trans e, r2.kp hl s⟩
  rw [List.length_append] at l2
  omega
/-! ### what a text of a date stands for -/
inductive WrK
  | txt | dat (z : Rdd) (w : Str) | day (i : Int)
def wrt (m y o k : Rat) (t : Str) : WrK := if daS (rdd t).y (rdd t).n (rdd t).d (rdd t).o = t then (match dyF m y o k (rdd t).y (rdd t).n (rdd t).d (rdd t).o with
  | .inl w => .dat (rdd t) w
  | .inr i => .day i) else .txt
def WrE (CN CD Cd : Addr) (E : XK) (H : Hp) (t : Str) : WrK → Prop
  | .txt => NtE CN E H t
  | .dat z w => ∀ d H1, Same H H1 → Da Cd H1 d z.y z.n z.d z.o → NdE CD E H1 d w
  | .day _ => True
theorem WrE.same {CN CD Cd : Addr} {E : XK} {H H1 : Hp} {t : Str} {r : WrK} (h : WrE CN CD Cd E H t r) (s : Same H H1) : WrE CN CD Cd E H1 t r := by
  cases r with
  | txt => exact NtE.same h s
  | dat z w => exact fun d H2 s2 hd => h d H2 (s.trans s2) hd
  | day i => exact trivial
theorem rdd_sz {t : Str} (h : t.length ≤ 98) : Sz 400 (rdd t).y ∧ Sz 400 (rdd t).n ∧ Sz 400 (rdd t).d := by
  have h1 := rpt_len t
  have h2 := rpt_len (Txt.rpartition t ("-" : Str)).1
  unfold rdd
  refine ⟨nin_z (by omega), nin_z (Nat.le_trans (len_removesuffix _ ("*" : Str)) (by omega)), nin_z (by omega)⟩
theorem Good.zdy {m y o k : Rat} (g : Good m y o k) {a b c i : Int} {od : Bool} (ha : Sz 400 a) (hb : Sz 400 b) (hc : Sz 400 c) (h : dyF m y o k a b c od = .inr i) : Sz 900 i := by
  have h1 : Sz 404 (12 * a) := (Sz.mul (szi (n := 4) 12) ha)
  have h2 : Sz 405 (12 * a + b) := Sz.add h1 (hb.mono (by decide)) (by decide)
  have h3 : Sz 406 (12 * a + b - 1) := zsub h2 1
  have h4 : Sz 567 (mdF y k (12 * a + b - 1)) := g.zmd h3 (by decide) (by decide)
  have h5 : Sz 718 (pmF m y o k a b) := g.zma h4 (by decide) (by decide)
  have key : ∀ j, Sz 719 j → Sz 900 (stF m o j + c - 1) := fun j hj => by
    have k1 : Sz 870 (stF m o j) := g.zst hj (by decide) (by decide)
    have k2 : Sz 871 (stF m o j + c) := Sz.add k1 (hc.mono (by decide)) (by decide)
    exact (zsub (l := 872) k2 1).mono (by decide)
  have zj : ∀ j, moF m y o k a b od = .inr j → Sz 719 j := fun j hj => by
    unfold moF at hj
    split at hj
    · cases hj
    split at hj
    · cases hj
    split at hj
    · split at hj
      · cases hj
      · cases hj
        exact zadd h5 1
    · cases hj
      exact h5.mono (by decide)
  unfold dyF at h
  cases hm : moF m y o k a b od with
  | inl w => rw [hm] at h; cases h
  | inr j =>
    rw [hm] at h
    dsimp only at h
    split at h
    · cases h
    split at h
    · cases h
    · cases h
      exact key j (zj j hm)
/-! ### the diary's methods -/
def spDvI (Cv : Addr) : Sp := fun vs H Q _ => ∃ b dx p : Addr, vs = [.ref b, .ref p] ∧ H b = some (.ins Cv dx []) ∧ ∀ d l H', But b H H' → H d = none → H l = none → d ≠ l → H' b = some (.ins Cv dx (dvs p d l)) → H' d = some (.dK []) → H' l = some (.lst []) → Q .non H'
def spTx (C Cc Cv : Addr) : Sp := fun vs H Q _ => ∃ (b p d l : Addr) (x : Int) (m y o k : Rat) (f : Int → List Str) (U : List (List Row)) (n : Nat), vs = [.ref b, .int x] ∧ Dy C Cc Cv H b p d l m y o k f U n ∧ ∀ a H', Same H H' → a ≠ l → (H a = none ∨ ∃ kvs, H d = some (.dK kvs) ∧ valV kvs (.inl x) = some (.ref a)) → H' a = some (.lst ((f x).map V.str)) → Q (.ref a) H'
def spRm (C Cc Cv : Addr) : Sp := fun vs H Q _ => ∃ (b p d l q : Addr) (xs : List Int) (m y o k : Rat) (f : Int → List Str) (U : List (List Row)) (n : Nat), vs = [.ref b, .ref q] ∧ H q = some (.lst (xs.map V.int)) ∧ xs.length ≤ 100 ∧ (∀ x ∈ xs, Sz 100 x) ∧ Dy C Cc Cv H b p d l m y o k f U n ∧ n ≤ 10000 ∧ ∀ H', B2 d l H H' → Dy C Cc Cv H' b p d l m y o k f (U ++ [xs.map fun x => (x, f x)]) (n + 1) → Q .non H'
def spDw (C Cc Cv Cd CN CD : Addr) : Sp := fun vs H Q E => ∃ (b p d l : Addr) (t : Str) (m y o k : Rat) (f : Int → List Str) (U : List (List Row)) (n : Nat), vs = [.ref b, .str t] ∧ t.length ≤ 98 ∧ Dy C Cc Cv H b p d l m y o k f U n ∧ (∀ i, wrt m y o k t = .day i → Sz 900 i → ∀ H', Same H H' → Q (.int i) H') ∧ WrE CN CD Cd E H t (wrt m y o k t)
section
variable {P : Program} {w : World} {K : PySem.W.Frag} {mg : Str → Option Value} {base : Heap} {C Cc Cd CN CD Cv : Addr}
theorem ok_dvI (D : Di K mg "Diary" Cv "Diary.__init__" s_Diary_init []) (T : DvT K Cv) : Ci P w K mg base CX0 1 "Diary" Cv "Diary.__init__" s_Diary_init [] ["self", "calendar"] (spDvI Cv) := by
  refine ci0 (k := 0) D c_Diary_init (fun vs H Q E h => ?_) fun f cdv A outer s H vs Q E hr h => ?_
  · obtain ⟨b, dx, p, rfl, _⟩ := h
    rfl
  · obtain ⟨b, dx, p, rfl, hb, q⟩ := h
    refine ⟨_, (pss_cons (ps_fld (pv 0) (pv 1) rfl)
      (pss_cons (ps_fld (pv 0) pe_dnewK rfl)
      (pss_one (ps_fld (pv 0) (pe_lst pa_nil) rfl)))), ?_⟩
    refine ⟨_, rfl, _, rfl, b, Cv, dx, _, rfl, hb, T.cl, T.n1, (by show 0 < 1000; decide), ?_⟩
    intro d nd
    have ndb : b ≠ d := fun z => by rw [← z, upd_same] at nd; cases nd
    have nd0 : H d = none := by
      rw [upd_ne ndb.symm] at nd
      exact nd
    refine ⟨_, rfl, b, Cv, dx, _, rfl, (by rw [upd_ne ndb]; exact upd_same), T.cl, T.n2, (by show 1 < 1000; decide), ?_⟩
    refine ⟨ln _, fun l nl => ?_⟩
    have nlb : l ≠ b := fun z => by rw [z, upd_same] at nl; cases nl
    rw [upd_ne nlb] at nl
    have nld : l ≠ d := fun z => by rw [z, upd_same] at nl; cases nl
    rw [upd_ne nld, upd_ne nlb] at nl
    refine ⟨_, rfl, b, Cv, dx, _, rfl, (by rw [upd_ne nlb.symm]; exact upd_same), T.cl, T.n3, (by show 2 < 1000; decide), ?_⟩
    refine q d l _ (fun c o hc e => ?_) nd0 nl nld.symm upd_same ?_ ?_
    · have c1 := ne_of_none e nd0
      have c2 := ne_of_none e nl
      rw [upd_ne hc, upd_ne c2, upd_ne hc, upd_ne c1, upd_ne hc]
      exact e
    · rw [upd_ne ndb.symm, upd_ne nld.symm, upd_ne ndb.symm]
      exact upd_same
    · rw [upd_ne nlb]
      exact upd_same
theorem ok_tx (D : Dm K Cv "texts_of" "Diary.texts_of" s_Diary_texts_of) (T : DvT K Cv) : Cm P w K mg base CX0 1 Cv "texts_of" "Diary.texts_of" s_Diary_texts_of ["self", "day"] (spTx C Cc Cv) := by
  refine cm0 (k := 0) D c_Diary_texts_of (fun vs H Q E h => ?_) fun f cdv A outer s H vs Q E hr h => ?_
  · obtain ⟨b, p, d, l, x, m, y, o, k, f, U, n, rfl, _⟩ := h
    rfl
  · obtain ⟨b, p, d, l, x, m, y, o, k, f, U, n, rfl, hy, q⟩ := h
    obtain ⟨dx, eb⟩ := hy.ob
    obtain ⟨kvs, ed, kr, _⟩ := hy.kp
    obtain ⟨us, el, _⟩ := hy.de
    refine ⟨_, (pss_one (ps_ret (pe_dget2 (hu1 hr) (pe_fld (pv 0) rfl) (pv 1) (pe_lst pa_nil) ⟨rfl, rfl, rfl, rfl⟩))), ?_⟩
    refine ⟨_, rfl, b, Cv, dx, _, _, rfl, eb, T.cl, T.n2, dv_kept _ _ _, d, rfl, .inl ⟨kvs, .inl ed⟩, _, rfl, ln _, fun r nr => ?_⟩
    have s1 := Same.new (o := .lst []) nr
    refine ⟨_, DGet.k (k := .inl x) (s1 _ _ ed), ?_⟩
    cases hv : valV kvs (.inl x) with
    | none =>
      refine q r _ s1 (ne_of_none el nr).symm (.inl nr) ?_
      rw [kr.no x hv]
      exact upd_same
    | some v =>
      obtain ⟨a, rfl, na, ea, _⟩ := kr.get hv
      exact q a _ s1 na (.inr ⟨kvs, ed, hv⟩) (s1 _ _ ea)
abbrev TE_Diary_remember1 (C Cc Cv : Addr) : TE := tTup (tCons (tVar 2) (tCons (tMeth Cv "texts_of" (spTx C Cc Cv) [] E0 (tVar 0) (tCons (tVar 2) tNil)) tNil))
theorem ok_rm (D : Dm K Cv "remember" "Diary.remember" s_Diary_remember) (T : DvT K Cv) (f_texts_of : Cm P w K mg base CX0 1 Cv "texts_of" "Diary.texts_of" s_Diary_texts_of ["self", "day"] (spTx C Cc Cv)) : Cm P w K mg base CX0 2 Cv "remember" "Diary.remember" s_Diary_remember ["self", "days"] (spRm C Cc Cv) := by
  refine cm0 (k := 1) D c_Diary_remember (fun vs H Q E h => ?_) fun f cdv A outer s H vs Q E hr h => ?_
  · obtain ⟨b, p, d, l, qq, xs, m, y, o, k, f, U, n, rfl, _⟩ := h
    rfl
  · obtain ⟨b, p, d, l, qq, xs, m, y, o, k, f, U, n, rfl, eq, lx, zx, hy, hn, q⟩ := h
    obtain ⟨dx, eb⟩ := hy.ob
    obtain ⟨us, el, _, lu⟩ := hy.de
    obtain ⟨kvs, ed, kr, _⟩ := hy.kp
    refine ⟨_, (pss_one (ps_expr (pe_bm PySem.F.plainAttrs_list PySem.F.slot_list_append PySem.F.type_list_append mt_append (pe_fld (pv 0) rfl) (pa_cons (pe_lc (own := [("day", 2)]) (g := gName 2) (tt := tYes) (te := TE_Diary_remember1 C Cc Cv) rfl c_Diary_remember.nd (pi_list (pv 1)) (blkOk_by (N := ["self", "days", "day"]) (sc := defScope s_Diary_remember) (by decide +kernel)) (fun _ _ _ _ _ => (pg_name (i := 2) c_Diary_remember.nd rfl (.inl rfl))) (fun _ _ _ _ _ => by exact pts_nil) (fun _ _ _ _ _ => by exact (pe_tup (pa_cons (pv 2) (pa_cons (pe_cm f_texts_of b_Diary_texts_of hr (by decide) pass0 (pv 0) (pa_cons (pv 2) pa_nil)) pa_nil))))) pa_nil)))), ?_⟩
    refine ⟨_, rfl, b, Cv, dx, _, _, rfl, eb, T.cl, T.n3, dv_deeds _ _ _, .inl ⟨rfl, _, SqL.of el⟩, _, rfl, qq, rfl, ⟨_, SqL.of eq⟩, fun D0 hD => ?_⟩
    have nl : D0 ≠ l := (ne_of_none el hD).symm
    have wl := walk_list (K := K) (a := qq) (xs := xs.map V.int)
    rw [List.length_map] at wl
    refine lc_it wl (fun i H' => ∃ us' : List V, us'.length = i ∧ H' D0 = some (.lst us') ∧ Same H H' ∧ ∀ (j : Nat) (v : V), us'[j]? = some v → ∃ x : Int, xs[j]? = some x ∧ ∃ t a : Addr, v = V.ref t ∧ H' t = some (.tup [.int x, .ref a]) ∧ a ≠ l ∧ a ≠ D0 ∧ H' a = some (.lst ((f x).map V.str)) ∧ Sz 100 x)
      ⟨[], rfl, upd_same, upd_keep hD (Same.refl H), fun j v h => by simp at h⟩ (fun i H' _ ⟨_, _, _, s, _⟩ => SqL.of (s _ _ eq)) ?_ ?_
    · rintro i v H1 H2 hi ⟨us', hl', e', s1, hp⟩ ⟨rfl, hx⟩
      have hxi := List.getElem?_eq_getElem hi
      rw [List.getElem?_map, hxi] at hx
      obtain rfl : v = V.int xs[i] := (Option.some.inj hx).symm
      refine ⟨rfl, ?_⟩
      dsimp only [tYes]
      rw [if_pos rfl]
      refine ⟨_, rfl, _, rfl, b, dx, _, rfl, s1 _ _ eb, dv_no _ _ _ (by decide +kernel) (by decide +kernel) (by decide +kernel), _, rfl, b, p, d, l, xs[i], m, y, o, k, f, U, n, rfl, hy.same s1, fun a H3 s3 na ka ea => ?_⟩
      have nD : a ≠ D0 := by
        rcases ka with ka | ⟨kvs', ed', hv⟩
        · exact (ne_of_none e' ka).symm
        · rw [s1 _ _ ed] at ed'
          injection ed' with w
          injection w with w
          subst w
          obtain ⟨a', w, _, ea', _⟩ := kr.get hv
          injection w with w
          subst w
          exact ne_of_none ea' hD
      refine ⟨(by show 2 ≤ sizeLine; decide), fun t nt => ?_⟩
      have st := s3.trans (Same.new (o := .tup [.int xs[i], .ref a]) nt)
      have e4 := st _ _ e'
      refine ⟨us', e4, Nat.lt_of_lt_of_le (show us'.length < 101 by omega) (by decide), us' ++ [.ref t], by rw [List.length_append, hl']; rfl, upd_same, upd_keep hD (s1.trans st), fun j v hj => ?_⟩
      have keep : ∀ (c : Addr) (u : HO), c ≠ D0 → H2 c = some u → (L2.upd (L2.upd H3 t (.tup [.int xs[i], .ref a])) D0 (.lst (us' ++ [.ref t]))) c = some u := fun c u n e => (upd_ne n).trans (st _ _ e)
      have ntD : t ≠ D0 := (ne_of_none (s3 _ _ e') nt).symm
      by_cases c : j < us'.length
      · rw [List.getElem?_append_left c] at hj
        obtain ⟨x, ex, t', a', e1, e2, e3, e5, e6, e7⟩ := hp j v hj
        exact ⟨x, ex, t', a', e1, keep _ _ (ne_of e2 e' (by intro z; cases z)) e2, e3, e5, keep _ _ e5 e6, e7⟩
      · have hj2 : j = i := by
          have := (List.getElem?_eq_some_iff.mp hj).1
          rw [List.length_append, List.length_singleton] at this
          omega
        subst hj2
        rw [List.getElem?_append_right (by omega), show j - us'.length = 0 by omega] at hj
        cases hj
        refine ⟨xs[j], hxi, t, a, rfl, ?_, na, nD, ?_, zx _ (List.getElem_mem hi)⟩
        · rw [upd_ne ntD]
          exact upd_same
        · rw [upd_ne nD]
          exact Same.new nt _ _ ea
    · rintro H1 ⟨us2, hl2, e2, s2, hp⟩
      refine ⟨l, us, _, rfl, rfl, s2 _ _ el, Nat.lt_of_le_of_lt (Nat.le_trans lu hn) (by decide), ?_⟩
      obtain ⟨h1, h2⟩ := (hy.same s2).deed (s2 _ _ el) nl e2 (All2.of (bs := xs.map fun x => (x, f x)) (by rw [hl2, List.length_map]) fun i a ha => by
        obtain ⟨x, ex, t, a, e1, e2, e3, e4, e5, e6⟩ := hp i a ha
        exact ⟨(x, f x), by rw [List.getElem?_map, ex]; rfl, t, a, e1, e2, e3, e5, e6⟩)
      exact q _ ((B2.same s2).trans h2) h1
theorem ok_dw (D : Dm K Cv "day_written" "Diary.day_written" s_Diary_day_written) (T : DvT K Cv) (f_read_date : Ca P w K mg base (L2.CX P w) 6 "read_date" s_read_date [] ["text"] (spRd Cd CN)) (f_day_of : Ca P w K mg base (L2.CX P w) 12 "day_of" s_day_of [] ["calendar", "date"] (spDyX C Cc Cd CD)) :
    Cm P w K mg base (L2.CX P w) 13 Cv "day_written" "Diary.day_written" s_Diary_day_written ["self", "date"] (spDw C Cc Cv Cd CN CD) := by
  refine cmX (k := 12) D c_Diary_day_written (fun vs H Q E h => ?_) fun f cdv A outer s H vs Q E hr h => ?_
  · obtain ⟨b, p, d, l, t, m, y, o, k, f, U, n, rfl, _⟩ := h
    rfl
  · obtain ⟨b, p, d, l, t, m, y, o, k, f, U, n, rfl, ht, hy, q, qe⟩ := h
    obtain ⟨dx, eb⟩ := hy.ob
    obtain ⟨z1, z2, z3⟩ := rdd_sz ht
    refine ⟨_, (pss_one (ps_ret (pe_ca f_day_of b_day_of hr (by decide) (passes_call (takes_of (E := E) rfl rfl rfl rfl) fun _ _ _ _ z => z) rfl (pa_cons (pe_fld (pv 0) rfl) (pa_cons (pe_ca f_read_date b_read_date hr (by decide) (passes_call (takes_of (E := E) rfl rfl rfl rfl) fun _ _ _ _ z => z) rfl (pa_cons (pv 1) pa_nil)) pa_nil))))), ?_⟩
    refine ⟨_, rfl, b, Cv, dx, _, _, rfl, eb, T.cl, T.n1, dv_cal _ _ _, _, rfl, t, rfl, ht, fun yy nn dd oo hn hd e r H1 s1 hda => ?_, fun hno => ?_⟩
    · obtain ⟨e1, e2, e3, e4⟩ := rdd_of hn hd e
      have e5 : daS (rdd t).y (rdd t).n (rdd t).d (rdd t).o = t := by rw [e1, e2, e3, e4]; exact e.symm
      unfold wrt at q qe
      rw [if_pos e5] at q qe
      rw [← e1, ← e2, ← e3, ← e4] at hda
      refine ⟨p, r, _, _, _, _, m, y, o, k, rfl, hy.c.same s1, hy.g, hda, z1.mono (by decide), z2.mono (by decide), fun i hi H2 s2 => ?_, fun x hx => ?_⟩
      · rw [hi] at q
        exact q i rfl (hy.g.zdy z1 z2 z3 hi) H2 (s1.trans s2)
      · rw [hx] at qe
        exact qe r H1 s1 hda
    · have e5 : ¬ daS (rdd t).y (rdd t).n (rdd t).d (rdd t).o = t := fun e => hno _ _ _ _ (rdd_ok e).1 (rdd_ok e).2 e.symm
      unfold wrt at qe
      rw [if_neg e5] at qe
      exact qe
end
/-! ### deeds -/
def undF (dd : List Row) (f : Int → List Str) : Int → List Str := dd.foldl (fun f r => upF f r.1 r.2) f
def spNo (C Cc Cv Cd CN CD : Addr) : Sp := fun vs H Q E => ∃ (b p d l : Addr) (t x : Str) (m y o k : Rat) (f : Int → List Str) (U : List (List Row)) (n : Nat), vs = [.ref b, .str t, .str x] ∧ t.length ≤ 98 ∧ Dy C Cc Cv H b p d l m y o k f U n ∧ n ≤ 9000 ∧
  (∀ i, wrt m y o k t = .day i → Sz 100 i ∧ (f i).length ≤ 100000 ∧ ∀ H', B2 d l H H' → Dy C Cc Cv H' b p d l m y o k (upF f i (f i ++ [x])) (U ++ [[(i, f i)]]) (n + 2) → Q .non H') ∧ WrE CN CD Cd E H t (wrt m y o k t)
def spSkX (C Cc Cv Cd CN CD CW : Addr) : Sp := fun vs H Q E => ∃ (b p d l : Addr) (t : Str) (at' : Int) (m y o k : Rat) (f : Int → List Str) (U : List (List Row)) (n : Nat), vs = [.ref b, .str t, .int at'] ∧ t.length ≤ 98 ∧ Dy C Cc Cv H b p d l m y o k f U n ∧
  (∀ i, wrt m y o k t = .day i → (at' < 0 ∨ ((f i).length : Int) ≤ at') ∧ (f i).length ≤ 100000 ∧ NxE CW "at" E H (.int at')) ∧ WrE CN CD Cd E H t (wrt m y o k t)
def spMvX (C Cc Cv Cd CN CD : Addr) : Sp := fun vs H Q E => ∃ (b p d l : Addr) (t u : Str) (m y o k : Rat) (f : Int → List Str) (U : List (List Row)) (n : Nat), vs = [.ref b, .str t, .str u] ∧ t.length ≤ 98 ∧ u.length ≤ 98 ∧ Dy C Cc Cv H b p d l m y o k f U n ∧
  WrE CN CD Cd E H t (wrt m y o k t) ∧ (∀ i, wrt m y o k t = .day i → (∀ j, wrt m y o k u ≠ .day j) ∧ WrE CN CD Cd E H u (wrt m y o k u))
def spOn (C Cc Cv Cd CN CD : Addr) : Sp := fun vs H Q E => ∃ (b p d l : Addr) (t : Str) (m y o k : Rat) (f : Int → List Str) (U : List (List Row)) (n : Nat), vs = [.ref b, .str t] ∧ t.length ≤ 98 ∧ Dy C Cc Cv H b p d l m y o k f U n ∧
  (∀ i, wrt m y o k t = .day i → ∀ r H', H r = none → Same H H' → H' r = some (.lst ((f i).map V.str)) → Q (.ref r) H') ∧ WrE CN CD Cd E H t (wrt m y o k t)
def spUn (C Cc Cv CZ : Addr) : Sp := fun vs H Q E => ∃ (b p d l : Addr) (m y o k : Rat) (f : Int → List Str) (U : List (List Row)) (n : Nat), vs = [.ref b] ∧ Dy C Cc Cv H b p d l m y o k f U n ∧ n ≤ 9000 ∧
  (U = [] → E (.ref CZ) none H) ∧ (∀ U' dd, U = U' ++ [dd] → dd.length ≤ 100 ∧ ∀ H', B2 d l H H' → Dy C Cc Cv H' b p d l m y o k (undF dd f) U' (n + dd.length) → Q .non H')
theorem undF_take {dd : List Row} {f : Int → List Str} {j : Nat} {r : Row} (h : dd[j]? = some r) : undF (dd.take (j + 1)) f = upF (undF (dd.take j) f) r.1 r.2 := by
  unfold undF
  rw [List.take_succ, h, List.foldl_append]
  rfl
section
variable {P : Program} {w : World} {K : PySem.W.Frag} {mg : Str → Option Value} {base : Heap} {C Cc Cd CN CD CW CZ Cv : Addr}
theorem ok_no (D : Dm K Cv "note" "Diary.note" s_Diary_note) (T : DvT K Cv) (f_day_written : Cm P w K mg base (L2.CX P w) 13 Cv "day_written" "Diary.day_written" s_Diary_day_written ["self", "date"] (spDw C Cc Cv Cd CN CD)) (f_texts_of : Cm P w K mg base CX0 1 Cv "texts_of" "Diary.texts_of" s_Diary_texts_of ["self", "day"] (spTx C Cc Cv))
    (f_remember : Cm P w K mg base CX0 2 Cv "remember" "Diary.remember" s_Diary_remember ["self", "days"] (spRm C Cc Cv)) : Cm P w K mg base (L2.CX P w) 14 Cv "note" "Diary.note" s_Diary_note ["self", "date", "text"] (spNo C Cc Cv Cd CN CD) := by
  refine cmX (k := 13) D c_Diary_note (fun vs H Q E h => ?_) fun f cdv A outer s H vs Q E hr h => ?_
  · obtain ⟨b, p, d, l, t, x, m, y, o, k, f, U, n, rfl, _⟩ := h
    rfl
  · obtain ⟨b, p, d, l, t, x, m, y, o, k, f, U, n, rfl, ht, hy, hn, q, qe⟩ := h
    obtain ⟨dx, eb⟩ := hy.ob
    refine ⟨_, (pss_cons (ps_set (i := 3) c_Diary_note.nd rfl (.inl rfl) (pe_cm f_day_written b_Diary_day_written hr (by decide) (passes_call (takes_of (E := E) rfl rfl rfl rfl) fun _ _ _ _ z => z) (pv 0) (pa_cons (pv 1) pa_nil)))
      (pss_cons (ps_expr (pe_cm f_remember b_Diary_remember hr (by decide) pass0 (pv 0) (pa_cons (pe_lst (pa_cons (pv 3) pa_nil)) pa_nil)))
      (pss_one (ps_dput (hu1 hr) (pe_fld (pv 0) rfl) (pv 3) (pe_op op_cat (pe_cm f_texts_of b_Diary_texts_of hr (by decide) pass0 (pv 0) (pa_cons (pv 3) pa_nil)) (pe_lst (pa_cons (pv 2) pa_nil))) rfl)))), ?_⟩
    have no : ∀ {x : Str}, ¬ (x = ("deeds" : Str)) → ¬ (x = ("kept" : Str)) → ¬ (x = ("calendar" : Str)) → (dvs p d l).lookup x = none := dv_no p d l
    refine ⟨_, rfl, b, dx, _, rfl, eb, no (by decide +kernel) (by decide +kernel) (by decide +kernel), _, rfl, b, p, d, l, t, m, y, o, k, f, U, n, rfl, ht, hy, fun i hi _ H1 s1 => ?_, qe⟩
    obtain ⟨zi, lf, q⟩ := q i hi
    refine ⟨_, rfl, b, dx, _, rfl, s1 _ _ eb, no (by decide +kernel) (by decide +kernel) (by decide +kernel), _, rfl, ln _, fun q1 nq1 => ?_⟩
    have s2 := s1.trans (Same.new (o := .lst [.int i]) nq1)
    have eq1 := upd_same (H := H1) (a := q1) (o := .lst [.int i])
    generalize L2.upd H1 q1 _ = H2 at *
    refine ⟨b, p, d, l, q1, [i], m, y, o, k, f, U, n, rfl, eq1, (by show 1 ≤ 100; decide), fun z hz => by rw [List.mem_singleton.mp hz]; exact zi, hy.same s2, by omega, fun H3 b3 hy3 => ?_⟩
    obtain ⟨dx3, eb3⟩ := hy3.ob
    refine ⟨_, rfl, b, dx3, _, rfl, eb3, no (by decide +kernel) (by decide +kernel) (by decide +kernel), _, rfl, b, p, d, l, i, m, y, o, k, f, _, _, rfl, hy3, fun a H4 s4 na _ ea => ?_⟩
    refine ⟨_, rfl, ln _, fun q2 nq2 => ?_⟩
    have s5 := s4.trans (Same.new (o := .lst [.str x]) nq2)
    have ea5 := Same.new (o := .lst [.str x]) nq2 _ _ ea
    have eq2 := upd_same (H := H4) (a := q2) (o := .lst [.str x])
    generalize L2.upd H4 q2 _ = H5 at *
    refine ⟨a, q2, _, _, rfl, rfl, ea5, eq2, ?_, fun r nr => ?_⟩
    · rw [List.length_map]
      exact Nat.le_trans (Nat.add_le_add_right lf 1) (by decide)
    have s6 := s5.trans (Same.new (o := .lst ((f i).map V.str ++ [.str x])) nr)
    have er := upd_same (H := H5) (a := r) (o := .lst ((f i).map V.str ++ [.str x]))
    have nrl : r ≠ l := by
      obtain ⟨us, el⟩ := (hy3.same s5).lst
      exact (ne_of_none el nr).symm
    generalize L2.upd H5 r _ = H6 at *
    have hy6 := hy3.same s6
    obtain ⟨kvs, ed, _, lk⟩ := hy6.kp
    refine ⟨_, rfl, b, Cv, dx3, _, _, rfl, s6 _ _ eb3, T.cl, T.n2, dv_kept _ _ _, _, rfl, d, _, rfl, DPut.k (k := .inl i) ed (Nat.lt_of_le_of_lt (Nat.le_trans lk (show _ ≤ 10000 by omega)) (by decide)), ?_⟩
    have er' : H6 r = some (.lst ((f i ++ [x]).map V.str)) := by
      rw [er, List.map_append]
      rfl
    obtain ⟨h7, b7⟩ := hy6.put ed nrl er' zi
    exact q _ ((((B2.same s2).trans b3).trans (.same s6)).trans b7) h7
theorem ok_skX (D : Dm K Cv "strike" "Diary.strike" s_Diary_strike) (Tv : DvT K Cv) (T : NwT K mg CW) (nc : Cx1 P w K mg base 1 CW "NoNote.__init__" s_NoNote_init ["self", "at"] (spNx CW "at" okI)) (f_day_written : Cm P w K mg base (L2.CX P w) 13 Cv "day_written" "Diary.day_written" s_Diary_day_written ["self", "date"] (spDw C Cc Cv Cd CN CD)) (f_texts_of : Cm P w K mg base CX0 1 Cv "texts_of" "Diary.texts_of" s_Diary_texts_of ["self", "day"] (spTx C Cc Cv))
    (f_remember : Cm P w K mg base CX0 2 Cv "remember" "Diary.remember" s_Diary_remember ["self", "days"] (spRm C Cc Cv)) (g_len : mg "len" = none) : Cm P w K mg base (L2.CX P w) 14 Cv "strike" "Diary.strike" s_Diary_strike ["self", "date", "at"] (spSkX C Cc Cv Cd CN CD CW) := by
  refine cmX (k := 13) D c_Diary_strike (fun vs H Q E h => ?_) fun f cdv A outer s H vs Q E hr h => ?_
  · obtain ⟨b, p, d, l, t, x, m, y, o, k, f, U, n, rfl, _⟩ := h
    rfl
  · obtain ⟨b, p, d, l, t, at', m, y, o, k, f, U, n, rfl, ht, hy, q, qe⟩ := h
    obtain ⟨dx, eb⟩ := hy.ob
    refine ⟨_, (pss_cons (ps_set (i := 3) c_Diary_strike.nd rfl (.inl rfl) (pe_cm f_day_written b_Diary_day_written hr (by decide) (passes_call (takes_of (E := E) rfl rfl rfl rfl) fun _ _ _ _ z => z) (pv 0) (pa_cons (pv 1) pa_nil)))
      (pss_cons (ps_set (i := 4) c_Diary_strike.nd rfl (.inl rfl) (pe_cm f_texts_of b_Diary_texts_of hr (by decide) pass0 (pv 0) (pa_cons (pv 3) pa_nil)))
      (pss_cons (ps_if (PW.pt (pw_or (pt_cmpR op_lt (pv 2) pe_int (nomark _)) (pw_or1 (pt_cmpR op_ge (pv 2) (pe_callB call_len_seq rfl g_len (by decide +kernel) (pa_cons (pv 4) pa_nil)) (nomark _))))) (pss_one (ps_raise rfl (takes_of (E := E) rfl rfl rfl rfl) (mk_nw T nc (hr.mono (by decide)) rfl (pa_cons (pv 2) pa_nil)))) pss_nil)
      (pss_cons (ps_expr (pe_cm f_remember b_Diary_remember hr (by decide) pass0 (pv 0) (pa_cons (pe_lst (pa_cons (pv 3) pa_nil)) pa_nil)))
      (pss_one (ps_dput (hu1 hr) (pe_fld (pv 0) rfl) (pv 3) (pe_op op_cat (pe_slice sl_list (pv 4) po_none (po_some (pv 2))) (pe_slice sl_list (pv 4) (po_some (pe_op op_add (pv 2) pe_int)) po_none)) rfl)))))), ?_⟩
    have no : ∀ {x : Str}, ¬ (x = ("deeds" : Str)) → ¬ (x = ("kept" : Str)) → ¬ (x = ("calendar" : Str)) → (dvs p d l).lookup x = none := dv_no p d l
    refine ⟨_, rfl, b, dx, _, rfl, eb, no (by decide +kernel) (by decide +kernel) (by decide +kernel), _, rfl, b, p, d, l, t, m, y, o, k, f, U, n, rfl, ht, hy, fun i hi _ H1 s1 => ?_, qe⟩
    obtain ⟨bad, lf, q⟩ := q i hi
    refine ⟨_, rfl, b, dx, _, rfl, s1 _ _ eb, no (by decide +kernel) (by decide +kernel) (by decide +kernel), _, rfl, b, p, d, l, i, m, y, o, k, f, U, n, rfl, hy.same s1, fun a H2 s2 na _ ea => ?_⟩
    have s12 := s1.trans s2
    refine ⟨_, rfl, _, _, rfl, rfl, _, rfl, ?_⟩
    by_cases c1 : at' < 0
    · rw [decide_eq_true c1]
      exact iteT (iteT ⟨_, rfl, rd_nx ⟨at', rfl⟩ q s12⟩)
    · rw [decide_eq_false c1]
      refine iteF ?_
      have c2 : ((f i).length : Int) ≤ at' := by rcases bad with h | h <;> omega
      refine ⟨_, rfl, _, rfl, a, _, rfl, .inl (SqL.of ea), _, _, rfl, rfl, _, rfl, ?_⟩
      rw [List.length_map, decide_eq_true c2]
      exact iteT ⟨_, rfl, rd_nx ⟨at', rfl⟩ q s12⟩
theorem ok_mvX (D : Dm K Cv "moved" "Diary.moved" s_Diary_moved) (f_day_written : Cm P w K mg base (L2.CX P w) 13 Cv "day_written" "Diary.day_written" s_Diary_day_written ["self", "date"] (spDw C Cc Cv Cd CN CD)) (f_texts_of : Cm P w K mg base CX0 1 Cv "texts_of" "Diary.texts_of" s_Diary_texts_of ["self", "day"] (spTx C Cc Cv))
    (f_remember : Cm P w K mg base CX0 2 Cv "remember" "Diary.remember" s_Diary_remember ["self", "days"] (spRm C Cc Cv)) : Cm P w K mg base (L2.CX P w) 14 Cv "moved" "Diary.moved" s_Diary_moved ["self", "date", "other"] (spMvX C Cc Cv Cd CN CD) := by
  refine cmX (k := 13) D c_Diary_moved (fun vs H Q E h => ?_) fun f cdv A outer s H vs Q E hr h => ?_
  · obtain ⟨b, p, d, l, t, x, m, y, o, k, f, U, n, rfl, _⟩ := h
    rfl
  · obtain ⟨b, p, d, l, t, u, m, y, o, k, f, U, n, rfl, ht, hu, hy, qe, q⟩ := h
    obtain ⟨dx, eb⟩ := hy.ob
    refine ⟨_, (pss_cons (ps_set (i := 3) c_Diary_moved.nd rfl (.inl rfl) (pe_cm f_day_written b_Diary_day_written hr (by decide) (passes_call (takes_of (E := E) rfl rfl rfl rfl) fun _ _ _ _ z => z) (pv 0) (pa_cons (pv 1) pa_nil)))
      (pss_cons (ps_set (i := 4) c_Diary_moved.nd rfl (.inl rfl) (pe_cm f_day_written b_Diary_day_written hr (by decide) (passes_call (takes_of (E := E) rfl rfl rfl rfl) fun _ _ _ _ z => z) (pv 0) (pa_cons (pv 2) pa_nil)))
      (pss_cons (ps_expr (pe_cm f_remember b_Diary_remember hr (by decide) pass0 (pv 0) (pa_cons (pe_lst (pa_cons (pv 3) (pa_cons (pv 4) pa_nil))) pa_nil)))
      (pss_cons (ps_set (i := 5) c_Diary_moved.nd rfl (.inl rfl) (pe_cm f_texts_of b_Diary_texts_of hr (by decide) pass0 (pv 0) (pa_cons (pv 3) pa_nil)))
      (pss_cons (ps_dput (hu1 hr) (pe_fld (pv 0) rfl) (pv 3) (pe_lst pa_nil) rfl)
      (pss_one (ps_dput (hu1 hr) (pe_fld (pv 0) rfl) (pv 4) (pe_op op_cat (pe_cm f_texts_of b_Diary_texts_of hr (by decide) pass0 (pv 0) (pa_cons (pv 4) pa_nil)) (pv 5)) rfl))))))), ?_⟩
    have no : ∀ {x : Str}, ¬ (x = ("deeds" : Str)) → ¬ (x = ("kept" : Str)) → ¬ (x = ("calendar" : Str)) → (dvs p d l).lookup x = none := dv_no p d l
    refine ⟨_, rfl, b, dx, _, rfl, eb, no (by decide +kernel) (by decide +kernel) (by decide +kernel), _, rfl, b, p, d, l, t, m, y, o, k, f, U, n, rfl, ht, hy, fun i hi _ H1 s1 => ?_, qe⟩
    obtain ⟨n2, q2⟩ := q i hi
    exact ⟨_, rfl, b, dx, _, rfl, s1 _ _ eb, no (by decide +kernel) (by decide +kernel) (by decide +kernel), _, rfl, b, p, d, l, u, m, y, o, k, f, U, n, rfl, hu, hy.same s1, fun j hj => absurd hj (n2 j), q2.same s1⟩
theorem ok_on (D : Dm K Cv "notes_on" "Diary.notes_on" s_Diary_notes_on) (f_day_written : Cm P w K mg base (L2.CX P w) 13 Cv "day_written" "Diary.day_written" s_Diary_day_written ["self", "date"] (spDw C Cc Cv Cd CN CD)) (f_texts_of : Cm P w K mg base CX0 1 Cv "texts_of" "Diary.texts_of" s_Diary_texts_of ["self", "day"] (spTx C Cc Cv)) (g_list : mg "list" = none) :
    Cm P w K mg base (L2.CX P w) 14 Cv "notes_on" "Diary.notes_on" s_Diary_notes_on ["self", "date"] (spOn C Cc Cv Cd CN CD) := by
  refine cmX (k := 13) D c_Diary_notes_on (fun vs H Q E h => ?_) fun f cdv A outer s H vs Q E hr h => ?_
  · obtain ⟨b, p, d, l, t, m, y, o, k, f, U, n, rfl, _⟩ := h
    rfl
  · obtain ⟨b, p, d, l, t, m, y, o, k, f, U, n, rfl, ht, hy, q, qe⟩ := h
    obtain ⟨dx, eb⟩ := hy.ob
    refine ⟨_, (pss_one (ps_ret (pe_callTy call_list_of rfl g_list (by decide +kernel) (pa_cons (pe_cm f_texts_of b_Diary_texts_of hr (by decide) pass0 (pv 0) (pa_cons (pe_cm f_day_written b_Diary_day_written hr (by decide) (passes_call (takes_of (E := E) rfl rfl rfl rfl) fun _ _ _ _ z => z) (pv 0) (pa_cons (pv 1) pa_nil)) pa_nil)) pa_nil)))), ?_⟩
    have no : ∀ {x : Str}, ¬ (x = ("deeds" : Str)) → ¬ (x = ("kept" : Str)) → ¬ (x = ("calendar" : Str)) → (dvs p d l).lookup x = none := dv_no p d l
    refine ⟨_, rfl, b, dx, _, rfl, eb, no (by decide +kernel) (by decide +kernel) (by decide +kernel), _, rfl, b, dx, _, rfl, eb, no (by decide +kernel) (by decide +kernel) (by decide +kernel), _, rfl, b, p, d, l, t, m, y, o, k, f, U, n, rfl, ht, hy, fun i hi _ H1 s1 => ?_, qe⟩
    refine ⟨b, p, d, l, i, m, y, o, k, f, U, n, rfl, hy.same s1, fun a H2 s2 na _ ea => ?_⟩
    have s12 := s1.trans s2
    refine ⟨a, _, rfl, .inl (SqL.of ea), fun r nr => ?_⟩
    exact q i hi r _ (s12.free nr) (s12.trans (Same.new nr)) upd_same
theorem ok_un (D : Dm K Cv "undo" "Diary.undo" s_Diary_undo) (Tv : DvT K Cv) (T : NzT K mg CZ) (nc : Cx1 P w K mg base 1 CZ "NoDeed.__init__" s_NoDeed_init ["self"] (spNz CZ)) (g_len : mg "len" = none) : Cm P w K mg base (L2.CX P w) 3 Cv "undo" "Diary.undo" s_Diary_undo ["self"] (spUn C Cc Cv CZ) := by
  refine cmX (k := 2) D c_Diary_undo (fun vs H Q E h => ?_) fun f cdv A outer s H vs Q E hr h => ?_
  · obtain ⟨b, p, d, l, m, y, o, k, f, U, n, rfl, _⟩ := h
    rfl
  · obtain ⟨b, p, d, l, m, y, o, k, f, U, n, rfl, hy, hn, q0, q⟩ := h
    obtain ⟨dx, eb⟩ := hy.ob
    obtain ⟨us, el, du, lu⟩ := hy.de
    refine ⟨_, (pss_cons (ps_if (pt_cmpR op_eq (pe_callB call_len_seq rfl g_len (by decide +kernel) (pa_cons (pe_fld (pv 0) rfl) pa_nil)) pe_int (nomark _)) (pss_one (ps_raise rfl (takes_of (E := E) rfl rfl rfl rfl) (mk_nz T nc (hr.mono (by decide)) rfl))) pss_nil)
      (pss_cons (ps_set (i := 1) c_Diary_undo.nd rfl (.inl rfl) (pe_bm0 PySem.F.plainAttrs_list PySem.F.slot_list_pop PySem.F.type_list_pop mt_pop (pe_fld (pv 0) rfl)))
      (pss_one (ps_for (passes_of rfl) rfl (pi_list (pv 1)) (pg_tup rfl (pgs_cons (pg_name (i := 2) c_Diary_undo.nd rfl (.inl rfl)) (pgs_cons (pg_name (i := 3) c_Diary_undo.nd rfl (.inl rfl)) pgs_nil))) (pss_one (ps_dput (hu1 hr) (pe_fld (pv 0) rfl) (pv 2) (pv 3) rfl)))))), ?_⟩
    refine ⟨_, rfl, b, Cv, dx, _, _, rfl, eb, Tv.cl, Tv.n3, dv_deeds _ _ _, l, us, rfl, .inl (SqL.of el), rfl, _, rfl, ?_⟩
    rcases List.eq_nil_or_concat U with rfl | ⟨U', dd, rfl⟩
    · have e0 : us = [] := by
        have := du.len
        exact List.eq_nil_of_length_eq_zero this
      subst e0
      exact iteT (rd_nz (q0 rfl))
    · rw [List.concat_eq_append] at *
      obtain ⟨us', v, rfl, du', r⟩ := du.last
      refine no' ?_ ?_
      · simp
        omega
      obtain ⟨ldd, q⟩ := q U' dd rfl
      refine ⟨_, rfl, b, Cv, dx, _, _, rfl, eb, Tv.cl, Tv.n3, dv_deeds _ _ _, .inl ⟨rfl, _, SqL.of el⟩, l, _, v, rfl, rfl, el, by simp, ?_⟩
      rw [List.dropLast_concat]
      obtain ⟨h1, b1, qd, vs', rfl, nq, eq, hrows⟩ := hy.back el
      generalize L2.upd H l _ = H1 at *
      obtain ⟨dx1, eb1⟩ := h1.ob
      obtain ⟨us1, el1⟩ := h1.lst
      obtain ⟨kvs1, ed1, _⟩ := h1.kp
      have neD : ∀ {c : Addr} {o : HO}, H1 c = some o → (∀ kvs, o ≠ .dK kvs) → c ≠ d := fun e n w => by
        rw [w, ed1] at e
        exact n _ (Option.some.inj e).symm
      refine ⟨_, rfl, qd, rfl, ⟨_, SqL.of eq⟩, for_list (K := K) (a := qd) (xs := vs') (fun j σ Hx => ∃ v2 v3 : Option V, σ = [some (.ref b), some (.ref qd), v2, v3] ∧ B2 d l H1 Hx ∧ Dy C Cc Cv Hx b p d l m y o k (undF (dd.take j) f) U' (n + j)) ⟨_, _, rfl, B2.same (Same.refl _), h1⟩ ?_ ?_ ?_⟩
      · rintro j σ Hx _ ⟨_, _, _, bx, _⟩
        exact SqL.of (bx _ _ (neD eq fun _ w => nomatch w) nq eq)
      · rintro j x σ Hx hj ⟨v2, v3, rfl, bx, hx⟩
        obtain ⟨r, hr1, t, a, rfl, et, na, ea, zr⟩ := hrows.get hj
        have lj : j < dd.length := (List.getElem?_eq_some_iff.mp hr1).1
        have nt : t ≠ l := fun w => by rw [w, el1] at et; cases et
        have etx := bx _ _ (neD et fun _ w => nomatch w) nt et
        have eax := bx _ _ (neD ea fun _ w => nomatch w) na ea
        refine ⟨t, _, rfl, SqT.of etx, rfl, _, _, rfl, _, _, rfl, rfl, ?_⟩
        obtain ⟨dx2, eb2⟩ := hx.ob
        obtain ⟨kvs, ed, _, lk⟩ := hx.kp
        refine ⟨_, rfl, _, rfl, b, Cv, dx2, _, _, rfl, eb2, Tv.cl, Tv.n2, dv_kept _ _ _, _, rfl, d, _, rfl, DPut.k (k := .inl r.1) ed (Nat.lt_of_le_of_lt (Nat.le_trans lk (show _ ≤ 10000 by omega)) (by decide)), ?_⟩
        obtain ⟨h7, b7⟩ := hx.put ed na eax zr
        refine ⟨_, _, rfl, bx.trans b7, ?_⟩
        rw [undF_take hr1]
        exact h7
      · rintro σ Hx ⟨v2, v3, rfl, bx, hx⟩
        have hl := hrows.len
        rw [hl, List.take_length] at hx
        exact q Hx (b1.trans bx) hx
end
/-! ### which days have notes -/
theorem flt_range {α β : Type} (d : α) (B : α → Bool) (f : α → β) : ∀ xs : List α, ((List.range xs.length).filter fun i => B (xs.getD i d)).map (fun i => f (xs.getD i d)) = (xs.filter B).map f
  | [] => rfl
  | x :: xs => by
    have ih := flt_range d B f xs
    rw [List.length_cons, List.range_succ_eq_map, List.filter_cons, List.filter_map]
    have e0 : ((x :: xs).getD 0 d) = x := rfl
    have e1 : ((fun i => B ((x :: xs).getD i d)) ∘ Nat.succ) = fun i => B (xs.getD i d) := rfl
    rw [e1]
    cases hb : B x with
    | true =>
      rw [e0, if_pos hb, List.map_cons, List.map_map, List.filter_cons, if_pos hb, List.map_cons]
      congr 1
    | false =>
      rw [e0, if_neg (by rw [hb]; simp), List.map_map, List.filter_cons, if_neg (by rw [hb]; simp)]
      exact ih
theorem lt_same : ∀ (u v : List Int), (u.Pairwise fun x y => x < y) → (v.Pairwise fun x y => x < y) → (∀ x, x ∈ u ↔ x ∈ v) → u = v
  | [], v, _, _, h => by
    cases v with
    | nil => rfl
    | cons y v => exact absurd ((h y).mpr List.mem_cons_self) (by simp)
  | x :: u, [], _, _, h => absurd ((h x).mp List.mem_cons_self) (by simp)
  | x :: u, y :: v, hu, hv, h => by
    rw [List.pairwise_cons] at hu hv
    have e : x = y := by
      rcases List.mem_cons.mp ((h x).mp List.mem_cons_self) with e | hx
      · exact e
      rcases List.mem_cons.mp ((h y).mpr List.mem_cons_self) with e | hy
      · exact e.symm
      have h1 := hv.1 x hx
      have h2 := hu.1 y hy
      omega
    subst e
    rw [lt_same u v hu.2 hv.2 fun z => ⟨fun hz => ?_, fun hz => ?_⟩]
    · rcases List.mem_cons.mp ((h z).mp (List.mem_cons_of_mem _ hz)) with e | h'
      · have := hu.1 z hz
        omega
      · exact h'
    · rcases List.mem_cons.mp ((h z).mpr (List.mem_cons_of_mem _ hz)) with e | h'
      · have := hv.1 z hz
        omega
      · exact h'
/-- the days with notes, rising -/
def NzL (f : Int → List Str) (ks : List Int) : Prop := (ks.Pairwise fun x y => x < y) ∧ ∀ x, x ∈ ks ↔ f x ≠ []
theorem NzL.uniq {f : Int → List Str} {ks ls : List Int} (h : NzL f ks) (h' : NzL f ls) : ks = ls := lt_same _ _ h.1 h'.1 fun x => (h.2 x).trans (h'.2 x).symm
theorem lt_of_le {xs : List Int} (nd : xs.Nodup) (h : xs.Pairwise fun x y => x ≤ y) : xs.Pairwise fun x y => x < y := (nd.and h).imp fun {a b} ⟨n, l⟩ => by
  have : a ≠ b := n
  omega
theorem NzL.of {f : Int → List Str} {xs : List Int} (nd : xs.Nodup) (h : xs.Pairwise fun x y => x ≤ y) (hx : ∀ x, f x ≠ [] → x ∈ xs) : NzL f (xs.filter fun x => decide (f x ≠ [])) := by
  refine ⟨(lt_of_le nd h).filter _, fun x => ?_⟩
  rw [List.mem_filter]
  exact ⟨fun q => of_decide_eq_true q.2, fun q => ⟨hx x q, decide_eq_true q⟩⟩
/-- the days of a dict's keys -/
theorem KR.keys {H : Hp} {l : Addr} : ∀ {kvs : List (L2.Key × V)} {f : Int → List Str}, (∀ kv ∈ kvs, KvR H l f kv) → (kvs.map (·.1)).Nodup →
    ∃ xs : List Int, xs.Nodup ∧ All2 (fun kv x => kv.1 = .inl x ∧ ∃ a, kv.2 = .ref a ∧ a ≠ l ∧ H a = some (.lst ((f x).map V.str)) ∧ Sz 100 x) kvs xs
  | [], f, _, _ => ⟨[], by simp, .nil⟩
  | kv :: kvs, f, h, nd => by
    rw [List.map_cons, List.nodup_cons] at nd
    obtain ⟨xs, nx, a2⟩ := KR.keys (fun q hq => h q (List.mem_cons_of_mem _ hq)) nd.2
    obtain ⟨x, a, rfl, n, ea, z⟩ := h kv List.mem_cons_self
    refine ⟨x :: xs, List.nodup_cons.mpr ⟨fun hx => nd.1 ?_, nx⟩, .cons ⟨rfl, a, rfl, n, ea, z⟩ a2⟩
    obtain ⟨i, hi⟩ := List.getElem?_of_mem hx
    have hl := a2.len
    have hlt : i < kvs.length := by
      have := (List.getElem?_eq_some_iff.mp hi).1
      omega
    obtain ⟨y, hy, e, _⟩ := a2.get (List.getElem?_eq_getElem hlt)
    rw [hi] at hy
    cases hy
    exact List.mem_map.mpr ⟨_, List.getElem_mem hlt, e⟩
theorem keys_all {H : Hp} {l : Addr} {kvs : List (L2.Key × V)} {f : Int → List Str} (kr : KR H l kvs f) {xs : List Int} (a2 : All2 (fun kv x => kv.1 = .inl x ∧ ∃ a, kv.2 = V.ref a ∧ a ≠ l ∧ H a = some (.lst ((f x).map V.str)) ∧ Sz 100 x) kvs xs) : ∀ x, f x ≠ [] → x ∈ xs := fun x hx => by
  cases hv : valV kvs (.inl x) with
  | none => exact absurd (kr.no x hv) hx
  | some v =>
    obtain ⟨i, hi⟩ := List.getElem?_of_mem (valV_mem hv)
    obtain ⟨y, hy, e, _⟩ := a2.get hi
    cases e
    exact List.mem_of_getElem? hy
theorem keys_vals {H : Hp} {l : Addr} {kvs : List (L2.Key × V)} {f : Int → List Str} {xs : List Int} (a2 : All2 (fun kv x => kv.1 = .inl x ∧ ∃ a, kv.2 = V.ref a ∧ a ≠ l ∧ H a = some (.lst ((f x).map V.str)) ∧ Sz 100 x) kvs xs) : kvs.map (fun kv => kV kv.1) = xs.map V.int := by
  induction a2 with
  | nil => rfl
  | cons r _ ih =>
    rw [List.map_cons, List.map_cons, ih, r.1]
    rfl
theorem Dy.nz {C Cc Cv : Addr} {H : Hp} {b p d l : Addr} {m y o k : Rat} {f : Int → List Str} {U : List (List Row)} {n : Nat} (h : Dy C Cc Cv H b p d l m y o k f U n) : ∃ ks, NzL f ks ∧ (∀ x ∈ ks, Sz 100 x) ∧ ks.length ≤ n := by
  obtain ⟨kvs, ed, kr, lk⟩ := h.kp
  obtain ⟨xs, nx, a2⟩ := KR.keys kr.ats kr.nd
  have pm : (xs.mergeSort fun a b => decide (a ≤ b)).Perm xs := List.mergeSort_perm _ _
  have so : (xs.mergeSort fun a b => decide (a ≤ b)).Pairwise fun a b => decide (a ≤ b) = true := List.pairwise_mergeSort (fun a b c h1 h2 => by simp at *; omega) (fun a b => by simp; omega) xs
  refine ⟨_, NzL.of (pm.nodup_iff.mpr nx) (so.imp fun h => of_decide_eq_true h) fun x hx => pm.mem_iff.mpr (keys_all kr a2 x hx), fun x hx => ?_, ?_⟩
  · have hm := pm.mem_iff.mp (List.mem_filter.mp hx).1
    obtain ⟨i, hi⟩ := List.getElem?_of_mem hm
    have hl := a2.len
    have hlt : i < kvs.length := by
      have := (List.getElem?_eq_some_iff.mp hi).1
      omega
    obtain ⟨y, hy, _, _, _, _, _, z⟩ := a2.get (List.getElem?_eq_getElem hlt)
    rw [hi] at hy
    cases hy
    exact z
  · have h1 := List.length_filter_le (fun x => decide (f x ≠ [])) (xs.mergeSort fun a b => decide (a ≤ b))
    have h2 := pm.length_eq
    have h3 := a2.len
    omega
def dtT (m y o k : Rat) (x : Int) : Str := daS (dtY m y o k x) (dtN m y o k x) (dtD m o x) (dtO m y o k x)
theorem dtD_b {m y o : Rat} (f : Fit m y) (x : Int) : 1 ≤ dtD m o x ∧ dtD m o x ≤ m.ceil := by
  have h1 := st_ma (o := o) f.pos x
  have h2 := ma_st (o := o) f.pos x
  have h3 := st_w (o := o) f (maF m o x)
  unfold dtD
  omega
theorem dtN_b (m y o k : Rat) (x : Int) : 1 ≤ dtN m y o k x ∧ dtN m y o k x ≤ 12 := by
  unfold dtN
  omega
theorem Good.zdt {m y o k : Rat} (g : Good m y o k) {x : Int} (z : Sz 100 x) : Sz 400 (dtY m y o k x) ∧ Sz 400 (dtN m y o k x) ∧ Sz 400 (dtD m o x) := by
  refine ⟨(g.zdY z (by decide)).mono (by decide), ?_, ?_⟩
  · have := dtN_b m y o k x
    exact Nat.lt_of_lt_of_le (show (dtN m y o k x).natAbs < 2 ^ 5 by omega) (Nat.pow_le_pow_right (by decide) (by decide))
  · have h1 := dtD_b (o := o) g.fit x
    have zc : Sz 70 m.ceil := Sz.ceil g.zm
    refine Sz.mono (n := 70) ?_ (by decide)
    unfold Sz at *
    omega
/-- what is told of a year -/
def ndL (m y o k : Rat) (f : Int → List Str) (a : Int) (ks : List Int) : List (Str × Nat) := (ks.filter fun x => decide (dtY m y o k x = a)).map fun x => (dtT m y o k x, (f x).length)
def TiR (H : Hp) (u : V) (r : Str × Nat) : Prop := ∃ t : Addr, u = .ref t ∧ H t = some (.tup [.str r.1, .int (r.2 : Int)])
def spNdd (C Cc Cv : Addr) : Sp := fun vs H Q _ => ∃ (b p d l : Addr) (a : Int) (ks : List Int) (m y o k : Rat) (f : Int → List Str) (U : List (List Row)) (n : Nat), vs = [.ref b, .int a] ∧ Dy C Cc Cv H b p d l m y o k f U n ∧ n ≤ 9000 ∧ NzL f ks ∧
  ∀ r us H', H r = none → Same H H' → H' r = some (.lst us) → All2 (TiR H') us (ndL m y o k f a ks) → Q (.ref r) H'
def inA (f : Int → List Str) (ks : List Int) : Nat := (ks.map fun x => (f x).length).sum
def spIa (C Cc Cv : Addr) : Sp := fun vs H Q _ => ∃ (b p d l : Addr) (ks : List Int) (m y o k : Rat) (f : Int → List Str) (U : List (List Row)) (n : Nat), vs = [.ref b] ∧ Dy C Cc Cv H b p d l m y o k f U n ∧ n ≤ 9000 ∧ NzL f ks ∧
  ∀ H', Same H H' → Q (.int (inA f ks : Nat)) H'
theorem sum_nz {f : Int → List Str} : ∀ xs : List Int, (xs.map fun x => (f x).length).sum = ((xs.filter fun x => decide (f x ≠ [])).map fun x => (f x).length).sum
  | [] => rfl
  | x :: xs => by
    rw [List.map_cons, List.sum_cons, sum_nz xs, List.filter_cons]
    by_cases h : f x = []
    · rw [if_neg (by simpa using h), h]
      simp
    · rw [if_pos (by simpa using h), List.map_cons, List.sum_cons]
theorem inA_of {f : Int → List Str} {xs ks : List Int} (nx : xs.Nodup) (hx : ∀ x, f x ≠ [] → x ∈ xs) (nz : NzL f ks) : (xs.map fun x => (f x).length).sum = inA f ks := by
  have pm : (xs.mergeSort fun a b => decide (a ≤ b)).Perm xs := List.mergeSort_perm _ _
  have so : (xs.mergeSort fun a b => decide (a ≤ b)).Pairwise fun a b => decide (a ≤ b) = true := List.pairwise_mergeSort (fun a b c h1 h2 => by simp at *; omega) (fun a b => by simp; omega) xs
  have e := (NzL.of (pm.nodup_iff.mpr nx) (so.imp fun h => of_decide_eq_true h) fun x hq => pm.mem_iff.mpr (hx x hq)).uniq nz
  unfold inA
  rw [← e, ← sum_nz]
  exact ((pm.map _).sum_nat).symm
theorem map_range {β : Type} (d : Int) (g : Int → β) (xs : List Int) : (List.range xs.length).map (fun i => g (xs.getD i d)) = xs.map g := by
  have h := flt_range d (fun _ => true) g xs
  have e1 : ∀ {γ : Type} (l : List γ), l.filter (fun _ => true) = l := fun l => List.filter_eq_self.mpr fun _ _ => rfl
  rw [e1, e1] at h
  exact h
theorem get_int {ns : List Int} {i : Nat} {v : V} (h : (ns.map V.int)[i]? = some v) (hi : i < ns.length) : v = V.int (ns.getD i 0) ∧ ns.getD i 0 ∈ ns := by
  have e := List.getElem?_eq_getElem hi
  rw [List.getElem?_map, e] at h
  rw [List.getD_eq_getElem?_getD, e]
  exact ⟨(Option.some.inj h).symm, List.getElem_mem hi⟩
theorem sum_cast (g : Int → Nat) : ∀ xs : List Int, (xs.map fun x => (g x : Int)).sum = (((xs.map g).sum : Nat) : Int)
  | [] => rfl
  | x :: xs => by
    rw [List.map_cons, List.sum_cons, sum_cast g xs, List.map_cons, List.sum_cons]
    omega
abbrev LENQ (K : PySem.W.Frag) : List V → Hp → VK → Prop := fun xs H Q => ∃ p ys, xs = [.ref p] ∧ (SqL K H p ys ∨ SqT K H p ys) ∧ Q (.int ys.length) H
abbrev TE_Diary_in_all1 (K : PySem.W.Frag) : TE := tCB (LENQ K) (tCons (tVar 1) tNil)
abbrev TT_Diary_noted1 (K : PySem.W.Frag) (C Cc _Cv _Cd : Addr) : TT := tTest (tOp rEq (tCall (spYw C Cc) [] E0 (tCons (tFld K (tVar 0) "calendar") (tCons (tVar 4) tNil))) (tVar 1))
abbrev TE_Diary_noted1 (_K : PySem.W.Frag) (_C _Cc _Cv _Cd : Addr) : TE := tVar 4
abbrev TE_Diary_noted2 (K : PySem.W.Frag) (C Cc Cv _Cd : Addr) : TE := tTup (tCons (tVar 4) (tCons (tCB (LENQ K) (tCons (tMeth Cv "texts_of" (spTx C Cc Cv) [] E0 (tVar 0) (tCons (tVar 4) tNil)) tNil)) tNil))
abbrev TT_Diary_noted3 (_K : PySem.W.Frag) (_C _Cc _Cv _Cd : Addr) : TT := tTest (tOp (rI0 fun i j => .bl (decide (j < i))) (tVar 5) (tC (.int 0)))
abbrev TE_Diary_noted3 (K : PySem.W.Frag) (C Cc _Cv Cd : Addr) : TE := tTup (tCons (tCB (rSA Cd (spDaS Cd) E0) (tCons (tCall (spDateOf C Cc Cd) [] E0 (tCons (tFld K (tVar 0) "calendar") (tCons (tVar 4) tNil))) tNil)) (tCons (tVar 5) tNil))
theorem flt_two (ns : List Int) (A B : Int → Bool) : (ns.filter A).filter B = (ns.filter B).filter A := by
  rw [List.filter_filter, List.filter_filter]
  refine List.filter_congr fun x _ => ?_
  rw [Bool.and_comm]
theorem NzL.pick {f : Int → List Str} {ks ns : List Int} (nz : NzL f ks) (nd : ns.Nodup) (so : ns.Pairwise fun x y => x ≤ y) (hx : ∀ x, f x ≠ [] → x ∈ ns) (A : Int → Bool) : (ns.filter A).filter (fun x => decide (f x ≠ [])) = ks.filter A := by
  rw [flt_two, (NzL.of nd so hx).uniq nz]
section
variable {P : Program} {w : World} {K : PySem.W.Frag} {mg : Str → Option Value} {base : Heap} {C Cc Cd Cv : Addr}
theorem ok_ia (D : Dm K Cv "in_all" "Diary.in_all" s_Diary_in_all) (T : DvT K Cv) (g_sum : mg "sum" = none) (g_len : mg "len" = none) : Cm P w K mg base CX0 1 Cv "in_all" "Diary.in_all" s_Diary_in_all ["self"] (spIa C Cc Cv) := by
  refine cm0 (k := 0) D c_Diary_in_all (fun vs H Q E h => ?_) fun f cdv A outer s H vs Q E hr h => ?_
  · obtain ⟨b, p, d, l, ks, m, y, o, k, f, U, n, rfl, _⟩ := h
    rfl
  · obtain ⟨b, p, d, l, ks, m, y, o, k, f, U, n, rfl, hy, hn, nz, q⟩ := h
    obtain ⟨dx, eb⟩ := hy.ob
    obtain ⟨kvs, ed, kr, lk⟩ := hy.kp
    obtain ⟨us, el⟩ := hy.lst
    obtain ⟨xs, nx, a2⟩ := KR.keys kr.ats kr.nd
    have lx := a2.len
    refine ⟨_, (pss_one (ps_ret (pe_callB (cr_sum rfl) rfl g_sum (by decide +kernel) (pa_cons (pe_lock (pe_lc (own := [("texts", 1)]) (g := gName 1) (tt := tYes) (te := TE_Diary_in_all1 K) rfl c_Diary_in_all.nd (pi_values (pe_fld (pv 0) rfl)) (blkOk_by (N := ["self", "texts"]) (sc := defScope s_Diary_in_all) (by decide +kernel)) (fun _ _ _ _ _ => (pg_name (i := 1) c_Diary_in_all.nd rfl (.inl rfl))) (fun _ _ _ _ _ => by exact pts_nil) (fun _ _ _ _ _ => by exact (pe_callB call_len_seq rfl g_len (by decide +kernel) (pa_cons (pv 1) pa_nil))))) pa_nil)))), ?_⟩
    refine ⟨d, _, ed, trivial, fun od => ?_⟩
    have bk : ∀ {c : Addr} {o : HO}, (∀ kvs, o ≠ .dK kvs) → H c = some o → (L2.upd H d (.frz od (.dK kvs))) c = some o := fun n e => (upd_ne (fun w => by rw [w, ed] at e; exact n _ (Option.some.inj e).symm)).trans e
    have fw : ∀ c o, c ≠ d → H c = some o → (L2.upd H d (.frz od (.dK kvs))) c = some o := fun c o n e => (upd_ne n).trans e
    have fn : ∀ c, (L2.upd H d (.frz od (.dK kvs))) c = none → H c = none ∧ c ≠ d := fun c e => by
      by_cases n : c = d
      · rw [n, upd_same] at e
        cases e
      · rw [upd_ne n] at e
        exact ⟨e, n⟩
    have ef := upd_same (H := H) (a := d) (o := .frz od (.dK kvs))
    generalize hHf : L2.upd H d (.frz od (.dK kvs)) = Hf at *
    refine ⟨_, rfl, b, Cv, dx, _, _, rfl, bk (fun _ w => nomatch w) eb, T.cl, T.n2, dv_kept _ _ _, d, od, _, rfl, ef, fun D0 hD => ?_⟩
    refine lc_ints (walk_values (d := d) (o := od) (kvs := kvs)) (fun _ _ _ _ y => by rw [y.1]; exact Same.refl _) hD (Nat.lt_of_le_of_lt (Nat.le_trans lk hn) (by decide)) (fun i => ((f (xs.getD i 0)).length : Int)) (fun H' s' => s' _ _ ef) ?_ ?_
    · rintro i v Ha Hb R hi sa ⟨rfl, key, hk⟩ k1
      obtain ⟨x, hx, _, a, e2, na, ea, _⟩ := a2.get hk
      dsimp only at e2
      subst e2
      refine ⟨rfl, ?_⟩
      refine ⟨_, rfl, a, _, rfl, .inl (SqL.of (sa _ _ (bk (fun _ w => nomatch w) ea))), ?_⟩
      have e9 : xs.getD i 0 = x := by rw [List.getD_eq_getElem?_getD, hx]; rfl
      rw [e9] at k1
      rw [List.length_map]
      exact k1 _ (Same.refl _)
    · intro Hz ez sz
      refine ⟨sz _ _ ef, ?_⟩
      have nDd : D0 ≠ d := (fn _ hD).2
      refine ⟨D0, _, rfl, SqL.of ((upd_ne nDd).trans ez), ?_⟩
      rw [lx, map_range 0 (fun x => ((f x).length : Int)) xs, sum_cast fun x => (f x).length, inA_of nx (keys_all kr a2) nz]
      refine q _ fun c o' e => ?_
      by_cases hc : c = d
      · rw [hc, upd_same]
        rw [hc, ed] at e
        exact e
      · rw [upd_ne hc]
        exact sz _ _ (fw c o' hc e)
theorem ok_nd82 (D : Dm K Cv "noted" "Diary.noted" s_Diary_noted) (T : DvT K Cv) (f_year_with : Ca P w K mg base CX0 10 "year_with" s_year_with [] ["calendar", "day"] (spYw C Cc)) (g_sorted : mg "sorted" = none) (g_list : mg "list" = none) (g_len : mg "len" = none) (g_str : mg "str" = none) (f_date_of : Ca P w K mg base CX0 10 "date_of" s_date_of [] ["calendar", "day"] (spDateOf C Cc Cd)) (f_Date_str : Cm P w K mg base CX0 3 Cd "__str__" "Date.__str__" s_Date_str ["self"] (spDaS Cd))
    (f_texts_of : Cm P w K mg base CX0 1 Cv "texts_of" "Diary.texts_of" s_Diary_texts_of ["self", "day"] (spTx C Cc Cv)) : Cm P w K mg base CX0 11 Cv "noted" "Diary.noted" s_Diary_noted ["self", "year"] (spNdd C Cc Cv) := by
  refine cm0 (k := 10) D c_Diary_noted (fun vs H Q E h => ?_) fun f cdv A outer s H vs Q E hr h => ?_
  · obtain ⟨b, p, d, l, a, ks, m, y, o, k, f, U, n, rfl, _⟩ := h
    rfl
  · obtain ⟨b, p, d, l, a, ks, m, y, o, k, f, U, n, rfl, hy, hn, nz, q⟩ := h
    obtain ⟨dx, eb⟩ := hy.ob
    obtain ⟨kvs, ed, kr, lk⟩ := hy.kp
    obtain ⟨xs, nx, a2⟩ := KR.keys kr.ats kr.nd
    have lx := a2.len
    have ev := keys_vals a2
    refine ⟨_, (pss_cons (ps_setLc (i := 2) (own := [("day", 4)]) (g := gName 4) (tt := TT_Diary_noted1 K C Cc Cv Cd) (te := TE_Diary_noted1 K C Cc Cv Cd) rfl c_Diary_noted.nd rfl rfl (sw_true rfl rfl rfl (by decide +kernel)) (pi_list (pe_callB cr_sortedI rfl g_sorted (by decide +kernel) (pa_cons (pe_callTy (call_listD rfl) rfl g_list (by decide +kernel) (pa_cons (pe_fld (pv 0) rfl) pa_nil)) pa_nil))) (blkOk_by (N := ["self", "year", "days", "counted", "day", "many"]) (sc := defScope s_Diary_noted) (by decide +kernel)) (fun _ _ _ _ _ => (pg_name (i := 4) c_Diary_noted.nd rfl (.inl rfl))) (fun _ _ _ _ _ => by exact pts_one (pt_cmpR op_eq (pe_ca f_year_with b_year_with hr (by decide) pass0 rfl (pa_cons (pe_fld (pv 0) rfl) (pa_cons (pv 4) pa_nil))) (pv 1) (nomark _))) (fun _ _ _ _ _ => by exact (pv 4)))
      (pss_cons (ps_setLc (i := 3) (own := [("day", 4)]) (g := gName 4) (tt := tYes) (te := TE_Diary_noted2 K C Cc Cv Cd) rfl c_Diary_noted.nd rfl rfl (sw_true rfl rfl rfl (by decide +kernel)) (pi_list (pv 2)) (blkOk_by (N := ["self", "year", "days", "counted", "day", "many"]) (sc := defScope s_Diary_noted) (by decide +kernel)) (fun _ _ _ _ _ => (pg_name (i := 4) c_Diary_noted.nd rfl (.inl rfl))) (fun _ _ _ _ _ => by exact pts_nil) (fun _ _ _ _ _ => by exact (pe_tup (pa_cons (pv 4) (pa_cons (pe_callB call_len_seq rfl g_len (by decide +kernel) (pa_cons (pe_cm f_texts_of b_Diary_texts_of hr (by decide) pass0 (pv 0) (pa_cons (pv 4) pa_nil)) pa_nil)) pa_nil)))))
      (pss_one (ps_ret (pe_lc (own := [("day", 4), ("many", 5)]) (g := gTup K 2 (gCons (gName 4) (gCons (gName 5) gNil))) (tt := TT_Diary_noted3 K C Cc Cv Cd) (te := TE_Diary_noted3 K C Cc Cv Cd) rfl c_Diary_noted.nd (pi_list (pv 3)) (blkOk_by (N := ["self", "year", "days", "counted", "day", "many"]) (sc := defScope s_Diary_noted) (by decide +kernel)) (fun _ _ _ _ _ => (pg_tup rfl (pgs_cons (pg_name (i := 4) c_Diary_noted.nd rfl (.inl rfl)) (pgs_cons (pg_name (i := 5) c_Diary_noted.nd rfl (.inl rfl)) pgs_nil)))) (fun _ _ _ _ _ => by exact pts_one (pt_cmpR op_gt (pv 5) pe_int (nomark _))) (fun _ _ _ _ _ => by exact (pe_tup (pa_cons (pe_callTy (call_str_SA f_Date_str b_Date_str (hr.mono (by decide)) pass0) rfl g_str (by decide +kernel) (pa_cons (pe_ca f_date_of b_date_of hr (by decide) pass0 rfl (pa_cons (pe_fld (pv 0) rfl) (pa_cons (pv 4) pa_nil))) pa_nil)) (pa_cons (pv 5) pa_nil))))))))), ?_⟩
    refine ⟨_, rfl, b, Cv, dx, _, _, rfl, eb, T.cl, T.n2, dv_kept _ _ _, d, kvs, rfl, .inl ed, fun p1 n1 => ?_⟩
    rw [ev]
    have s1 := Same.new (o := .lst (xs.map V.int)) n1
    refine ⟨p1, xs, rfl, SqL.of upd_same, fun ns p2 pm so n2 => ?_⟩
    have s2 := s1.trans (Same.new (o := .lst (ns.map V.int)) n2)
    have e2 := upd_same (H := L2.upd H p1 (.lst (xs.map V.int))) (a := p2) (o := .lst (ns.map V.int))
    generalize L2.upd (L2.upd H p1 (.lst (xs.map V.int))) p2 _ = H2 at *
    have zns : ∀ x ∈ ns, Sz 100 x := fun x hx => by
      obtain ⟨i, hi⟩ := List.getElem?_of_mem (pm.mem_iff.mp hx)
      have hlt : i < kvs.length := by
        have := (List.getElem?_eq_some_iff.mp hi).1
        omega
      obtain ⟨z, hz, _, _, _, _, _, zz⟩ := a2.get (List.getElem?_eq_getElem hlt)
      rw [hi] at hz
      cases hz
      exact zz
    have lns : ns.length ≤ 9000 := by
      rw [pm.length_eq]
      omega
    have nns : ns.Nodup := pm.nodup_iff.mpr nx
    have kns : ∀ x, f x ≠ [] → x ∈ ns := fun x hx => pm.mem_iff.mpr (keys_all kr a2 x hx)
    refine ⟨p2, rfl, ⟨_, SqL.of e2⟩, fun D nD => ?_⟩
    have wl := walk_list (K := K) (a := p2) (xs := ns.map V.int)
    rw [List.length_map] at wl
    refine lc_filt wl yAt_same nD (Nat.lt_of_le_of_lt lns (by decide)) (fun i => ns.getD i 0) (fun i => decide (dtY m y o k (ns.getD i 0) = a)) (fun H' s' => SqL.of (s' _ _ e2)) ?_ ?_
    · rintro i v Ha Hb R N hi sa ⟨rfl, hv⟩ kT kF
      obtain ⟨rfl, hm⟩ := get_int hv hi
      have hz := zns _ hm
      refine ⟨rfl, ?_⟩
      refine ⟨_, rfl, b, Cv, dx, _, _, rfl, sa _ _ (s2 _ _ eb), T.cl, T.n1, dv_cal _ _ _, _, rfl, p, _, m, y, o, k, rfl, hy.c.same (s2.trans sa), hy.g, hz.mono (by decide), fun H3 s3 => ?_⟩
      refine ⟨_, rfl, rfl, _, rfl, ?_⟩
      by_cases hB : dtY m y o k (ns.getD i 0) = a
      · rw [decide_eq_true (congrArg V.int hB)]
        exact iteT ⟨_, rfl, kT (decide_eq_true hB) _ s3⟩
      · rw [decide_eq_false (fun w => hB (V.int.inj w))]
        exact iteF (kF (decide_eq_false hB) _ s3)
    intro H3 e3 s3
    rw [flt_range 0 (fun x => decide (dtY m y o k x = a)) (fun x => x), List.map_id'] at e3
    have zzs : ∀ x ∈ ns.filter fun x => decide (dtY m y o k x = a), Sz 100 x := fun x hx => zns x (List.mem_filter.mp hx).1
    have lzs : (ns.filter fun x => decide (dtY m y o k x = a)).length ≤ 9000 := Nat.le_trans (List.length_filter_le _ _) lns
    have epk := nz.pick nns so kns (fun x => decide (dtY m y o k x = a))
    generalize ns.filter (fun x => decide (dtY m y o k x = a)) = zs at *
    have s23 := s2.trans s3
    refine ⟨_, rfl, D, rfl, ⟨_, SqL.of e3⟩, fun D2 nD2 => ?_⟩
    have wl2 := walk_list (K := K) (a := D) (xs := zs.map V.int)
    rw [List.length_map] at wl2
    refine lc_all wl2 yAt_same nD2 (Nat.lt_of_le_of_lt lzs (by decide)) (fun j v H' => ∃ (x : Int) (t : Addr), zs[j]? = some x ∧ v = V.ref t ∧ H' t = some (.tup [.int x, .int ((f x).length : Int)])) (fun j v H1 H2 s ⟨x, t, e1, e2, e3⟩ => ⟨x, t, e1, e2, s _ _ e3⟩) (fun j v H1 acc acc' hacc ⟨x, t, e1, e2, e3⟩ => ⟨x, t, e1, e2, (upd_ne (ne_of e3 hacc (by intro z; cases z))).trans e3⟩) (fun H' s' => SqL.of (s' _ _ e3)) ?_ ?_
    · rintro i v Ha Hb R hi sa ⟨rfl, hv⟩ k1
      have hzi := List.getElem?_eq_getElem hi
      rw [List.getElem?_map, hzi] at hv
      obtain rfl : v = V.int zs[i] := (Option.some.inj hv).symm
      refine ⟨rfl, ?_⟩
      refine ⟨_, rfl, _, rfl, b, dx, _, rfl, sa _ _ (s23 _ _ eb), dv_no _ _ _ (by decide +kernel) (by decide +kernel) (by decide +kernel), _, rfl, b, p, d, l, zs[i], m, y, o, k, f, U, n, rfl, hy.same (s23.trans sa), fun c H4 s4 nc _ ec => ?_⟩
      refine ⟨c, _, rfl, .inl (SqL.of ec), ?_⟩
      rw [List.length_map]
      refine ⟨(by show 2 ≤ sizeLine; decide), fun t nt => k1 _ _ (s4.trans (Same.new nt)) ⟨zs[i], t, hzi, rfl, upd_same⟩⟩
    intro us H4 hl4 e4 s4 hp4
    have s24 := s23.trans s4
    refine ⟨_, rfl, D2, rfl, ⟨_, SqL.of e4⟩, fun D3 nD3 => ?_⟩
    have wl3 := walk_list (K := K) (a := D2) (xs := us)
    rw [hl4] at wl3
    refine lc_it wl3 (fun i H' => ∃ us' : List V, H' D3 = some (.lst us') ∧ us'.length ≤ i ∧ Same H4 H' ∧ All2 (TiR H') us' (((zs.take i).filter fun x => decide (f x ≠ [])).map fun x => (dtT m y o k x, (f x).length))) ⟨[], upd_same, Nat.le_refl _, upd_keep nD3 (Same.refl H4), by simpa using All2.nil⟩ (fun i H' _ ⟨_, _, _, s, _⟩ => SqL.of (s _ _ e4)) ?_ ?_
    · rintro i v Ha Hb hi ⟨us', ea, la, sa, pa⟩ ⟨rfl, hv⟩
      obtain ⟨x, t, hx, rfl, et⟩ := hp4 i v hv
      have hxm : x ∈ zs := List.mem_of_getElem? hx
      have tk : zs.take (i + 1) = zs.take i ++ [x] := by
        rw [List.take_succ, hx]
        rfl
      rw [tk, List.filter_append, List.map_append]
      refine ⟨t, _, rfl, SqT.of (sa _ _ et), rfl, _, _, rfl, _, _, rfl, rfl, ?_⟩
      refine ⟨rfl, ?_⟩
      refine ⟨_, rfl, _, _, rfl, rfl, _, rfl, ?_⟩
      by_cases hB : f x = []
      · have e0 : decide ((0 : Int) < ((f x).length : Int)) = false := by rw [hB]; rfl
        rw [e0]
        refine iteF ⟨us', ea, by omega, sa, ?_⟩
        rw [List.filter_cons_of_neg (by simpa using hB)]
        simpa using pa
      · have e0 : decide ((0 : Int) < ((f x).length : Int)) = true := decide_eq_true (by
          have := List.length_pos_iff.mpr hB
          omega)
        rw [e0]
        refine iteT ?_
        obtain ⟨z1, z2, z3⟩ := hy.g.zdt (zzs x hxm)
        refine ⟨_, rfl, b, Cv, dx, _, _, rfl, sa _ _ (s24 _ _ eb), T.cl, T.n1, dv_cal _ _ _, _, rfl, p, x, m, y, o, k, rfl, hy.c.same (s24.trans sa), hy.g, (zzs x hxm).mono (by decide), fun r H5 nr s5 hda => ?_⟩
        obtain ⟨dxr, er⟩ := id hda
        refine sa_own er ⟨r, _, _, _, _, rfl, hda, z1, z2, z3, fun H6 s6 => ⟨_, rfl, _, rfl, ?_⟩⟩
        refine ⟨(by show 2 ≤ sizeLine; decide), fun t2 nt2 => ?_⟩
        have s56 := s5.trans s6
        have st := s56.trans (Same.new (o := .tup [.str (dtT m y o k x), .int ((f x).length : Int)]) nt2)
        have e7 := st _ _ ea
        refine ⟨us', e7, Nat.lt_of_le_of_lt (show us'.length ≤ 9000 by omega) (by decide), us' ++ [.ref t2], upd_same, by rw [List.length_append]; exact Nat.add_le_add_right la 1, upd_keep nD3 (sa.trans st), ?_⟩
        rw [List.filter_cons_of_pos (by simpa using hB)]
        have keep : ∀ u r0, TiR Hb u r0 → TiR (L2.upd (L2.upd H6 t2 (.tup [.str (dtT m y o k x), .int ((f x).length : Int)])) D3 (.lst (us' ++ [.ref t2]))) u r0 := fun u r0 ⟨c, e8, e9⟩ => ⟨c, e8, (upd_ne (ne_of e9 ea (by intro z; cases z))).trans (st _ _ e9)⟩
        refine (pa.mono keep).snoc ⟨t2, rfl, ?_⟩
        rw [upd_ne (ne_of_none (s56 _ _ ea) nt2).symm]
        exact upd_same
    · rintro H5 ⟨us', e5, _, s5, p5⟩
      rw [List.take_of_length_le (Nat.le_refl _), epk] at p5
      exact q D3 us' H5 (s24.free nD3) (s24.trans s5) e5 p5
end
/-! ### which of four kinds a kept error is -/
/-- the ten classes of errors, and what an error of the class D is an instance of -/
structure KdF (K : PySem.W.Frag) (mg : Str → Option Value) (D : Addr) (b0 b1 b2 b3 b4 b5 b6 b7 b8 b9 c0 c1 c2 c3 c4 c5 : Bool) (C_NoShare C_NoCalendar C_NoDate C_NoWheel C_NoName C_NoDay C_Taken C_NoText C_NoNote C_NoDeed : Addr) : Prop where
  xc : XcF K D
  m0 : mg "NoShare" = some (.ref C_NoShare)
  m1 : mg "NoCalendar" = some (.ref C_NoCalendar)
  m2 : mg "NoDate" = some (.ref C_NoDate)
  m3 : mg "NoWheel" = some (.ref C_NoWheel)
  m4 : mg "NoName" = some (.ref C_NoName)
  m5 : mg "NoDay" = some (.ref C_NoDay)
  m6 : mg "Taken" = some (.ref C_Taken)
  m7 : mg "NoText" = some (.ref C_NoText)
  m8 : mg "NoNote" = some (.ref C_NoNote)
  m9 : mg "NoDeed" = some (.ref C_NoDeed)
  k0 : PySem.W.kitOne K (.ref D) (.ref C_NoShare) = some b0
  k1 : PySem.W.kitOne K (.ref D) (.ref C_NoCalendar) = some b1
  k2 : PySem.W.kitOne K (.ref D) (.ref C_NoDate) = some b2
  k3 : PySem.W.kitOne K (.ref D) (.ref C_NoWheel) = some b3
  k4 : PySem.W.kitOne K (.ref D) (.ref C_NoName) = some b4
  k5 : PySem.W.kitOne K (.ref D) (.ref C_NoDay) = some b5
  k6 : PySem.W.kitOne K (.ref D) (.ref C_Taken) = some b6
  k7 : PySem.W.kitOne K (.ref D) (.ref C_NoText) = some b7
  k8 : PySem.W.kitOne K (.ref D) (.ref C_NoNote) = some b8
  k9 : PySem.W.kitOne K (.ref D) (.ref C_NoDeed) = some b9
  t0 : PySem.W.kitOne K (.ref D) (.type "ZeroDivisionError") = some c0
  t1 : PySem.W.kitOne K (.ref D) (.type "LookupError") = some c1
  t2 : PySem.W.kitOne K (.ref D) (.type "ValueError") = some c2
  t3 : PySem.W.kitOne K (.ref D) (.type "KeyError") = some c3
  t4 : PySem.W.kitOne K (.ref D) (.type "IndexError") = some c4
  t5 : PySem.W.kitOne K (.ref D) (.type "RuntimeError") = some c5

def spKi (D : Addr) (bs : List Bool) : Sp := fun vs H Q _ => ∃ (a d : Addr) (fs : List (Str × V)), vs = [.ref a] ∧ H a = some (KX a (.ref D) (some d)) ∧ H d = some (.xd fs) ∧ ∀ l H', Same H H' → H' l = some (.lst (bs.map V.bl)) → Q (.ref l) H'
def spKiN (D : Addr) (bs : List Bool) : Sp := fun vs H Q _ => ∃ a : Addr, vs = [.ref a] ∧ H a = some (KX a (.ref D) none) ∧ ∀ l H', Same H H' → H' l = some (.lst (bs.map V.bl)) → Q (.ref l) H'
def spKinds4 (CN CD CW CZ : Addr) : Sp := fun vs H Q E => spKi CN [false, false, false, false, false, false, false, true, false, false] vs H Q E ∨ spKi CD [false, false, true, false, false, false, false, false, false, false] vs H Q E ∨ spKi CW [false, false, false, false, false, false, false, false, true, false] vs H Q E ∨ spKiN CZ [false, false, false, false, false, false, false, false, false, true] vs H Q E
/-- what the top says of the four classes -/
structure Kd4 (K : PySem.W.Frag) (mg : Str → Option Value) (CN CD CW CZ C_NoShare C_NoCalendar C_NoWheel C_NoName C_NoDay C_Taken : Addr) : Prop where
  kN : KdF K mg CN false false false false false false false true false false false false true false false false C_NoShare C_NoCalendar CD C_NoWheel C_NoName C_NoDay C_Taken CN CW CZ
  kD : KdF K mg CD false false true false false false false false false false false true false false false false C_NoShare C_NoCalendar CD C_NoWheel C_NoName C_NoDay C_Taken CN CW CZ
  kW : KdF K mg CW false false false false false false false false true false false true false false true false C_NoShare C_NoCalendar CD C_NoWheel C_NoName C_NoDay C_Taken CN CW CZ
  kZ : KdF K mg CZ false false false false false false false false false true false false false false false true C_NoShare C_NoCalendar CD C_NoWheel C_NoName C_NoDay C_Taken CN CW CZ
section
variable {P : Program} {w : World} {K : PySem.W.Frag} {mg : Str → Option Value} {base : Heap} {CN CD CW CZ C_NoShare C_NoCalendar C_NoWheel C_NoName C_NoDay C_Taken : Addr}
theorem ok_kinds82 (D : Df K mg "_law_kinds" s_l_kinds []) (T4 : Kd4 K mg CN CD CW CZ C_NoShare C_NoCalendar C_NoWheel C_NoName C_NoDay C_Taken) (g_isinstance : mg "isinstance" = none) : Ca P w K mg base CX0 1 "_law_kinds" s_l_kinds [] ["_law_kept"] (spKinds4 CN CD CW CZ) := by
  refine ca0 (k := 0) D c_l_kinds (fun vs H Q E h => ?_) fun f cdv A outer s H vs Q E hr h => ?_
  · rcases h with ⟨a, d, fs, rfl, _⟩ | ⟨a, d, fs, rfl, _⟩ | ⟨a, d, fs, rfl, _⟩ | ⟨a, rfl, _⟩ <;> rfl
  · rcases h with ⟨a, d, fs, rfl, ha, hd, q⟩ | ⟨a, d, fs, rfl, ha, hd, q⟩ | ⟨a, d, fs, rfl, ha, hd, q⟩ | ⟨a, rfl, ha, q⟩
    · have T := T4.kN
      have XC := T.xc
      have h_NoShare := T.m0
      have h_NoCalendar := T.m1
      have h_NoDate := T.m2
      have h_NoWheel := T.m3
      have h_NoName := T.m4
      have h_NoDay := T.m5
      have h_Taken := T.m6
      have h_NoText := T.m7
      have h_NoNote := T.m8
      have h_NoDeed := T.m9
      refine ⟨_, (pss_cons (ps_set (i := 1) c_l_kinds.nd rfl (.inl rfl) (pe_lst (pa_cons (pe_callB (call_isK XC) rfl g_isinstance (by decide +kernel) (pa_cons (pv 0) (pa_cons (pe_glob (v := .ref C_NoShare) rfl h_NoShare rfl) pa_nil))) (pa_cons (pe_callB (call_isK XC) rfl g_isinstance (by decide +kernel) (pa_cons (pv 0) (pa_cons (pe_glob (v := .ref C_NoCalendar) rfl h_NoCalendar rfl) pa_nil))) (pa_cons (pe_callB (call_isK XC) rfl g_isinstance (by decide +kernel) (pa_cons (pv 0) (pa_cons (pe_glob (v := .ref CD) rfl h_NoDate rfl) pa_nil))) pa_nil)))))
      (pss_cons (ps_set (i := 1) c_l_kinds.nd rfl (.inl rfl) (pe_op op_cat (pv 1) (pe_lst (pa_cons (pe_callB (call_isK XC) rfl g_isinstance (by decide +kernel) (pa_cons (pv 0) (pa_cons (pe_glob (v := .ref C_NoWheel) rfl h_NoWheel rfl) pa_nil))) (pa_cons (pe_callB (call_isK XC) rfl g_isinstance (by decide +kernel) (pa_cons (pv 0) (pa_cons (pe_glob (v := .ref C_NoName) rfl h_NoName rfl) pa_nil))) (pa_cons (pe_callB (call_isK XC) rfl g_isinstance (by decide +kernel) (pa_cons (pv 0) (pa_cons (pe_glob (v := .ref C_NoDay) rfl h_NoDay rfl) pa_nil))) pa_nil))))))
      (pss_cons (ps_set (i := 1) c_l_kinds.nd rfl (.inl rfl) (pe_op op_cat (pv 1) (pe_lst (pa_cons (pe_callB (call_isK XC) rfl g_isinstance (by decide +kernel) (pa_cons (pv 0) (pa_cons (pe_glob (v := .ref C_Taken) rfl h_Taken rfl) pa_nil))) (pa_cons (pe_callB (call_isK XC) rfl g_isinstance (by decide +kernel) (pa_cons (pv 0) (pa_cons (pe_glob (v := .ref CN) rfl h_NoText rfl) pa_nil))) (pa_cons (pe_callB (call_isK XC) rfl g_isinstance (by decide +kernel) (pa_cons (pv 0) (pa_cons (pe_glob (v := .ref CW) rfl h_NoNote rfl) pa_nil))) pa_nil))))))
      (pss_one (ps_ret (pe_op op_cat (pv 1) (pe_lst (pa_cons (pe_callB (call_isK XC) rfl g_isinstance (by decide +kernel) (pa_cons (pv 0) (pa_cons (pe_glob (v := .ref CZ) rfl h_NoDeed rfl) pa_nil))) pa_nil)))))))), ?_⟩
      refine ⟨_, rfl, a, d, fs, _, _, _, rfl, ha, hd, .own _, T.k0, _, rfl, a, d, fs, _, _, _, rfl, ha, hd, .own _, T.k1, _, rfl, a, d, fs, _, _, _, rfl, ha, hd, .own _, T.k2, ln _, fun p1 n1 => ?_⟩
      have s1 := Same.new (o := .lst [.bl false, .bl false, .bl false]) n1
      refine ⟨_, rfl, _, rfl, a, d, fs, _, _, _, rfl, s1 _ _ ha, s1 _ _ hd, .own _, T.k3, _, rfl, a, d, fs, _, _, _, rfl, s1 _ _ ha, s1 _ _ hd, .own _, T.k4, _, rfl, a, d, fs, _, _, _, rfl, s1 _ _ ha, s1 _ _ hd, .own _, T.k5, ln _, fun p2 n2 => ?_⟩
      have s2 := s1.trans (Same.new (o := .lst [.bl false, .bl false, .bl false]) n2)
      refine ⟨p1, p2, _, _, rfl, rfl, (Same.new n2 _ _ upd_same), upd_same, (by show 6 ≤ sizeLine; decide), fun p3 n3 => ?_⟩
      have s3 := s2.trans (Same.new (o := .lst ([.bl false, .bl false, .bl false] ++ [.bl false, .bl false, .bl false])) n3)
      refine ⟨_, rfl, _, rfl, a, d, fs, _, _, _, rfl, s3 _ _ ha, s3 _ _ hd, .own _, T.k6, _, rfl, a, d, fs, _, _, _, rfl, s3 _ _ ha, s3 _ _ hd, .own _, T.k7, _, rfl, a, d, fs, _, _, _, rfl, s3 _ _ ha, s3 _ _ hd, .own _, T.k8, ln _, fun p4 n4 => ?_⟩
      have s4 := s3.trans (Same.new (o := .lst [.bl false, .bl true, .bl false]) n4)
      refine ⟨p3, p4, _, _, rfl, rfl, (Same.new n4 _ _ upd_same), upd_same, (by show 9 ≤ sizeLine; decide), fun p5 n5 => ?_⟩
      have s5 := s4.trans (Same.new (o := .lst (([.bl false, .bl false, .bl false] ++ [.bl false, .bl false, .bl false]) ++ [.bl false, .bl true, .bl false])) n5)
      refine ⟨_, rfl, _, rfl, a, d, fs, _, _, _, rfl, s5 _ _ ha, s5 _ _ hd, .own _, T.k9, ln _, fun p6 n6 => ?_⟩
      have s6 := s5.trans (Same.new (o := .lst [.bl false]) n6)
      refine ⟨p5, p6, _, _, rfl, rfl, (Same.new n6 _ _ upd_same), upd_same, (by show 10 ≤ sizeLine; decide), fun p7 n7 => ?_⟩
      exact q p7 _ (s6.trans (Same.new n7)) upd_same
    · have T := T4.kD
      have XC := T.xc
      have h_NoShare := T.m0
      have h_NoCalendar := T.m1
      have h_NoDate := T.m2
      have h_NoWheel := T.m3
      have h_NoName := T.m4
      have h_NoDay := T.m5
      have h_Taken := T.m6
      have h_NoText := T.m7
      have h_NoNote := T.m8
      have h_NoDeed := T.m9
      refine ⟨_, (pss_cons (ps_set (i := 1) c_l_kinds.nd rfl (.inl rfl) (pe_lst (pa_cons (pe_callB (call_isK XC) rfl g_isinstance (by decide +kernel) (pa_cons (pv 0) (pa_cons (pe_glob (v := .ref C_NoShare) rfl h_NoShare rfl) pa_nil))) (pa_cons (pe_callB (call_isK XC) rfl g_isinstance (by decide +kernel) (pa_cons (pv 0) (pa_cons (pe_glob (v := .ref C_NoCalendar) rfl h_NoCalendar rfl) pa_nil))) (pa_cons (pe_callB (call_isK XC) rfl g_isinstance (by decide +kernel) (pa_cons (pv 0) (pa_cons (pe_glob (v := .ref CD) rfl h_NoDate rfl) pa_nil))) pa_nil)))))
      (pss_cons (ps_set (i := 1) c_l_kinds.nd rfl (.inl rfl) (pe_op op_cat (pv 1) (pe_lst (pa_cons (pe_callB (call_isK XC) rfl g_isinstance (by decide +kernel) (pa_cons (pv 0) (pa_cons (pe_glob (v := .ref C_NoWheel) rfl h_NoWheel rfl) pa_nil))) (pa_cons (pe_callB (call_isK XC) rfl g_isinstance (by decide +kernel) (pa_cons (pv 0) (pa_cons (pe_glob (v := .ref C_NoName) rfl h_NoName rfl) pa_nil))) (pa_cons (pe_callB (call_isK XC) rfl g_isinstance (by decide +kernel) (pa_cons (pv 0) (pa_cons (pe_glob (v := .ref C_NoDay) rfl h_NoDay rfl) pa_nil))) pa_nil))))))
      (pss_cons (ps_set (i := 1) c_l_kinds.nd rfl (.inl rfl) (pe_op op_cat (pv 1) (pe_lst (pa_cons (pe_callB (call_isK XC) rfl g_isinstance (by decide +kernel) (pa_cons (pv 0) (pa_cons (pe_glob (v := .ref C_Taken) rfl h_Taken rfl) pa_nil))) (pa_cons (pe_callB (call_isK XC) rfl g_isinstance (by decide +kernel) (pa_cons (pv 0) (pa_cons (pe_glob (v := .ref CN) rfl h_NoText rfl) pa_nil))) (pa_cons (pe_callB (call_isK XC) rfl g_isinstance (by decide +kernel) (pa_cons (pv 0) (pa_cons (pe_glob (v := .ref CW) rfl h_NoNote rfl) pa_nil))) pa_nil))))))
      (pss_one (ps_ret (pe_op op_cat (pv 1) (pe_lst (pa_cons (pe_callB (call_isK XC) rfl g_isinstance (by decide +kernel) (pa_cons (pv 0) (pa_cons (pe_glob (v := .ref CZ) rfl h_NoDeed rfl) pa_nil))) pa_nil)))))))), ?_⟩
      refine ⟨_, rfl, a, d, fs, _, _, _, rfl, ha, hd, .own _, T.k0, _, rfl, a, d, fs, _, _, _, rfl, ha, hd, .own _, T.k1, _, rfl, a, d, fs, _, _, _, rfl, ha, hd, .own _, T.k2, ln _, fun p1 n1 => ?_⟩
      have s1 := Same.new (o := .lst [.bl false, .bl false, .bl true]) n1
      refine ⟨_, rfl, _, rfl, a, d, fs, _, _, _, rfl, s1 _ _ ha, s1 _ _ hd, .own _, T.k3, _, rfl, a, d, fs, _, _, _, rfl, s1 _ _ ha, s1 _ _ hd, .own _, T.k4, _, rfl, a, d, fs, _, _, _, rfl, s1 _ _ ha, s1 _ _ hd, .own _, T.k5, ln _, fun p2 n2 => ?_⟩
      have s2 := s1.trans (Same.new (o := .lst [.bl false, .bl false, .bl false]) n2)
      refine ⟨p1, p2, _, _, rfl, rfl, (Same.new n2 _ _ upd_same), upd_same, (by show 6 ≤ sizeLine; decide), fun p3 n3 => ?_⟩
      have s3 := s2.trans (Same.new (o := .lst ([.bl false, .bl false, .bl true] ++ [.bl false, .bl false, .bl false])) n3)
      refine ⟨_, rfl, _, rfl, a, d, fs, _, _, _, rfl, s3 _ _ ha, s3 _ _ hd, .own _, T.k6, _, rfl, a, d, fs, _, _, _, rfl, s3 _ _ ha, s3 _ _ hd, .own _, T.k7, _, rfl, a, d, fs, _, _, _, rfl, s3 _ _ ha, s3 _ _ hd, .own _, T.k8, ln _, fun p4 n4 => ?_⟩
      have s4 := s3.trans (Same.new (o := .lst [.bl false, .bl false, .bl false]) n4)
      refine ⟨p3, p4, _, _, rfl, rfl, (Same.new n4 _ _ upd_same), upd_same, (by show 9 ≤ sizeLine; decide), fun p5 n5 => ?_⟩
      have s5 := s4.trans (Same.new (o := .lst (([.bl false, .bl false, .bl true] ++ [.bl false, .bl false, .bl false]) ++ [.bl false, .bl false, .bl false])) n5)
      refine ⟨_, rfl, _, rfl, a, d, fs, _, _, _, rfl, s5 _ _ ha, s5 _ _ hd, .own _, T.k9, ln _, fun p6 n6 => ?_⟩
      have s6 := s5.trans (Same.new (o := .lst [.bl false]) n6)
      refine ⟨p5, p6, _, _, rfl, rfl, (Same.new n6 _ _ upd_same), upd_same, (by show 10 ≤ sizeLine; decide), fun p7 n7 => ?_⟩
      exact q p7 _ (s6.trans (Same.new n7)) upd_same
    · have T := T4.kW
      have XC := T.xc
      have h_NoShare := T.m0
      have h_NoCalendar := T.m1
      have h_NoDate := T.m2
      have h_NoWheel := T.m3
      have h_NoName := T.m4
      have h_NoDay := T.m5
      have h_Taken := T.m6
      have h_NoText := T.m7
      have h_NoNote := T.m8
      have h_NoDeed := T.m9
      refine ⟨_, (pss_cons (ps_set (i := 1) c_l_kinds.nd rfl (.inl rfl) (pe_lst (pa_cons (pe_callB (call_isK XC) rfl g_isinstance (by decide +kernel) (pa_cons (pv 0) (pa_cons (pe_glob (v := .ref C_NoShare) rfl h_NoShare rfl) pa_nil))) (pa_cons (pe_callB (call_isK XC) rfl g_isinstance (by decide +kernel) (pa_cons (pv 0) (pa_cons (pe_glob (v := .ref C_NoCalendar) rfl h_NoCalendar rfl) pa_nil))) (pa_cons (pe_callB (call_isK XC) rfl g_isinstance (by decide +kernel) (pa_cons (pv 0) (pa_cons (pe_glob (v := .ref CD) rfl h_NoDate rfl) pa_nil))) pa_nil)))))
      (pss_cons (ps_set (i := 1) c_l_kinds.nd rfl (.inl rfl) (pe_op op_cat (pv 1) (pe_lst (pa_cons (pe_callB (call_isK XC) rfl g_isinstance (by decide +kernel) (pa_cons (pv 0) (pa_cons (pe_glob (v := .ref C_NoWheel) rfl h_NoWheel rfl) pa_nil))) (pa_cons (pe_callB (call_isK XC) rfl g_isinstance (by decide +kernel) (pa_cons (pv 0) (pa_cons (pe_glob (v := .ref C_NoName) rfl h_NoName rfl) pa_nil))) (pa_cons (pe_callB (call_isK XC) rfl g_isinstance (by decide +kernel) (pa_cons (pv 0) (pa_cons (pe_glob (v := .ref C_NoDay) rfl h_NoDay rfl) pa_nil))) pa_nil))))))
      (pss_cons (ps_set (i := 1) c_l_kinds.nd rfl (.inl rfl) (pe_op op_cat (pv 1) (pe_lst (pa_cons (pe_callB (call_isK XC) rfl g_isinstance (by decide +kernel) (pa_cons (pv 0) (pa_cons (pe_glob (v := .ref C_Taken) rfl h_Taken rfl) pa_nil))) (pa_cons (pe_callB (call_isK XC) rfl g_isinstance (by decide +kernel) (pa_cons (pv 0) (pa_cons (pe_glob (v := .ref CN) rfl h_NoText rfl) pa_nil))) (pa_cons (pe_callB (call_isK XC) rfl g_isinstance (by decide +kernel) (pa_cons (pv 0) (pa_cons (pe_glob (v := .ref CW) rfl h_NoNote rfl) pa_nil))) pa_nil))))))
      (pss_one (ps_ret (pe_op op_cat (pv 1) (pe_lst (pa_cons (pe_callB (call_isK XC) rfl g_isinstance (by decide +kernel) (pa_cons (pv 0) (pa_cons (pe_glob (v := .ref CZ) rfl h_NoDeed rfl) pa_nil))) pa_nil)))))))), ?_⟩
      refine ⟨_, rfl, a, d, fs, _, _, _, rfl, ha, hd, .own _, T.k0, _, rfl, a, d, fs, _, _, _, rfl, ha, hd, .own _, T.k1, _, rfl, a, d, fs, _, _, _, rfl, ha, hd, .own _, T.k2, ln _, fun p1 n1 => ?_⟩
      have s1 := Same.new (o := .lst [.bl false, .bl false, .bl false]) n1
      refine ⟨_, rfl, _, rfl, a, d, fs, _, _, _, rfl, s1 _ _ ha, s1 _ _ hd, .own _, T.k3, _, rfl, a, d, fs, _, _, _, rfl, s1 _ _ ha, s1 _ _ hd, .own _, T.k4, _, rfl, a, d, fs, _, _, _, rfl, s1 _ _ ha, s1 _ _ hd, .own _, T.k5, ln _, fun p2 n2 => ?_⟩
      have s2 := s1.trans (Same.new (o := .lst [.bl false, .bl false, .bl false]) n2)
      refine ⟨p1, p2, _, _, rfl, rfl, (Same.new n2 _ _ upd_same), upd_same, (by show 6 ≤ sizeLine; decide), fun p3 n3 => ?_⟩
      have s3 := s2.trans (Same.new (o := .lst ([.bl false, .bl false, .bl false] ++ [.bl false, .bl false, .bl false])) n3)
      refine ⟨_, rfl, _, rfl, a, d, fs, _, _, _, rfl, s3 _ _ ha, s3 _ _ hd, .own _, T.k6, _, rfl, a, d, fs, _, _, _, rfl, s3 _ _ ha, s3 _ _ hd, .own _, T.k7, _, rfl, a, d, fs, _, _, _, rfl, s3 _ _ ha, s3 _ _ hd, .own _, T.k8, ln _, fun p4 n4 => ?_⟩
      have s4 := s3.trans (Same.new (o := .lst [.bl false, .bl false, .bl true]) n4)
      refine ⟨p3, p4, _, _, rfl, rfl, (Same.new n4 _ _ upd_same), upd_same, (by show 9 ≤ sizeLine; decide), fun p5 n5 => ?_⟩
      have s5 := s4.trans (Same.new (o := .lst (([.bl false, .bl false, .bl false] ++ [.bl false, .bl false, .bl false]) ++ [.bl false, .bl false, .bl true])) n5)
      refine ⟨_, rfl, _, rfl, a, d, fs, _, _, _, rfl, s5 _ _ ha, s5 _ _ hd, .own _, T.k9, ln _, fun p6 n6 => ?_⟩
      have s6 := s5.trans (Same.new (o := .lst [.bl false]) n6)
      refine ⟨p5, p6, _, _, rfl, rfl, (Same.new n6 _ _ upd_same), upd_same, (by show 10 ≤ sizeLine; decide), fun p7 n7 => ?_⟩
      exact q p7 _ (s6.trans (Same.new n7)) upd_same
    · have T := T4.kZ
      have XC := T.xc
      have h_NoShare := T.m0
      have h_NoCalendar := T.m1
      have h_NoDate := T.m2
      have h_NoWheel := T.m3
      have h_NoName := T.m4
      have h_NoDay := T.m5
      have h_Taken := T.m6
      have h_NoText := T.m7
      have h_NoNote := T.m8
      have h_NoDeed := T.m9
      refine ⟨_, (pss_cons (ps_set (i := 1) c_l_kinds.nd rfl (.inl rfl) (pe_lst (pa_cons (pe_callB (call_isN XC) rfl g_isinstance (by decide +kernel) (pa_cons (pv 0) (pa_cons (pe_glob (v := .ref C_NoShare) rfl h_NoShare rfl) pa_nil))) (pa_cons (pe_callB (call_isN XC) rfl g_isinstance (by decide +kernel) (pa_cons (pv 0) (pa_cons (pe_glob (v := .ref C_NoCalendar) rfl h_NoCalendar rfl) pa_nil))) (pa_cons (pe_callB (call_isN XC) rfl g_isinstance (by decide +kernel) (pa_cons (pv 0) (pa_cons (pe_glob (v := .ref CD) rfl h_NoDate rfl) pa_nil))) pa_nil)))))
      (pss_cons (ps_set (i := 1) c_l_kinds.nd rfl (.inl rfl) (pe_op op_cat (pv 1) (pe_lst (pa_cons (pe_callB (call_isN XC) rfl g_isinstance (by decide +kernel) (pa_cons (pv 0) (pa_cons (pe_glob (v := .ref C_NoWheel) rfl h_NoWheel rfl) pa_nil))) (pa_cons (pe_callB (call_isN XC) rfl g_isinstance (by decide +kernel) (pa_cons (pv 0) (pa_cons (pe_glob (v := .ref C_NoName) rfl h_NoName rfl) pa_nil))) (pa_cons (pe_callB (call_isN XC) rfl g_isinstance (by decide +kernel) (pa_cons (pv 0) (pa_cons (pe_glob (v := .ref C_NoDay) rfl h_NoDay rfl) pa_nil))) pa_nil))))))
      (pss_cons (ps_set (i := 1) c_l_kinds.nd rfl (.inl rfl) (pe_op op_cat (pv 1) (pe_lst (pa_cons (pe_callB (call_isN XC) rfl g_isinstance (by decide +kernel) (pa_cons (pv 0) (pa_cons (pe_glob (v := .ref C_Taken) rfl h_Taken rfl) pa_nil))) (pa_cons (pe_callB (call_isN XC) rfl g_isinstance (by decide +kernel) (pa_cons (pv 0) (pa_cons (pe_glob (v := .ref CN) rfl h_NoText rfl) pa_nil))) (pa_cons (pe_callB (call_isN XC) rfl g_isinstance (by decide +kernel) (pa_cons (pv 0) (pa_cons (pe_glob (v := .ref CW) rfl h_NoNote rfl) pa_nil))) pa_nil))))))
      (pss_one (ps_ret (pe_op op_cat (pv 1) (pe_lst (pa_cons (pe_callB (call_isN XC) rfl g_isinstance (by decide +kernel) (pa_cons (pv 0) (pa_cons (pe_glob (v := .ref CZ) rfl h_NoDeed rfl) pa_nil))) pa_nil)))))))), ?_⟩
      refine ⟨_, rfl, a, _, _, _, rfl, ha, .own _, T.k0, _, rfl, a, _, _, _, rfl, ha, .own _, T.k1, _, rfl, a, _, _, _, rfl, ha, .own _, T.k2, ln _, fun p1 n1 => ?_⟩
      have s1 := Same.new (o := .lst [.bl false, .bl false, .bl false]) n1
      refine ⟨_, rfl, _, rfl, a, _, _, _, rfl, s1 _ _ ha, .own _, T.k3, _, rfl, a, _, _, _, rfl, s1 _ _ ha, .own _, T.k4, _, rfl, a, _, _, _, rfl, s1 _ _ ha, .own _, T.k5, ln _, fun p2 n2 => ?_⟩
      have s2 := s1.trans (Same.new (o := .lst [.bl false, .bl false, .bl false]) n2)
      refine ⟨p1, p2, _, _, rfl, rfl, (Same.new n2 _ _ upd_same), upd_same, (by show 6 ≤ sizeLine; decide), fun p3 n3 => ?_⟩
      have s3 := s2.trans (Same.new (o := .lst ([.bl false, .bl false, .bl false] ++ [.bl false, .bl false, .bl false])) n3)
      refine ⟨_, rfl, _, rfl, a, _, _, _, rfl, s3 _ _ ha, .own _, T.k6, _, rfl, a, _, _, _, rfl, s3 _ _ ha, .own _, T.k7, _, rfl, a, _, _, _, rfl, s3 _ _ ha, .own _, T.k8, ln _, fun p4 n4 => ?_⟩
      have s4 := s3.trans (Same.new (o := .lst [.bl false, .bl false, .bl false]) n4)
      refine ⟨p3, p4, _, _, rfl, rfl, (Same.new n4 _ _ upd_same), upd_same, (by show 9 ≤ sizeLine; decide), fun p5 n5 => ?_⟩
      have s5 := s4.trans (Same.new (o := .lst (([.bl false, .bl false, .bl false] ++ [.bl false, .bl false, .bl false]) ++ [.bl false, .bl false, .bl false])) n5)
      refine ⟨_, rfl, _, rfl, a, _, _, _, rfl, s5 _ _ ha, .own _, T.k9, ln _, fun p6 n6 => ?_⟩
      have s6 := s5.trans (Same.new (o := .lst [.bl true]) n6)
      refine ⟨p5, p6, _, _, rfl, rfl, (Same.new n6 _ _ upd_same), upd_same, (by show 10 ≤ sizeLine; decide), fun p7 n7 => ?_⟩
      exact q p7 _ (s6.trans (Same.new n7)) upd_same
end
/-! ### data that stays while a diary is written to -/
mutual
inductive DA (H : Hp) (P : Addr → Prop) : V → PyData → Prop
  | non : DA H P .non .none
  | int (i : Int) : DA H P (.int i) (.int i)
  | bl (b : Bool) : DA H P (.bl b) (.bool b)
  | str (s : Str) : DA H P (.str s) (.str s)
  | lst {a : Addr} {vs : List V} {ds : List PyData} : H a = some (.lst vs) → ¬ P a → DAs H P vs ds → DA H P (.ref a) (.list ds)
  | tup {a : Addr} {vs : List V} {ds : List PyData} : H a = some (.tup vs) → ¬ P a → DAs H P vs ds → DA H P (.ref a) (.tuple ds)
inductive DAs (H : Hp) (P : Addr → Prop) : List V → List PyData → Prop
  | nil : DAs H P [] []
  | cons {v : V} {vs : List V} {d : PyData} {ds : List PyData} : DA H P v d → DAs H P vs ds → DAs H P (v :: vs) (d :: ds)
end
mutual
theorem DA.keep {H H' : Hp} {P : Addr → Prop} (k : ∀ c o, ¬ P c → H c = some o → H' c = some o) : ∀ {d : PyData} {v : V}, DA H P v d → DA H' P v d
  | .none, _, h => by cases h; exact .non
  | .bool _, _, h => by cases h; exact .bl _
  | .int _, _, h => by cases h; exact .int _
  | .str _, _, h => by cases h; exact .str _
  | .list ds, _, h => by
    cases h with
    | lst e n a => exact .lst (k _ _ n e) n (DAs.keep k a)
  | .tuple ds, _, h => by
    cases h with
    | tup e n a => exact .tup (k _ _ n e) n (DAs.keep k a)
  | .dict _, _, h => by cases h
theorem DAs.keep {H H' : Hp} {P : Addr → Prop} (k : ∀ c o, ¬ P c → H c = some o → H' c = some o) : ∀ {ds : List PyData} {vs : List V}, DAs H P vs ds → DAs H' P vs ds
  | [], _, h => by cases h; exact .nil
  | d :: ds, _, h => by
    cases h with
    | cons a b => exact .cons (DA.keep k a) (DAs.keep k b)
end
mutual
theorem DA.dp {K : PySem.W.Frag} {H : Hp} {P : Addr → Prop} : ∀ {d : PyData} {v : V}, DA H P v d → Dp K H v d
  | .none, _, h => by cases h; exact .non
  | .bool _, _, h => by cases h; exact .bl _
  | .int _, _, h => by cases h; exact .int _
  | .str _, _, h => by cases h; exact .str _
  | .list ds, _, h => by
    cases h with
    | lst e n a => exact .lst (SqL.of e) (DAs.dps a)
  | .tuple ds, _, h => by
    cases h with
    | tup e n a => exact .tup (SqT.of e) (DAs.dps a)
  | .dict _, _, h => by cases h
theorem DAs.dps {K : PySem.W.Frag} {H : Hp} {P : Addr → Prop} : ∀ {ds : List PyData} {vs : List V}, DAs H P vs ds → DpAll K H vs ds
  | [], _, h => by cases h; exact .nil
  | d :: ds, _, h => by
    cases h with
    | cons a b => exact .cons (DA.dp a) (DAs.dps b)
end
theorem DA.same {H H' : Hp} {P : Addr → Prop} {d : PyData} {v : V} (h : DA H P v d) (s : Same H H') : DA H' P v d := h.keep fun c o _ e => s c o e
theorem DAs.of2 {H : Hp} {P : Addr → Prop} {α : Type} {R : V → α → Prop} (g : α → PyData) (k : ∀ v x, R v x → DA H P v (g x)) {vs : List V} {xs : List α} (h : All2 R vs xs) : DAs H P vs (xs.map g) := by
  induction h with
  | nil => exact .nil
  | cons r _ ih => exact .cons (k _ _ r) ih
theorem DAs.strs {H : Hp} {P : Addr → Prop} : ∀ xs : List Str, DAs H P (xs.map V.str) (xs.map PyData.str)
  | [] => .nil
  | x :: xs => .cons (.str x) (DAs.strs xs)
abbrev PDL (d l : Addr) : Addr → Prop := fun c => c = d ∨ c = l
theorem B2.da {d l : Addr} {H H' : Hp} (h : B2 d l H H') {x : PyData} {v : V} (a : DA H (PDL d l) v x) : DA H' (PDL d l) v x := a.keep fun c o n e => h c o (fun w => n (.inl w)) (fun w => n (.inr w)) e
theorem Dy.new {C Cc Cv : Addr} {H : Hp} {b p d l : Addr} {m y o k : Rat} {f : Int → List Str} {U : List (List Row)} {n : Nat} (h : Dy C Cc Cv H b p d l m y o k f U n) {c : Addr} (e : H c = none) : ¬ PDL d l c := fun w => by
  obtain ⟨kvs, ed, _⟩ := h.kp
  obtain ⟨us, el⟩ := h.lst
  rcases w with w | w
  · rw [w, ed] at e; cases e
  · rw [w, el] at e; cases e
/-! ### texts of dates -/
theorem strOk_of {x : Str} (h : ∀ c ∈ x.cps.toList, c < 0x110000) : PyData.strOk x = true := by
  unfold PyData.strOk
  rw [Array.all_eq_true_iff_forall_mem]
  intro c hc
  exact decide_eq_true (h c (by simpa using hc))
theorem numT_ok {b : Nat} {i : Int} (h2 : 2 ≤ b) (h16 : b ≤ 16) : PyData.strOk (numT b i) = true := by
  have key : ∀ c ∈ (txt (lsd b i.natAbs).reverse).cps.toList, c < 0x110000 := fun c hc => by
    rw [txt_cps] at hc
    obtain ⟨d, hd, rfl⟩ := List.mem_map.mp hc
    have := lsd_small h2 _ d (List.mem_reverse.mp hd)
    unfold dg
    split <;> omega
  refine strOk_of fun c hc => ?_
  unfold numT at hc
  split at hc
  · rw [app_cps, dash_cps] at hc
    rcases List.mem_append.mp hc with hc | hc
    · rw [List.mem_singleton.mp hc]
      decide
    · exact key c hc
  · exact key c hc
theorem strOk_app {x y : Str} (hx : PyData.strOk x = true) (hy : PyData.strOk y = true) : PyData.strOk (x ++ y) = true := by
  have of : ∀ {z : Str}, PyData.strOk z = true → ∀ c ∈ z.cps.toList, c < 0x110000 := fun {z} h c hc => by
    unfold PyData.strOk at h
    rw [Array.all_eq_true_iff_forall_mem] at h
    exact of_decide_eq_true (h c (by simpa using hc))
  refine strOk_of fun c hc => ?_
  rw [app_cps] at hc
  rcases List.mem_append.mp hc with h | h
  · exact of hx c h
  · exact of hy c h
theorem daS_ok {y n d : Int} (hn : 0 ≤ n) (hd : 0 ≤ d) (od : Bool) : PyData.strOk (daS y n d od) = true := by
  have dash : PyData.strOk ("-" : Str) = true := by decide +kernel
  have two : ∀ {i : Int}, 0 ≤ i → PyData.strOk (twoF i) = true := fun h => strOk_of fun c hc => by
    have := two_dig h c hc
    omega
  have so : PyData.strOk (oddS od) = true := by cases od <;> decide +kernel
  rw [daS_eq]
  exact strOk_app (strOk_app (strOk_app (strOk_app (numT_ok (by decide) (by decide)) dash) (strOk_app (two hn) so)) dash) (two hd)
theorem zero_cps : ("0" : Str).cps.toList = [48] := by decide +kernel
theorem emp_cps : Str.empty.cps.toList = [] := by decide +kernel
theorem sz_log' {n : Nat} {i : Int} (h : Sz n i) (h0 : 0 < n := by decide) (hn : n ≤ 1920 := by decide) : i.natAbs.log2 < 1920 := by
  by_cases z : i.natAbs = 0
  · rw [z]
    decide
  · exact Nat.lt_of_lt_of_le ((Nat.log2_lt z).mpr h) hn
theorem ltwo_eq {i : Int} (h0 : 0 ≤ i) : (if decide (i < 10) = true then ("0" : Str) else Str.empty) ++ (Str.ofString (toString i)) = twoF i := by
  refine str_ext ?_
  rw [app_cps, two_cps h0, numT_str]
  by_cases h : i < 10
  · rw [if_pos (by simpa using h), if_pos h, zero_cps]
  · rw [if_neg (by simpa using h), if_neg h, emp_cps]
theorem lsd_len10 : ∀ (k n : Nat), n < 10 ^ k → 0 < k → (lsd 10 n).length ≤ k := fun k => by
  induction k with
  | zero => intro n h h0; omega
  | succ k ih =>
    intro n h h0
    by_cases hn : n < 10
    · rw [lsd_lt hn]
      simp
    · rw [lsd_ge (by decide) (by omega), List.length_cons]
      have h2 : n / 10 < 10 ^ k := by rw [Nat.pow_succ] at h; omega
      by_cases hk : 0 < k
      · have := ih (n / 10) h2 hk
        omega
      · have e0 : k = 0 := by omega
        subst e0
        have h3 : n / 10 < 1 := h2
        omega
theorem numT_len10 {i : Int} {k : Nat} (h : i.natAbs < 10 ^ k) (h0 : 0 < k := by decide) : (numT 10 i).length ≤ k + 1 := by
  have h1 := lsd_len10 k i.natAbs h h0
  unfold numT
  split
  · rw [dash_txt_len, List.length_reverse]
    omega
  · rw [txt_len, List.length_reverse]
    omega
theorem ten_len {i : Int} {k : Nat} (h : i.natAbs < 10 ^ k) (h0 : 0 < k := by decide) : (Str.ofString (toString i)).length ≤ k + 1 := by
  rw [numT_str]
  exact numT_len10 h h0
theorem ite_len (b : Bool) {s : Str} (h : s.length = 1) : (if b = true then s else Str.empty).length ≤ 1 := by
  cases b with
  | true => rw [if_pos rfl, h]; exact Nat.le_refl _
  | false => rw [if_neg (by simp)]; exact Nat.zero_le _
theorem two_len10 {i : Int} {k : Nat} (h : i.natAbs < 10 ^ k) (h2 : 1 ≤ k) : (twoF i).length ≤ k + 2 := by
  have h1 := numT_len10 h h2
  have h3 := two_len' (i := i) (n := k + 1) h1
  omega
theorem daS_len {y n d : Int} (hy : y.natAbs < 10 ^ 32) (hn : n.natAbs < 10 ^ 3) (hd : d.natAbs < 10 ^ 23) (od : Bool) : (daS y n d od).length ≤ 70 := by
  have l1 := numT_len10 hy
  have l2 := two_len10 hn (by decide)
  have l3 := two_len10 hd (by decide)
  have l4 := odd_len od
  have ld : ("-" : Str).length = 1 := by decide +kernel
  rw [daS_eq, str_app_len, str_app_len, str_app_len, str_app_len, str_app_len, ld]
  omega
theorem dtT_len {m y o k : Rat} (g : Good m y o k) {x : Int} (z : Sz 100 x) : (dtT m y o k x).length ≤ 70 ∧ 0 ≤ dtN m y o k x ∧ 0 ≤ dtD m o x ∧ (dtY m y o k x).natAbs < 10 ^ 32 ∧ (dtN m y o k x).natAbs < 10 ^ 3 ∧ (dtD m o x).natAbs < 10 ^ 23 := by
  have h1 : Sz 102 (dtY m y o k x) := g.zdY z (by decide)
  have h2 := dtN_b m y o k x
  have h3 := dtD_b (o := o) g.fit x
  have zc : Sz 70 m.ceil := Sz.ceil g.zm
  have a1 : (dtY m y o k x).natAbs < 10 ^ 32 := Nat.lt_of_lt_of_le h1 (by decide)
  have a2 : (dtN m y o k x).natAbs < 10 ^ 3 := by omega
  have a3 : (dtD m o x).natAbs < 10 ^ 23 := by
    have e : m.ceil.natAbs < 10 ^ 23 := Nat.lt_of_lt_of_le zc (by decide)
    omega
  exact ⟨daS_len a1 a2 a3 _, by omega, by omega, a1, a2, a3⟩
theorem join3 (t1 t2 t3 : Str) : Txt.join ("-" : Str) [t1, t2, t3] = t1 ++ ("-" : Str) ++ t2 ++ ("-" : Str) ++ t3 := by
  refine str_ext ?_
  show ((t1.cps ++ ("-" : Str).cps ++ t2.cps) ++ ("-" : Str).cps ++ t3.cps).toList = _
  simp only [app_cps, Array.toList_append]
theorem words_daS {y n d : Int} (hn : 0 ≤ n) (hd : 0 ≤ d) (od : Bool) : Txt.join ("-" : Str) [Str.ofString (toString y), (if decide (n < 10) = true then ("0" : Str) else Str.empty) ++ Str.ofString (toString n) ++ (if od = true then ("*" : Str) else Str.empty), (if decide (d < 10) = true then ("0" : Str) else Str.empty) ++ Str.ofString (toString d)] = daS y n d od := by
  rw [join3, ltwo_eq hn, ltwo_eq hd, numT_str, daS_eq]
  cases od <;> rfl
def spDtT : Sp := fun vs H Q _ => ∃ (r : Addr) (x : Int) (m y o k : Rat), vs = [.ref r, .int x] ∧ Fo H r m y o k ∧ Good m y o k ∧ Sz 100 x ∧ ∀ H', Same H H' → Q (.str (dtT m y o k x)) H'
def spLTx : Sp := fun vs H Q _ => ∃ (r : Addr) (y n d : Int) (o : Bool), vs = [.ref r] ∧ H r = some (.tup [.int y, .int n, .int d, .bl o]) ∧ 0 ≤ n ∧ 0 ≤ d ∧ y.natAbs < 10 ^ 32 ∧ n.natAbs < 10 ^ 3 ∧ d.natAbs < 10 ^ 23 ∧ ∀ H', Same H H' → Q (.str (daS y n d o)) H'
section
variable {P : Program} {w : World} {K : PySem.W.Frag} {mg : Str → Option Value} {base : Heap}
theorem ok_ltx82 (D : Df K mg "_law_text" s_l_text []) (g_int : mg "int" = none) (g_str : mg "str" = none) : Ca P w K mg base CX0 1 "_law_text" s_l_text [] ["_law_fields"] spLTx := by
  refine ca0 (k := 0) D c_l_text (fun vs H Q E h => ?_) fun f cdv A outer s H vs Q E hr h => ?_
  · obtain ⟨r, y, n, d, o, rfl, _⟩ := h
    rfl
  · obtain ⟨r, y, n, d, o, rfl, er, h0, h1, hy, hn, hd, q⟩ := h
    refine ⟨_, (pss_cons (ps_asg (pv 0) (pg_tup rfl (pgs_cons (pg_name (i := 1) c_l_text.nd rfl (.inl rfl)) (pgs_cons (pg_name (i := 2) c_l_text.nd rfl (.inl rfl)) (pgs_cons (pg_name (i := 3) c_l_text.nd rfl (.inl rfl)) (pgs_cons (pg_name (i := 4) c_l_text.nd rfl (.inl rfl)) pgs_nil))))))
      (pss_cons (ps_set (i := 5) c_l_text.nd rfl (.inl rfl) (pe_lst (pa_cons (pe_callTy call_str_int rfl g_str (by decide +kernel) (pa_cons (pv 1) pa_nil)) (pa_cons (pe_op op_add_str (pe_op op_add_str (pe_op op_mulS pe_str (pe_callTy call_int1 rfl g_int (by decide +kernel) (pa_cons (pe_cmpR op_lt (pv 2) pe_int (nomark _)) pa_nil))) (pe_callTy call_str_int rfl g_str (by decide +kernel) (pa_cons (pv 2) pa_nil))) (pe_op op_mulS pe_str (pe_callTy call_int1 rfl g_int (by decide +kernel) (pa_cons (pv 4) pa_nil)))) (pa_cons (pe_op op_add_str (pe_op op_mulS pe_str (pe_callTy call_int1 rfl g_int (by decide +kernel) (pa_cons (pe_cmpR op_lt (pv 3) pe_int (nomark _)) pa_nil))) (pe_callTy call_str_int rfl g_str (by decide +kernel) (pa_cons (pv 3) pa_nil))) pa_nil)))))
      (pss_one (ps_ret (pe_m1 PySem.F.slot_str_join PySem.F.type_str_join mt_join pe_str (pv 5)))))), ?_⟩
    refine ⟨_, rfl, r, _, rfl, SqT.of er, rfl, _, _, rfl, _, _, rfl, _, _, rfl, _, _, rfl, rfl, ?_⟩
    have s0 : Same H H := Same.refl H
    have zz : ("0" : Str).length = 1 := by decide +kernel
    have zs : ("*" : Str).length = 1 := by decide +kernel
    have ly := ten_len hy
    have lnn := ten_len hn
    have ldd := ten_len hd
    have ew := words_daS (y := y) h0 h1 o
    have sy : y.natAbs.log2 < 1920 := sz_log' (n := 107) (Nat.lt_of_lt_of_le hy (by decide))
    have sn : n.natAbs.log2 < 1920 := sz_log' (n := 107) (Nat.lt_of_lt_of_le hn (by decide))
    have sd : d.natAbs.log2 < 1920 := sz_log' (n := 107) (Nat.lt_of_lt_of_le hd (by decide))
    have z1 := ite_len (decide (n < 10)) zz
    have z2 := ite_len (decide (d < 10)) zz
    have z3 := ite_len o zs
    have a1 := ap_len z1 lnn
    have a2 := ap_len a1 z3
    have a3 := ap_len z2 ldd
    refine ⟨_, rfl, y, rfl, sy, ?_⟩
    refine ⟨_, rfl, _, _, rfl, rfl, .inr ⟨_, rfl, _, _, rfl, rfl, ?_⟩⟩
    refine ⟨_, rfl, n, rfl, sn, _, _, rfl, rfl, Nat.le_trans (Nat.add_le_add z1 lnn) (by decide), ?_⟩
    refine ⟨_, rfl, .inr ⟨_, rfl, _, _, rfl, rfl, _, _, rfl, rfl, Nat.le_trans (Nat.add_le_add a1 z3) (by decide), ?_⟩⟩
    refine ⟨_, rfl, _, _, rfl, rfl, .inr ⟨_, rfl, _, _, rfl, rfl, ?_⟩⟩
    refine ⟨_, rfl, d, rfl, sd, _, _, rfl, rfl, Nat.le_trans (Nat.add_le_add z2 ldd) (by decide), ?_⟩
    generalize Str.ofString (toString y) = t1 at *
    generalize (if decide (n < 10) = true then ("0" : Str) else Str.empty) ++ Str.ofString (toString n) ++ (if o = true then ("*" : Str) else Str.empty) = t2 at *
    generalize (if decide (d < 10) = true then ("0" : Str) else Str.empty) ++ Str.ofString (toString d) = t3 at *
    refine ⟨ln _, fun p np => ?_⟩
    have sp' := Same.new (o := .lst [.str t1, .str t2, .str t3]) np
    have dl : ("-" : Str).length = 1 := by decide +kernel
    refine ⟨⟨_, rfl⟩, _, rfl, _, p, [t1, t2, t3], rfl, rfl, .inl (SqL.of upd_same), ?_, ?_⟩
    · show t1.length + (t2.length + (t3.length + 0)) + 3 * ("-" : Str).length ≤ 16777216
      omega
    · rw [ew]
      exact q _ (s0.trans sp')
theorem ok_dtT (D : Df K mg "_law_date_text" s_l_date_text []) (f_l_date : Ca P w K mg base CX0 6 "_law_date" s_l_date [] ["_law_four_here", "_law_day"] spLDate) (g_int : mg "int" = none) (g_str : mg "str" = none) : Ca P w K mg base CX0 7 "_law_date_text" s_l_date_text [] ["_law_four_here", "_law_day"] spDtT := by
  refine ca0 (k := 6) D c_l_date_text (fun vs H Q E h => ?_) fun f cdv A outer s H vs Q E hr h => ?_
  · obtain ⟨r, x, m, y, o, k, rfl, _⟩ := h
    rfl
  · obtain ⟨r, x, m, y, o, k, rfl, fo, g, zx, q⟩ := h
    obtain ⟨_, h0, h1, hy, hn, hd⟩ := dtT_len g zx
    refine ⟨_, (pss_cons (ps_asg (pe_ca f_l_date b_l_date hr (by decide) pass0 rfl (pa_cons (pv 0) (pa_cons (pv 1) pa_nil))) (pg_tup rfl (pgs_cons (pg_name (i := 2) c_l_date_text.nd rfl (.inl rfl)) (pgs_cons (pg_name (i := 3) c_l_date_text.nd rfl (.inl rfl)) (pgs_cons (pg_name (i := 4) c_l_date_text.nd rfl (.inl rfl)) (pgs_cons (pg_name (i := 5) c_l_date_text.nd rfl (.inl rfl)) pgs_nil))))))
      (pss_cons (ps_set (i := 6) c_l_date_text.nd rfl (.inl rfl) (pe_lst (pa_cons (pe_callTy call_str_int rfl g_str (by decide +kernel) (pa_cons (pv 2) pa_nil)) (pa_cons (pe_op op_add_str (pe_op op_add_str (pe_op op_mulS pe_str (pe_callTy call_int1 rfl g_int (by decide +kernel) (pa_cons (pe_cmpR op_lt (pv 3) pe_int (nomark _)) pa_nil))) (pe_callTy call_str_int rfl g_str (by decide +kernel) (pa_cons (pv 3) pa_nil))) (pe_op op_mulS pe_str (pe_callTy call_int1 rfl g_int (by decide +kernel) (pa_cons (pv 5) pa_nil)))) (pa_cons (pe_op op_add_str (pe_op op_mulS pe_str (pe_callTy call_int1 rfl g_int (by decide +kernel) (pa_cons (pe_cmpR op_lt (pv 4) pe_int (nomark _)) pa_nil))) (pe_callTy call_str_int rfl g_str (by decide +kernel) (pa_cons (pv 4) pa_nil))) pa_nil)))))
      (pss_one (ps_ret (pe_m1 PySem.F.slot_str_join PySem.F.type_str_join mt_join pe_str (pv 6)))))), ?_⟩
    refine ⟨_, rfl, _, rfl, r, x, m, y, o, k, rfl, fo, g, zx.mono (by decide), fun t H1 nt s1 et => ?_⟩
    refine ⟨t, _, rfl, SqT.of et, rfl, _, _, rfl, _, _, rfl, _, _, rfl, _, _, rfl, rfl, ?_⟩
    unfold dtT at q
    generalize dtY m y o k x = yy at *
    generalize dtN m y o k x = nn at *
    generalize dtD m o x = dd at *
    generalize dtO m y o k x = oo at *
    have zz : ("0" : Str).length = 1 := by decide +kernel
    have zs : ("*" : Str).length = 1 := by decide +kernel
    have ly := ten_len hy
    have lnn := ten_len hn
    have ldd := ten_len hd
    have ew := words_daS (y := yy) h0 h1 oo
    have sy : yy.natAbs.log2 < 1920 := sz_log' (n := 107) (Nat.lt_of_lt_of_le hy (by decide))
    have sn : nn.natAbs.log2 < 1920 := sz_log' (n := 107) (Nat.lt_of_lt_of_le hn (by decide))
    have sd : dd.natAbs.log2 < 1920 := sz_log' (n := 107) (Nat.lt_of_lt_of_le hd (by decide))
    have z1 := ite_len (decide (nn < 10)) zz
    have z2 := ite_len (decide (dd < 10)) zz
    have z3 := ite_len oo zs
    have a1 := ap_len z1 lnn
    have a2 := ap_len a1 z3
    have a3 := ap_len z2 ldd
    refine ⟨_, rfl, yy, rfl, sy, ?_⟩
    refine ⟨_, rfl, _, _, rfl, rfl, .inr ⟨_, rfl, _, _, rfl, rfl, ?_⟩⟩
    refine ⟨_, rfl, nn, rfl, sn, _, _, rfl, rfl, Nat.le_trans (Nat.add_le_add z1 lnn) (by decide), ?_⟩
    refine ⟨_, rfl, .inr ⟨_, rfl, _, _, rfl, rfl, _, _, rfl, rfl, Nat.le_trans (Nat.add_le_add a1 z3) (by decide), ?_⟩⟩
    refine ⟨_, rfl, _, _, rfl, rfl, .inr ⟨_, rfl, _, _, rfl, rfl, ?_⟩⟩
    refine ⟨_, rfl, dd, rfl, sd, _, _, rfl, rfl, Nat.le_trans (Nat.add_le_add z2 ldd) (by decide), ?_⟩
    generalize Str.ofString (toString yy) = t1 at *
    generalize (if decide (nn < 10) = true then ("0" : Str) else Str.empty) ++ Str.ofString (toString nn) ++ (if oo = true then ("*" : Str) else Str.empty) = t2 at *
    generalize (if decide (dd < 10) = true then ("0" : Str) else Str.empty) ++ Str.ofString (toString dd) = t3 at *
    refine ⟨ln _, fun p np => ?_⟩
    have sp' := Same.new (o := .lst [.str t1, .str t2, .str t3]) np
    have dl : ("-" : Str).length = 1 := by decide +kernel
    refine ⟨⟨_, rfl⟩, _, rfl, _, p, [t1, t2, t3], rfl, rfl, .inl (SqL.of upd_same), ?_, ?_⟩
    · show t1.length + (t2.length + (t3.length + 0)) + 3 * ("-" : Str).length ≤ 16777216
      omega
    · rw [ew]
      exact q _ (s1.trans sp')
end
/-! ### why a date is none, by the law -/
theorem yes' {b : Bool} {A B : Prop} (h : b = true) (a : A) : if b = true then A else B := by rw [if_pos h]; exact a
def whS (m y o k : Rat) (a b c : Int) (od : Bool) : Str := match dyF m y o k a b c od with
  | .inl x => x
  | .inr _ => ""
def spWy : Sp := fun vs H Q _ => ∃ (r t : Addr) (a b c : Int) (od : Bool) (m y o k : Rat), vs = [.ref r, .ref t] ∧ Fo H r m y o k ∧ Good m y o k ∧ H t = some (.tup [.int a, .int b, .int c, .bl od]) ∧ Sz 640 a ∧ Sz 640 b ∧ ∀ H', Same H H' → Q (.str (whS m y o k a b c od)) H'
section
variable {P : Program} {w : World} {K : PySem.W.Frag} {mg : Str → Option Value} {base : Heap}
theorem ok_lwy (D : Df K mg "_law_why" s_l_why []) (f_l_month_with : Ca P w K mg base CX0 5 "_law_month_with" s_l_month_with [] ["_law_four_here", "_law_j"] (spF1 1200 fun m y o k i => .int (maF m o (mdF y k i)))) (f_l_mark_in : Ca P w K mg base CX0 4 "_law_mark_in" s_l_mark_in [] ["_law_four_here", "_law_k"] (spF1 1400 miF)) (f_l_long : Ca P w K mg base CX0 4 "_law_long" s_l_long [] ["_law_four_here", "_law_k"] (spF1 2000 fun m _ o _ i => .int (stF m o (i + 1) - stF m o i))) (g_int : mg "int" = none) : Ca P w K mg base CX0 6 "_law_why" s_l_why [] ["_law_four_here", "_law_fields"] spWy := by
  refine ca0 (k := 5) D c_l_why (fun vs H Q E h => ?_) fun f cdv A outer s H vs Q E hr h => ?_
  · obtain ⟨r, t, a, b, c, od, m, y, o, k, rfl, _⟩ := h
    rfl
  · obtain ⟨r, t, a, b, c, od, m, y, o, k, rfl, fo, g, et, za, zb, q⟩ := h
    refine ⟨_, (pss_cons (ps_asg (pv 1) (pg_tup rfl (pgs_cons (pg_name (i := 2) c_l_why.nd rfl (.inl rfl)) (pgs_cons (pg_name (i := 3) c_l_why.nd rfl (.inl rfl)) (pgs_cons (pg_name (i := 4) c_l_why.nd rfl (.inl rfl)) (pgs_cons (pg_name (i := 5) c_l_why.nd rfl (.inl rfl)) pgs_nil))))))
      (pss_cons (ps_if (PW.pt (pw_or (pt_cmpR op_lt (pv 3) pe_int (nomark _)) (pw_or1 (pt_cmpR op_gt (pv 3) pe_int (nomark _))))) (pss_one (ps_ret pe_str)) pss_nil)
      (pss_cons (ps_set (i := 6) c_l_why.nd rfl (.inl rfl) (pe_ca f_l_month_with b_l_month_with hr (by decide) pass0 rfl (pa_cons (pv 0) (pa_cons (pe_op op_sub (pe_op op_add (pe_op op_mul pe_int (pv 2)) (pv 3)) pe_int) pa_nil))))
      (pss_cons (ps_if (PW.pt (pw_and (pt_val (pv 5)) (pw_and1 (pt_cmp (pc_notN (pe_ca f_l_mark_in b_l_mark_in hr (by decide) pass0 rfl (pa_cons (pv 0) (pa_cons (pe_op op_add (pv 6) pe_int) pa_nil)))))))) (pss_one (ps_ret pe_str)) pss_nil)
      (pss_cons (ps_if (PW.pt (pw_or (pt_cmpR op_lt (pv 4) pe_int (nomark _)) (pw_or1 (pt_cmpR op_gt (pv 4) (pe_ca f_l_long b_l_long hr (by decide) pass0 rfl (pa_cons (pv 0) (pa_cons (pe_op op_add (pv 6) (pe_callTy call_int1 rfl g_int (by decide +kernel) (pa_cons (pv 5) pa_nil))) pa_nil))) (nomark _))))) (pss_one (ps_ret pe_str)) pss_nil)
      (pss_one (ps_ret pe_str))))))), ?_⟩
    refine ⟨_, rfl, t, _, rfl, SqT.of et, rfl, _, _, rfl, _, _, rfl, _, _, rfl, _, _, rfl, rfl, ?_⟩
    have zp := g.zpm (za.mono (by decide)) (zb.mono (by decide))
    refine ⟨_, rfl, _, _, rfl, rfl, _, rfl, ?_⟩
    by_cases hb1 : b < 1
    · rw [decide_eq_true hb1]
      refine iteT (iteT ?_)
      have := q H (Same.refl H)
      unfold whS dyF moF at this
      rw [if_pos hb1] at this
      exact this
    rw [decide_eq_false hb1]
    refine iteF ?_
    refine ⟨_, rfl, _, _, rfl, rfl, _, rfl, ?_⟩
    by_cases hb2 : 12 < b
    · rw [decide_eq_true (show (12 : Int) < b from hb2)]
      refine iteT ?_
      have := q H (Same.refl H)
      unfold whS dyF moF at this
      rw [if_neg hb1, if_pos hb2] at this
      exact this
    rw [decide_eq_false (show ¬ (12 : Int) < b from hb2)]
    refine iteF ?_
    refine ⟨_, rfl, _, rfl, _, _, rfl, rfl, .inl ⟨by decide, by decide⟩, _, rfl, _, _, rfl, rfl, _, _, rfl, rfl, r, _, m, y, o, k, rfl, fo, g, zp.1.mono (by decide), fun H1 s1 => ?_⟩
    have fo1 := fo.same s1
    have zj : Sz 1290 (pmF m y o k a b) := zp.2.mono (by decide)
    have zj1 : Sz 1300 (pmF m y o k a b + 1) := zadd zj 1
    have day : ∀ (i : Int), moF m y o k a b od = .inr i → whS m y o k a b c od = if c < 1 then "day" else if stF m o (i + 1) - stF m o i < c then "day" else "" := fun i hi => by
      unfold whS dyF
      rw [hi]
      dsimp only
      by_cases c1 : c < 1
      · rw [if_pos c1, if_pos c1]
      · rw [if_neg c1, if_neg c1]
        by_cases c2 : stF m o (i + 1) - stF m o i < c
        · rw [if_pos c2, if_pos c2]
        · rw [if_neg c2, if_neg c2]
    have qq : ∀ {x : Str} {H2 : Hp}, Same H H2 → whS m y o k a b c od = x → Q (.str x) H2 := fun s2 e => e ▸ q _ s2
    cases od with
    | false =>
      refine ⟨_, rfl, _, rfl, iteF (iteF ?_)⟩
      have hm : moF m y o k a b false = .inr (pmF m y o k a b) := by
        unfold moF
        rw [if_neg hb1, if_neg hb2]
        rfl
      have e := day _ hm
      refine ⟨_, rfl, _, _, rfl, rfl, _, rfl, ?_⟩
      by_cases c1 : c < 1
      · rw [decide_eq_true c1]
        rw [if_pos c1] at e
        exact iteT (iteT (qq s1 e))
      rw [decide_eq_false c1]
      rw [if_neg c1] at e
      refine iteF ?_
      refine ⟨_, rfl, _, rfl, _, rfl, _, rfl, .inr ⟨_, rfl, _, _, rfl, rfl, ?_⟩⟩
      refine ⟨r, _, m, y, o, k, rfl, fo1, g, (zadd (zj.mono (by decide : 1290 ≤ 1300)) 0 : Sz 1301 _).mono (by decide), fun H2 s2 => ⟨_, _, rfl, rfl, _, rfl, ?_⟩⟩
      have s12 := s1.trans s2
      have e0 : pmF m y o k a b + (if false = true then 1 else 0) = pmF m y o k a b := by simp
      have e1 : maF m o (mdF y k (12 * a + b - 1)) + (if false = true then 1 else 0) = pmF m y o k a b := e0
      rw [e1]
      by_cases c2 : stF m o (pmF m y o k a b + 1) - stF m o (pmF m y o k a b) < c
      · rw [decide_eq_true c2]
        rw [if_pos c2] at e
        exact iteT (qq s12 e)
      · rw [decide_eq_false c2]
        rw [if_neg c2] at e
        exact iteF (qq s12 e)
    | true =>
      refine ⟨_, rfl, _, rfl, iteT ?_⟩
      refine ⟨_, rfl, _, rfl, _, _, rfl, rfl, r, _, m, y, o, k, rfl, fo1, g, zj1.mono (by decide), fun H2 s2 => ?_⟩
      have s12 := s1.trans s2
      have fo2 := fo.same s12
      by_cases hM : hasM m y o k (pmF m y o k a b + 1)
      · have eM : miF m y o k (maF m o (mdF y k (12 * a + b - 1)) + 1) = .int (jF y k (stF m o (pmF m y o k a b + 1))) := by
          show miF m y o k (pmF m y o k a b + 1) = _
          rw [miF_eq, if_pos hM]
        rw [eM]
        refine ⟨_, rfl, yes' (by simp) (qq s12 ?_)⟩
        unfold whS dyF moF
        rw [if_neg hb1, if_neg hb2, if_pos rfl, if_pos hM]
      have eM : miF m y o k (maF m o (mdF y k (12 * a + b - 1)) + 1) = .non := by
        show miF m y o k (pmF m y o k a b + 1) = _
        rw [miF_eq, if_neg hM]
      rw [eM]
      refine ⟨_, rfl, no' (by simp) ?_⟩
      have hm : moF m y o k a b true = .inr (pmF m y o k a b + 1) := by
        unfold moF
        rw [if_neg hb1, if_neg hb2, if_pos rfl, if_neg hM]
      have e := day _ hm
      refine ⟨_, rfl, _, _, rfl, rfl, _, rfl, ?_⟩
      by_cases c1 : c < 1
      · rw [decide_eq_true c1]
        rw [if_pos c1] at e
        exact iteT (iteT (qq s12 e))
      rw [decide_eq_false c1]
      rw [if_neg c1] at e
      refine iteF ?_
      refine ⟨_, rfl, _, rfl, _, rfl, _, rfl, .inr ⟨_, rfl, _, _, rfl, rfl, ?_⟩⟩
      refine ⟨r, _, m, y, o, k, rfl, fo2, g, zj1.mono (by decide), fun H3 s3 => ⟨_, _, rfl, rfl, _, rfl, ?_⟩⟩
      have s13 := s12.trans s3
      have e0 : pmF m y o k a b + (if true = true then 1 else 0) = pmF m y o k a b + 1 := by simp
      have e1 : maF m o (mdF y k (12 * a + b - 1)) + (if true = true then 1 else 0) = pmF m y o k a b + 1 := e0
      rw [e1]
      by_cases c2 : stF m o (pmF m y o k a b + 1 + 1) - stF m o (pmF m y o k a b + 1) < c
      · rw [decide_eq_true c2]
        rw [if_pos c2] at e
        exact iteT (qq s13 e)
      · rw [decide_eq_false c2]
        rw [if_neg c2] at e
        exact iteF (qq s13 e)
end
/-! ### texts that are drawn, and what is due of them -/
def badL : List Str := ["", "5-5-09", "x", "5-05", "5-05-09 ", "5-05-9", "+5-05-09", "5-05-09-", "5/05/09", "5-05*09", "05-05-09"]
theorem bad_all : ∀ t ∈ badL, ¬ (daS (rdd t).y (rdd t).n (rdd t).d (rdd t).o = t) ∧ t.length ≤ 98 ∧ PyData.strOk t = true := by
  intro t ht
  simp only [badL, List.mem_cons, List.not_mem_nil, or_false] at ht
  rcases ht with rfl | rfl | rfl | rfl | rfl | rfl | rfl | rfl | rfl | rfl | rfl <;> decide +kernel
theorem bad_txt {t : Str} (h : t ∈ badL) (m y o k : Rat) : wrt m y o k t = .txt := by
  unfold wrt
  rw [if_neg (bad_all t h).1]
theorem wrt_daS {y' n d : Int} {od : Bool} (hn : 0 ≤ n) (hd : 0 ≤ d) (m y o k : Rat) : wrt m y o k (daS y' n d od) = match dyF m y o k y' n d od with
  | .inl w => .dat ⟨y', n, d, od⟩ w
  | .inr i => .day i := by
  obtain ⟨e1, e2, e3, e4⟩ := rdd_of (t := daS y' n d od) hn hd rfl
  have e5 : rdd (daS y' n d od) = ⟨y', n, d, od⟩ := by
    cases h : rdd (daS y' n d od)
    rw [h] at e1 e2 e3 e4
    cases e1; cases e2; cases e3; cases e4
    rfl
  unfold wrt
  rw [e5, if_pos rfl]
  all_goals (cases dyF m y o k y' n d od <;> rfl)
/-- what is drawn: a text that writes no date, or a date's, with its fields -/
def DrV (H : Hp) (t : Addr) (tx : Str) : Prop := ∃ t2 : Addr, H t = some (.tup [.str tx, .ref t2]) ∧ ((tx ∈ badL ∧ H t2 = some (.tup [.str "text", .non])) ∨
  ∃ (t3 : Addr) (y n d : Int) (od : Bool), H t2 = some (.tup [.str "date", .ref t3]) ∧ H t3 = some (.tup [.int y, .int n, .int d, .bl od]) ∧ tx = daS y n d od ∧ 0 ≤ n ∧ 0 ≤ d ∧ y.natAbs < 10 ^ 32 ∧ n.natAbs < 10 ^ 3 ∧ d.natAbs < 10 ^ 23)
theorem DrV.len {H : Hp} {t : Addr} {tx : Str} (h : DrV H t tx) : tx.length ≤ 98 ∧ PyData.strOk tx = true := by
  obtain ⟨t2, _, ⟨hb, _⟩ | ⟨t3, y, n, d, od, _, _, rfl, hn, hd, ly, ln', ld⟩⟩ := h
  · exact (bad_all _ hb).2
  · exact ⟨Nat.le_trans (daS_len ly ln' ld od) (by decide), daS_ok hn hd od⟩
theorem DrV.same {H H' : Hp} {t : Addr} {tx : Str} (h : DrV H t tx) (s : ∀ c xs, H c = some (.tup xs) → H' c = some (.tup xs)) : DrV H' t tx := by
  obtain ⟨t2, e, h⟩ := h
  refine ⟨t2, s _ _ e, ?_⟩
  rcases h with ⟨a, b⟩ | ⟨t3, y, n, d, od, e1, e2, r⟩
  · exact .inl ⟨a, s _ _ b⟩
  · exact .inr ⟨t3, y, n, d, od, s _ _ e1, s _ _ e2, r⟩
def spDrw : Sp := fun vs H Q _ => ∃ (r l : Addr) (i : Int) (c : Nat) (m y o k : Rat), vs = [.ref r, .int i, .ref l] ∧ Fo H r m y o k ∧ Good m y o k ∧ Sz 90 i ∧ Dr H l c ∧ c ≤ 900000 ∧ ∀ t tx H', But l H H' → Dr H' l (c + 2) → DrV H' t tx → Q (.ref t) H'
/-- what is due of a text -/
def dueD (t : Str) : WrK → PyData
  | .txt => .list [.str "text", .str t, .none]
  | .dat z w => .list [.str "date", .tuple [.int z.y, .int z.n, .int z.d, .bool z.o], .str w]
  | .day _ => .list [.str "good", .none, .none]
def hdD : WrK → Str
  | .txt => "text"
  | .dat _ _ => "date"
  | .day _ => "good"
def spDu : Sp := fun vs H Q _ => ∃ (r t : Addr) (tx : Str) (m y o k : Rat) (P : Addr → Prop), vs = [.ref r, .ref t] ∧ Fo H r m y o k ∧ Good m y o k ∧ DrV H t tx ∧ (∀ c, P c → H c ≠ none) ∧ (∀ c, P c → ∀ xs, H c ≠ some (.tup xs)) ∧
  ∀ a xs H', Same H H' → H a = none → H' a = some (.lst (.str (hdD (wrt m y o k tx)) :: xs)) → DA H' P (.ref a) (dueD tx (wrt m y o k tx)) → Q (.ref a) H'
theorem zadd' {i j : Int} (h : Sz 90 i) (h0 : 0 ≤ j) (h1 : j < 3) : Sz 100 (i + j) := by
  refine Sz.mono (n := 91) ?_ (by decide)
  unfold Sz at *
  omega
section
variable {P : Program} {w : World} {K : PySem.W.Frag} {mg : Str → Option Value} {base : Heap}
theorem ok_ldrw (D : Df K mg "_law_drawn" s_l_drawn []) (f_l_next : Ca P w K mg base CX0 1 "_law_next" s_l_next [] ["_law_draws_here"] spNext) (f_l_date : Ca P w K mg base CX0 6 "_law_date" s_l_date [] ["_law_four_here", "_law_day"] spLDate) (f_l_text : Ca P w K mg base CX0 1 "_law_text" s_l_text [] ["_law_fields"] spLTx) : Ca P w K mg base CX0 7 "_law_drawn" s_l_drawn [] ["_law_four_here", "_law_first", "_law_draws_here"] spDrw := by
  refine ca0 (k := 6) D c_l_drawn (fun vs H Q E h => ?_) fun f cdv A outer s H vs Q E hr h => ?_
  · obtain ⟨r, l, i, c, m, y, o, k, rfl, _⟩ := h
    rfl
  · obtain ⟨r, l, i, c, m, y, o, k, rfl, fo, g, zi, d0, hc, q⟩ := h
    refine ⟨_, (pss_cons (ps_set (i := 3) c_l_drawn.nd rfl (.inl rfl) (pe_ca f_l_next b_l_next hr (by decide) pass0 rfl (pa_cons (pv 2) pa_nil)))
      (pss_cons (ps_set (i := 4) c_l_drawn.nd rfl (.inl rfl) (pe_lst (pa_cons pe_str (pa_cons pe_str (pa_cons pe_str (pa_cons pe_str (pa_cons pe_str (pa_cons pe_str (pa_cons pe_str (pa_cons pe_str (pa_cons pe_str (pa_cons pe_str (pa_cons pe_str pa_nil)))))))))))))
      (pss_cons (ps_if (pt_cmpR op_eq (pe_op op_mod (pv 3) pe_int) pe_int (nomark _)) (pss_one (ps_ret (pe_tup (pa_cons (pe_ix ix_list (pv 4) (pe_op op_mod (pe_op op_fdiv (pv 3) pe_int) pe_int) (fun _ _ => rfl)) (pa_cons (pe_tup (pa_cons pe_str (pa_cons pe_non pa_nil))) pa_nil))))) pss_nil)
      (pss_cons (ps_asg (pe_ca f_l_date b_l_date hr (by decide) pass0 rfl (pa_cons (pv 0) (pa_cons (pe_op op_add (pv 1) (pe_op op_mod (pe_op op_fdiv (pv 3) pe_int) pe_int)) pa_nil))) (pg_tup rfl (pgs_cons (pg_name (i := 5) c_l_drawn.nd rfl (.inl rfl)) (pgs_cons (pg_name (i := 6) c_l_drawn.nd rfl (.inl rfl)) (pgs_cons (pg_name (i := 7) c_l_drawn.nd rfl (.inl rfl)) (pgs_cons (pg_name (i := 8) c_l_drawn.nd rfl (.inl rfl)) pgs_nil))))))
      (pss_cons (ps_set (i := 9) c_l_drawn.nd rfl (.inl rfl) (pe_ca f_l_next b_l_next hr (by decide) pass0 rfl (pa_cons (pv 2) pa_nil)))
      (C8.pss_cut (ps_if (pt_cmpR op_eq (pe_op op_mod (pv 3) pe_int) pe_int (nomark _)) (pss_one (ps_par (i := 6) (j := 8) rfl c_l_drawn.nd rfl rfl (by decide) rfl rfl (pa_cons (pe_op op_mod (pv 9) pe_int) (pa_cons (pe_cmpR op_eq (pe_op op_mod (pe_op op_fdiv (pv 9) pe_int) pe_int) pe_int (nomark _)) pa_nil)) rfl)) pss_nil)
      (C8.pss_cut (ps_if (pt_cmpR op_eq (pe_op op_mod (pv 3) pe_int) pe_int (nomark _)) (pss_one (ps_set (i := 7) c_l_drawn.nd rfl (.inl rfl) (pe_ix ix_list (pe_lst (pa_cons pe_int (pa_cons pe_int (pa_cons pe_int (pa_cons pe_int (pa_cons (pe_op op_add pe_int (pe_op op_mod (pv 9) pe_int)) (pa_cons (pe_op op_pow pe_int pe_int) pa_nil))))))) (pe_op op_mod (pe_op op_fdiv (pv 9) pe_int) pe_int) (fun _ _ => rfl)))) pss_nil)
      (C8.pss_cut (ps_if (pt_cmpR op_eq (pe_op op_mod (pv 3) pe_int) pe_int (nomark _)) (pss_one (ps_set (i := 8) c_l_drawn.nd rfl (.inl rfl) (pe_not (pv 8)))) pss_nil)
      (pss_one (ps_ret (pe_tup (pa_cons (pe_ca f_l_text b_l_text hr (by decide) pass0 rfl (pa_cons (pe_tup (pa_cons (pv 5) (pa_cons (pv 6) (pa_cons (pv 7) (pa_cons (pv 8) pa_nil))))) pa_nil)) (pa_cons (pe_tup (pa_cons pe_str (pa_cons (pe_tup (pa_cons (pv 5) (pa_cons (pv 6) (pa_cons (pv 7) (pa_cons (pv 8) pa_nil))))) pa_nil))) pa_nil))))))))))))), ?_⟩
    refine ⟨_, rfl, l, c, rfl, d0, by omega, fun pk H1 p0 p1 b1 d1 => ?_⟩
    refine ⟨ln _, fun pb nb => ?_⟩
    have s1 := Same.new (o := .lst (badL.map V.str)) nb
    have eb := upd_same (H := H1) (a := pb) (o := .lst (badL.map V.str))
    have fo1 := (fo.but b1 d0).same s1
    have d1' := d1.same s1 (Nat.le_refl _)
    have b1' := b1.trans (But.same s1)
    refine ⟨_, rfl, _, _, rfl, rfl, md, rfl, _, rfl, ?_⟩
    have nd2 : ∀ {H' : Hp} {c : Nat}, Dr H' l c → ∀ {a : Addr}, H' a = none → a ≠ l := by
      intro H' c dd a e w
      obtain ⟨_, _, _, el, _⟩ := dd
      rw [w, el] at e
      cases e
    refine ite2 (fun _ => ?_) (fun _ => ?_)
    · have y0 := Int.emod_nonneg (pk / 5) (show (11 : Int) ≠ 0 by decide)
      have y1 := Int.emod_lt_of_pos (pk / 5) (show (0 : Int) < 11 by decide)
      obtain ⟨one, ho, tx, rfl, htx⟩ := pick (P := fun v => ∃ t : Str, v = V.str t ∧ t ∈ badL) (xs := badL.map V.str) y0 y1 (by
        intro v hv
        obtain ⟨t, ht, rfl⟩ := List.mem_map.mp hv
        exact ⟨t, rfl, ht⟩)
      refine ⟨_, rfl, _, rfl, _, _, rfl, rfl, ⟨by decide, by decide⟩, _, _, rfl, rfl, md, pb, _, _, _, rfl, rfl, SqL.of eb, ho, ?_⟩
      refine ⟨ln _, fun t2 nt2 => ?_⟩
      refine ⟨ln _, fun t nt => ?_⟩
      have s3 := (Same.new (o := .tup [.str "text", .non]) nt2).trans (Same.new (o := .tup [.str tx, .ref t2]) nt)
      refine q t tx _ (b1'.trans (But.same s3)) (d1'.same s3 (by omega)) ⟨t2, upd_same, .inl ⟨htx, ?_⟩⟩
      exact Same.new nt _ _ upd_same
    · have z0 := Int.emod_nonneg (pk / 5) (show (3 : Int) ≠ 0 by decide)
      have z1 := Int.emod_lt_of_pos (pk / 5) (show (0 : Int) < 3 by decide)
      refine ⟨_, rfl, _, rfl, _, rfl, _, _, rfl, rfl, ⟨by decide, by decide⟩, _, _, rfl, rfl, md, _, _, rfl, rfl, r, _, m, y, o, k, rfl, fo1, g, (zadd' zi z0 z1).mono (by decide), fun t H3 nt s3 et => ?_⟩
      obtain ⟨_, h0, h1, hy, hn, hd⟩ := dtT_len g (zadd' zi z0 z1)
      refine ⟨t, _, rfl, SqT.of et, rfl, _, _, rfl, _, _, rfl, _, _, rfl, _, _, rfl, rfl, ?_⟩
      generalize dtY m y o k (i + pk / 5 % 3) = yy at *
      generalize dtN m y o k (i + pk / 5 % 3) = nn at *
      generalize dtD m o (i + pk / 5 % 3) = dd at *
      generalize dtO m y o k (i + pk / 5 % 3) = oo at *
      have b3 := b1'.trans (But.same s3)
      have d3 := d1'.same s3 (Nat.le_refl _)
      refine ⟨_, rfl, l, c + 1, rfl, d3, by omega, fun mo H4 m0 m1 b4 d4 => ?_⟩
      have b04 := b3.trans b4
      have st : ∀ {n d : Int} {od : Bool}, 0 ≤ n → 0 ≤ d → n.natAbs < 10 ^ 3 → d.natAbs < 10 ^ 23 → (0 ≤ n ∧ 0 ≤ d ∧ n.natAbs < 10 ^ 3 ∧ d.natAbs < 10 ^ 23) := fun a b c d => ⟨a, b, c, d⟩
      refine ⟨fun σ' H' => H' = H4 ∧ ∃ (n d : Int) (od : Bool), (0 ≤ n ∧ 0 ≤ d ∧ n.natAbs < 10 ^ 3 ∧ d.natAbs < 10 ^ 23) ∧ σ' = [some (.ref r), some (.int i), some (.ref l), some (.int pk), some (.ref pb), some (.int yy), some (.int n), some (.int d), some (.bl od), some (.int mo)], ?_, ?_⟩
      · refine ⟨_, rfl, _, _, rfl, rfl, md, rfl, _, rfl, ite2 (fun _ => ?_) (fun _ => ?_)⟩
        · have w0 := Int.emod_nonneg mo (show (14 : Int) ≠ 0 by decide)
          have w1 := Int.emod_lt_of_pos mo (show (0 : Int) < 14 by decide)
          exact ⟨_, rfl, _, _, rfl, rfl, md, _, rfl, _, _, rfl, rfl, ⟨by decide, by decide⟩, _, _, rfl, rfl, md, rfl, _, _, rfl, rfl, _, dd, _, ⟨w0, h1, by omega, hd⟩, rfl⟩
        · exact ⟨rfl, nn, dd, oo, ⟨h0, h1, hn, hd⟩, rfl⟩
      rintro σ' H' ⟨rfl, n1, dd1, od1, ⟨h0, h1, hn, hd⟩, rfl⟩
      refine ⟨fun σ'' H'' => (∃ (q' : Addr) (o' : HO), (H'' = H' ∨ (H' q' = none ∧ H'' = L2.upd H' q' o'))) ∧ ∃ (n d : Int) (od : Bool), (0 ≤ n ∧ 0 ≤ d ∧ n.natAbs < 10 ^ 3 ∧ d.natAbs < 10 ^ 23) ∧ σ'' = [some (.ref r), some (.int i), some (.ref l), some (.int pk), some (.ref pb), some (.int yy), some (.int n), some (.int d), some (.bl od), some (.int mo)], ?_, ?_⟩
      · refine ⟨_, rfl, _, _, rfl, rfl, md, rfl, _, rfl, ite2 (fun _ => ?_) (fun _ => ?_)⟩
        · have w0 := Int.emod_nonneg mo (show (40 : Int) ≠ 0 by decide)
          have w1 := Int.emod_lt_of_pos mo (show (0 : Int) < 40 by decide)
          have v0 := Int.emod_nonneg (mo / 40) (show (6 : Int) ≠ 0 by decide)
          have v1 := Int.emod_lt_of_pos (mo / 40) (show (0 : Int) < 6 by decide)
          obtain ⟨one, ho, d2, rfl, hd0, hd2⟩ := pick (P := fun v => ∃ j : Int, v = V.int j ∧ 0 ≤ j ∧ j.natAbs < 10 ^ 23) (xs := [V.int 0, V.int 31, V.int 32, V.int 99, V.int (1 + mo % 40), V.int (10 ^ (15 : Int).toNat)]) v0 v1 (by
            intro v hv
            simp only [List.mem_cons, List.not_mem_nil, or_false] at hv
            rcases hv with rfl | rfl | rfl | rfl | rfl | rfl
            · exact ⟨_, rfl, by decide, by decide⟩
            · exact ⟨_, rfl, by decide, by decide⟩
            · exact ⟨_, rfl, by decide, by decide⟩
            · exact ⟨_, rfl, by decide, by decide⟩
            · exact ⟨_, rfl, by omega, by omega⟩
            · exact ⟨_, rfl, by decide, by decide⟩)
          refine ⟨_, rfl, _, _, rfl, rfl, md, _, _, rfl, rfl, _, _, rfl, rfl, ⟨by decide, by decide, by decide⟩, ln _, fun pl npl => ?_⟩
          refine ⟨_, rfl, _, _, rfl, rfl, ⟨by decide, by decide⟩, _, _, rfl, rfl, md, pl, _, _, _, rfl, rfl, SqL.of upd_same, ho, ?_⟩
          exact ⟨⟨pl, _, .inr ⟨npl, rfl⟩⟩, n1, d2, od1, ⟨h0, hd0, hn, hd2⟩, rfl⟩
        · exact ⟨⟨l, .tup [], .inl rfl⟩, n1, dd1, od1, ⟨h0, h1, hn, hd⟩, rfl⟩
      rintro σ'' H'' ⟨⟨q', o', hq'⟩, n2, dd2, od2, ⟨h0, h1, hn, hd⟩, rfl⟩
      have s5 : Same H' H'' := by
        rcases hq' with rfl | ⟨nq, rfl⟩
        · exact Same.refl _
        · exact Same.new nq
      clear hq'
      refine ⟨fun σ3 H3' => H3' = H'' ∧ ∃ od : Bool, σ3 = [some (.ref r), some (.int i), some (.ref l), some (.int pk), some (.ref pb), some (.int yy), some (.int n2), some (.int dd2), some (.bl od), some (.int mo)], ?_, ?_⟩
      · refine ⟨_, rfl, _, _, rfl, rfl, md, rfl, _, rfl, ite2 (fun _ => ?_) (fun _ => ?_)⟩
        · exact ⟨_, rfl, _, rfl, rfl, _, rfl⟩
        · exact ⟨rfl, _, rfl⟩
      rintro σ3 H3' ⟨rfl, od3, rfl⟩
      have b5 := b04.trans (But.same s5)
      have d5 := d4.same s5 (Nat.le_refl _)
      refine ⟨_, rfl, _, rfl, _, rfl, _, rfl, ln _, fun ta na => ?_⟩
      have s6 := Same.new (o := .tup [.int yy, .int n2, .int dd2, .bl od3]) na
      refine ⟨ta, yy, n2, dd2, od3, rfl, upd_same, h0, h1, hy, hn, hd, fun H7 s7 => ?_⟩
      have s67 := s6.trans s7
      refine ⟨_, rfl, _, rfl, _, rfl, _, rfl, ln _, fun t3 nt3 => ?_⟩
      have s8 := s67.trans (Same.new (o := .tup [.int yy, .int n2, .int dd2, .bl od3]) nt3)
      have e3 := upd_same (H := H7) (a := t3) (o := .tup [.int yy, .int n2, .int dd2, .bl od3])
      generalize L2.upd H7 t3 _ = H8 at *
      refine ⟨ln _, fun t2 nt2 => ?_⟩
      refine ⟨ln _, fun t nt => ?_⟩
      have s9 := (Same.new (o := .tup [.str "date", .ref t3]) nt2).trans (Same.new (o := .tup [.str (daS yy n2 dd2 od3), .ref t2]) nt)
      refine q t _ _ ((b5.trans (But.same (s8.trans s9)))) (d5.same (s8.trans s9) (Nat.le_refl _)) ⟨t2, upd_same, .inr ⟨t3, yy, n2, dd2, od3, ?_, s9 _ _ e3, rfl, h0, h1, hy, hn, hd⟩⟩
      exact Same.new nt _ _ upd_same
end
section
variable {P : Program} {w : World} {K : PySem.W.Frag} {mg : Str → Option Value} {base : Heap}
theorem whS_of {m y o k : Rat} {a b c : Int} {od : Bool} (hb : 0 ≤ b) (hc : 0 ≤ c) : (wrt m y o k (daS a b c od) = .dat ⟨a, b, c, od⟩ (whS m y o k a b c od) ∧ whS m y o k a b c od ≠ "") ∨ (∃ i, wrt m y o k (daS a b c od) = .day i ∧ whS m y o k a b c od = "") := by
  rw [wrt_daS hb hc]
  cases h : dyF m y o k a b c od with
  | inr i =>
    refine .inr ⟨i, rfl, ?_⟩
    unfold whS
    rw [h]
  | inl x =>
    have e : whS m y o k a b c od = x := by
      unfold whS
      rw [h]
    refine .inl ⟨by rw [e], ?_⟩
    rw [e]
    have key : x = "number" ∨ x = "odd" ∨ x = "day" := by
      unfold dyF at h
      cases hm : moF m y o k a b od with
      | inl w =>
        rw [hm] at h
        cases h
        unfold moF at hm
        split at hm
        · cases hm; exact .inl rfl
        split at hm
        · cases hm; exact .inl rfl
        split at hm
        · split at hm
          · cases hm; exact .inr (.inl rfl)
          · cases hm
        · cases hm
      | inr j =>
        rw [hm] at h
        dsimp only at h
        split at h
        · cases h; exact .inr (.inr rfl)
        split at h
        · cases h; exact .inr (.inr rfl)
        · cases h
    rcases key with rfl | rfl | rfl <;> decide +kernel
theorem ok_ldu (D : Df K mg "_law_due" s_l_due []) (g_int : mg "int" = none) (f_l_why : Ca P w K mg base CX0 6 "_law_why" s_l_why [] ["_law_four_here", "_law_fields"] spWy) : Ca P w K mg base CX0 7 "_law_due" s_l_due [] ["_law_four_here", "_law_drawn_here"] spDu := by
  refine ca0 (k := 6) D c_l_due (fun vs H Q E h => ?_) fun f cdv A outer s H vs Q E hr h => ?_
  · obtain ⟨r, t, tx, m, y, o, k, P', rfl, _⟩ := h
    rfl
  · obtain ⟨r, t, tx, m, y, o, k, P', rfl, fo, g, dv, pn, pt, q⟩ := h
    obtain ⟨t2, et, dv⟩ := dv
    refine ⟨_, (pss_cons (ps_asg (pv 1) (pg_tup rfl (pgs_cons (pg_name (i := 2) c_l_due.nd rfl (.inl rfl)) (pgs_cons (pg_tup rfl (pgs_cons (pg_name (i := 3) c_l_due.nd rfl (.inl rfl)) (pgs_cons (pg_name (i := 4) c_l_due.nd rfl (.inl rfl)) pgs_nil))) pgs_nil))))
      (pss_cons (ps_if (pt_cmpR op_eq (pv 3) pe_str (nomark _)) (pss_one (ps_ret (pe_lst (pa_cons pe_str (pa_cons (pv 2) (pa_cons pe_non pa_nil)))))) pss_nil)
      (pss_cons (ps_set (i := 5) c_l_due.nd rfl (.inl rfl) (pe_ca f_l_why b_l_why hr (by decide) pass0 rfl (pa_cons (pv 0) (pa_cons (pv 4) pa_nil))))
      (pss_one (ps_ret (pe_ix ix_list (pe_lst (pa_cons (pe_lst (pa_cons pe_str (pa_cons (pv 4) (pa_cons (pv 5) pa_nil)))) (pa_cons (pe_lst (pa_cons pe_str (pa_cons pe_non (pa_cons pe_non pa_nil)))) pa_nil))) (pe_callTy call_int1 rfl g_int (by decide +kernel) (pa_cons (pe_cmpR op_eq (pv 5) pe_str (nomark _)) pa_nil)) (fun _ _ => rfl))))))), ?_⟩
    rcases dv with ⟨hb, e2⟩ | ⟨t3, a, b, c, od, e2, e3, rfl, h0, h1, la, lb, lc⟩
    · refine ⟨_, rfl, t, _, rfl, SqT.of et, rfl, _, _, rfl, _, _, rfl, t2, _, rfl, SqT.of e2, rfl, _, _, rfl, _, _, rfl, rfl, rfl, ?_⟩
      refine ⟨_, rfl, rfl, _, rfl, ?_⟩
      rw [decide_eq_true rfl]
      refine iteT ⟨_, rfl, ln _, fun p na => ?_⟩
      have ew := bad_txt hb m y o k
      refine q p [.str tx, .non] _ (Same.new na) na ?_ ?_
      · rw [ew]
        exact upd_same
      · rw [ew]
        exact .lst upd_same (fun w => pn p w na) (.cons (.str _) (.cons (.str _) (.cons .non .nil)))
    · refine ⟨_, rfl, t, _, rfl, SqT.of et, rfl, _, _, rfl, _, _, rfl, t2, _, rfl, SqT.of e2, rfl, _, _, rfl, _, _, rfl, rfl, rfl, ?_⟩
      refine ⟨_, rfl, rfl, _, rfl, ?_⟩
      have ne : decide (V.str ("date" : Str) = V.str ("text" : Str)) = false := decide_eq_false fun w => absurd (V.str.inj w) (by decide +kernel)
      rw [ne]
      have za : Sz 640 a := Nat.lt_of_lt_of_le la (by decide)
      have zb : Sz 640 b := Nat.lt_of_lt_of_le lb (by decide)
      refine iteF ⟨_, rfl, _, rfl, r, t3, a, b, c, od, m, y, o, k, rfl, fo, g, e3, za, zb, fun H1 s1 => ?_⟩
      have hw := whS_of (m := m) (y := y) (o := o) (k := k) (a := a) (od := od) h0 h1
      generalize whS m y o k a b c od = x at *
      refine ⟨_, rfl, _, rfl, ln _, fun p1 n1 => ?_⟩
      refine ⟨ln _, fun p2 n2 => ?_⟩
      refine ⟨ln _, fun p3 n3 => ?_⟩
      have s2 := Same.new (o := .lst [.str "date", .ref t3, .str x]) n1
      have e4 := upd_same (H := H1) (a := p1) (o := .lst [.str "date", .ref t3, .str x])
      generalize L2.upd H1 p1 _ = H2 at *
      have s3 := Same.new (o := .lst [.str "good", .non, .non]) n2
      have e5 := upd_same (H := H2) (a := p2) (o := .lst [.str "good", .non, .non])
      generalize L2.upd H2 p2 _ = H3 at *
      have s4 := Same.new (o := .lst [.ref p1, .ref p2]) n3
      have s24 := s2.trans (s3.trans s4)
      have s14 := s1.trans s24
      refine ⟨_, rfl, rfl, .inr ⟨_, rfl, p3, _, _, ?_, rfl, rfl, SqL.of upd_same, ?_, ?_⟩⟩
      · exact if x = "" then .ref p2 else .ref p1
      · by_cases hx : x = ""
        · rw [if_pos hx, decide_eq_true (congrArg V.str hx)]
          rfl
        · rw [if_neg hx, decide_eq_false (fun w => hx (V.str.inj w))]
          rfl
      · rcases hw with ⟨ew, hx⟩ | ⟨i, ew, hx⟩
        · rw [if_neg hx]
          refine q p1 [.ref t3, .str x] _ s14 (s1.free n1) ?_ ?_
          · rw [ew]
            exact s4 _ _ (s3 _ _ e4)
          · rw [ew]
            exact .lst (s4 _ _ (s3 _ _ e4)) (fun w => pn p1 w (s1.free n1)) (.cons (.str _) (.cons (.tup (s14 _ _ e3) (fun w => pt t3 w _ e3) (.cons (.int _) (.cons (.int _) (.cons (.int _) (.cons (.bl _) .nil))))) (.cons (.str _) .nil)))
        · rw [if_pos hx]
          have n2' : H p2 = none := (s1.trans s2).free n2
          refine q p2 [.non, .non] _ s14 n2' ?_ ?_
          · rw [ew]
            exact s4 _ _ e5
          · rw [ew]
            exact .lst (s4 _ _ e5) (fun w => pn p2 w n2') (.cons (.str _) (.cons .non (.cons .non .nil)))
end
/-! ### what is asked of a diary -/
inductive Rf
  | good | txt (t : Str) | dat (z : Rdd) (w : Str) | note (a : Int) | deed
def rfW (t : Str) : WrK → Rf
  | .txt => .txt t
  | .dat z w => .dat z w
  | .day _ => .good
def thenR (t u : Str) (r r' : WrK) : Rf := match r with
  | .day _ => rfW u r'
  | r => rfW t r
def askR (m y o k : Rat) (way : Int) (t u : Str) (a : Int) : Rf :=
  if way = 0 then rfW t (wrt m y o k t) else if way = 1 then (match wrt m y o k t with
  | .day _ => .note a
  | r => rfW t r) else if way = 2 then thenR t u (wrt m y o k t) (wrt m y o k u) else if way = 3 then thenR u t (wrt m y o k u) (wrt m y o k t) else if way = 4 then rfW t (wrt m y o k t) else .deed
structure AskOk (m y o k : Rat) (f : Int → List Str) (U : List (List Row)) (way : Int) (t u : Str) (a : Int) : Prop where
  lt : t.length ≤ 98
  lu : u.length ≤ 98
  b : (way = 0 ∨ way = 2 ∨ way = 3) → askR m y o k way t u a ≠ .good
  at1 : way = 1 → ∀ i, wrt m y o k t = .day i → (a < 0 ∨ ((f i).length : Int) ≤ a) ∧ (f i).length ≤ 100000
  un : ¬ (way = 0 ∨ way = 1 ∨ way = 2 ∨ way = 3 ∨ way = 4) → U = []
def RfE (CN CD Cd CW CZ : Addr) (E : XK) (H : Hp) : Rf → Prop
  | .good => True
  | .txt t => NtE CN E H t
  | .dat z w => ∀ d H1, Same H H1 → Da Cd H1 d z.y z.n z.d z.o → NdE CD E H1 d w
  | .note a => NxE CW "at" E H (.int a)
  | .deed => E (.ref CZ) none H
theorem rfE_wr {CN CD Cd CW CZ : Addr} {E : XK} {H : Hp} {t : Str} {r : WrK} (h : RfE CN CD Cd CW CZ E H (rfW t r)) : WrE CN CD Cd E H t r := by
  cases r with
  | txt => exact h
  | dat z w => exact h
  | day i => exact trivial
def spAsk82 (C Cc Cv Cd CN CD CW CZ : Addr) : Sp := fun vs H Q E => ∃ (b p d l : Addr) (way : Int) (t u : Str) (a : Int) (m y o k : Rat) (f : Int → List Str) (U : List (List Row)) (n : Nat), vs = [.ref b, .int way, .str t, .str u, .int a] ∧ Dy C Cc Cv H b p d l m y o k f U n ∧ n ≤ 9000 ∧ AskOk m y o k f U way t u a ∧
  (askR m y o k way t u a = .good → ∀ H', Same H H' → Q .non H') ∧ RfE CN CD Cd CW CZ E H (askR m y o k way t u a)
section
variable {P : Program} {w : World} {K : PySem.W.Frag} {mg : Str → Option Value} {base : Heap} {C Cc Cd CN CD CW CZ Cv : Addr}
theorem ok_lask82 (D : Df K mg "_law_ask" s_l_ask []) (f_note : Cm P w K mg base (L2.CX P w) 14 Cv "note" "Diary.note" s_Diary_note ["self", "date", "text"] (spNo C Cc Cv Cd CN CD)) (f_strike : Cm P w K mg base (L2.CX P w) 14 Cv "strike" "Diary.strike" s_Diary_strike ["self", "date", "at"] (spSkX C Cc Cv Cd CN CD CW))
    (f_moved : Cm P w K mg base (L2.CX P w) 14 Cv "moved" "Diary.moved" s_Diary_moved ["self", "date", "other"] (spMvX C Cc Cv Cd CN CD)) (f_notes_on : Cm P w K mg base (L2.CX P w) 14 Cv "notes_on" "Diary.notes_on" s_Diary_notes_on ["self", "date"] (spOn C Cc Cv Cd CN CD)) (f_undo : Cm P w K mg base (L2.CX P w) 3 Cv "undo" "Diary.undo" s_Diary_undo ["self"] (spUn C Cc Cv CZ)) :
    Ca P w K mg base (L2.CX P w) 15 "_law_ask" s_l_ask [] ["_law_diary", "_law_way", "_law_text_here", "_law_other", "_law_at"] (spAsk82 C Cc Cv Cd CN CD CW CZ) := by
  refine caX (k := 14) D c_l_ask (fun vs H Q E h => ?_) fun f cdv A outer s H vs Q E hr h => ?_
  · obtain ⟨b, p, d, l, way, t, u, a, m, y, o, k, f, U, n, rfl, _⟩ := h
    rfl
  · obtain ⟨b, p, d, l, way, t, u, a, m, y, o, k, f, U, n, rfl, hy, hn, ao, qg, qe⟩ := h
    obtain ⟨dx, eb⟩ := hy.ob
    have no : ∀ {x : Str}, ¬ (x = ("deeds" : Str)) → ¬ (x = ("kept" : Str)) → ¬ (x = ("calendar" : Str)) → (dvs p d l).lookup x = none := dv_no p d l
    refine ⟨_, (pss_one (ps_if (pt_cmpR op_eq (pv 1) pe_int (nomark _)) (pss_one (ps_expr (pe_cm f_note b_Diary_note hr (by decide) (passes_call (takes_of (E := E) rfl rfl rfl rfl) fun _ _ _ _ z => z) (pv 0) (pa_cons (pv 2) (pa_cons pe_str pa_nil))))) (pss_one (ps_if (pt_cmpR op_eq (pv 1) pe_int (nomark _)) (pss_one (ps_expr (pe_cm f_strike b_Diary_strike hr (by decide) (passes_call (takes_of (E := E) rfl rfl rfl rfl) fun _ _ _ _ z => z) (pv 0) (pa_cons (pv 2) (pa_cons (pv 4) pa_nil))))) (pss_one (ps_if (pt_cmpR op_eq (pv 1) pe_int (nomark _)) (pss_one (ps_expr (pe_cm f_moved b_Diary_moved hr (by decide) (passes_call (takes_of (E := E) rfl rfl rfl rfl) fun _ _ _ _ z => z) (pv 0) (pa_cons (pv 2) (pa_cons (pv 3) pa_nil))))) (pss_one (ps_if (pt_cmpR op_eq (pv 1) pe_int (nomark _)) (pss_one (ps_expr (pe_cm f_moved b_Diary_moved hr (by decide) (passes_call (takes_of (E := E) rfl rfl rfl rfl) fun _ _ _ _ z => z) (pv 0) (pa_cons (pv 3) (pa_cons (pv 2) pa_nil))))) (pss_one (ps_if (pt_cmpR op_eq (pv 1) pe_int (nomark _)) (pss_one (ps_expr (pe_cm f_notes_on b_Diary_notes_on hr (by decide) (passes_call (takes_of (E := E) rfl rfl rfl rfl) fun _ _ _ _ z => z) (pv 0) (pa_cons (pv 2) pa_nil)))) (pss_one (ps_expr (pe_cm0 f_undo b_Diary_undo hr (by decide) (passes_call (takes_of (E := E) rfl rfl rfl rfl) fun _ _ _ _ z => z) (pv 0)))))))))))))), ?_⟩
    have dec : ∀ j : Int, decide (V.int way = V.int j) = decide (way = j) := fun j => dec_int way j
    refine ⟨_, rfl, rfl, _, rfl, ?_⟩
    rw [dec]
    by_cases w0 : way = 0
    · rw [decide_eq_true w0]
      have e : askR m y o k way t u a = rfW t (wrt m y o k t) := by unfold askR; rw [if_pos w0]
      have ng := ao.b (.inl w0)
      rw [e] at qe ng
      refine iteT ⟨_, rfl, b, dx, _, rfl, eb, no (by decide +kernel) (by decide +kernel) (by decide +kernel), _, rfl, b, p, d, l, t, ("q" : Str), m, y, o, k, f, U, n, rfl, ao.lt, hy, hn, fun i hi => ?_, rfE_wr qe⟩
      rw [hi] at ng
      exact absurd rfl ng
    rw [decide_eq_false w0]
    refine iteF ⟨_, rfl, rfl, _, rfl, ?_⟩
    rw [dec]
    by_cases w1 : way = 1
    · rw [decide_eq_true w1]
      have e : askR m y o k way t u a = (match wrt m y o k t with
        | .day _ => .note a
        | r => rfW t r) := by unfold askR; rw [if_neg w0, if_pos w1]
      rw [e] at qe
      have at1 := ao.at1 w1
      refine iteT ⟨_, rfl, b, dx, _, rfl, eb, no (by decide +kernel) (by decide +kernel) (by decide +kernel), _, rfl, _, rfl, b, p, d, l, t, a, m, y, o, k, f, U, n, rfl, ao.lt, hy, fun i hi => ?_, ?_⟩
      · rw [hi] at qe
        exact ⟨(at1 i hi).1, (at1 i hi).2, qe⟩
      · cases hw : wrt m y o k t with
        | txt => rw [hw] at qe; exact qe
        | dat z w => rw [hw] at qe; exact qe
        | day i => exact trivial
    rw [decide_eq_false w1]
    refine iteF ⟨_, rfl, rfl, _, rfl, ?_⟩
    rw [dec]
    have mv : ∀ {t u : Str}, RfE CN CD Cd CW CZ E H (thenR t u (wrt m y o k t) (wrt m y o k u)) → thenR t u (wrt m y o k t) (wrt m y o k u) ≠ .good →
        WrE CN CD Cd E H t (wrt m y o k t) ∧ (∀ i, wrt m y o k t = .day i → (∀ j, wrt m y o k u ≠ .day j) ∧ WrE CN CD Cd E H u (wrt m y o k u)) := fun {t u} q ng => by
      cases hw : wrt m y o k t with
      | txt => rw [hw] at q; exact ⟨q, fun i hi => by cases hi⟩
      | dat z w => rw [hw] at q; exact ⟨q, fun i hi => by cases hi⟩
      | day i =>
        rw [hw] at q ng
        refine ⟨trivial, fun i _ => ⟨fun j hj => ?_, rfE_wr (t := u) q⟩⟩
        rw [hj] at ng
        exact ng rfl
    by_cases w2 : way = 2
    · rw [decide_eq_true w2]
      have e : askR m y o k way t u a = thenR t u (wrt m y o k t) (wrt m y o k u) := by unfold askR; rw [if_neg w0, if_neg w1, if_pos w2]
      have ng := ao.b (.inr (.inl w2))
      rw [e] at qe ng
      obtain ⟨m1, m2⟩ := mv qe ng
      exact iteT ⟨_, rfl, b, dx, _, rfl, eb, no (by decide +kernel) (by decide +kernel) (by decide +kernel), _, rfl, _, rfl, b, p, d, l, t, u, m, y, o, k, f, U, n, rfl, ao.lt, ao.lu, hy, m1, m2⟩
    rw [decide_eq_false w2]
    refine iteF ⟨_, rfl, rfl, _, rfl, ?_⟩
    rw [dec]
    by_cases w3 : way = 3
    · rw [decide_eq_true w3]
      have e : askR m y o k way t u a = thenR u t (wrt m y o k u) (wrt m y o k t) := by unfold askR; rw [if_neg w0, if_neg w1, if_neg w2, if_pos w3]
      have ng := ao.b (.inr (.inr w3))
      rw [e] at qe ng
      obtain ⟨m1, m2⟩ := mv qe ng
      exact iteT ⟨_, rfl, b, dx, _, rfl, eb, no (by decide +kernel) (by decide +kernel) (by decide +kernel), _, rfl, _, rfl, b, p, d, l, u, t, m, y, o, k, f, U, n, rfl, ao.lu, ao.lt, hy, m1, m2⟩
    rw [decide_eq_false w3]
    refine iteF ⟨_, rfl, rfl, _, rfl, ?_⟩
    rw [dec]
    by_cases w4 : way = 4
    · rw [decide_eq_true w4]
      have e : askR m y o k way t u a = rfW t (wrt m y o k t) := by unfold askR; rw [if_neg w0, if_neg w1, if_neg w2, if_neg w3, if_pos w4]
      rw [e] at qe qg
      refine iteT ⟨_, rfl, b, dx, _, rfl, eb, no (by decide +kernel) (by decide +kernel) (by decide +kernel), _, rfl, b, p, d, l, t, m, y, o, k, f, U, n, rfl, ao.lt, hy, fun i hi r H' _ s' _ => ?_, rfE_wr qe⟩
      rw [hi] at qg
      exact qg rfl H' s'
    rw [decide_eq_false w4]
    have e : askR m y o k way t u a = .deed := by unfold askR; rw [if_neg w0, if_neg w1, if_neg w2, if_neg w3, if_neg w4]
    rw [e] at qe
    have hU := ao.un (by rintro (h | h | h | h | h) <;> contradiction)
    refine iteF ⟨_, rfl, b, dx, _, rfl, eb, no (by decide +kernel) (by decide +kernel) (by decide +kernel), b, p, d, l, m, y, o, k, f, U, n, rfl, hy, hn, fun _ => qe, fun U' dd hU' => ?_⟩
    rw [hU] at hU'
    simp at hU'
end
/-- what is told of what was asked -/
def rfD : Rf → PyData
  | .good => .list [.str "good", .none, .none]
  | .txt t => .list [.str "text", .str t, .none]
  | .dat z w => .list [.str "date", .tuple [.int z.y, .int z.n, .int z.d, .bool z.o], .str w]
  | .note a => .list [.str "note", .int a, .none]
  | .deed => .list [.str "deed", .none, .none]
def spAsked82 (C Cc Cv : Addr) : Sp := fun vs H Q _ => ∃ (b p d l : Addr) (way : Int) (t u : Str) (a : Int) (m y o k : Rat) (f : Int → List Str) (U : List (List Row)) (n : Nat), vs = [.ref b, .int way, .str t, .str u, .int a] ∧ Dy C Cc Cv H b p d l m y o k f U n ∧ n ≤ 9000 ∧ AskOk m y o k f U way t u a ∧
  ∀ r H', Same H H' → DA H' (PDL d l) (.ref r) (rfD (askR m y o k way t u a)) → Q (.ref r) H'
section
variable {P : Program} {w : World} {K : PySem.W.Frag} {mg : Str → Option Value} {base : Heap} {C Cc Cd Cv CN CD CW CZ C_NoShare C_NoCalendar C_NoWheel C_NoName C_NoDay C_Taken : Addr}
theorem ok_lasked82 (D : Df K mg "_law_asked" s_l_asked []) (T4 : Kd4 K mg CN CD CW CZ C_NoShare C_NoCalendar C_NoWheel C_NoName C_NoDay C_Taken) (Td : DaT K Cd) (h_Date : mg "Date" = some (.ref Cd))
    (XAN : ∃ B : Value → Bool, (∀ c ∈ [Value.ref C_NoCalendar, .ref CD, .ref C_NoDay, .ref CZ, .ref C_NoName, .ref CW, .ref C_NoShare, .ref CN, .ref C_NoWheel, .ref C_Taken], PySem.W.exmOne K (.ref CN) c = some (B c)) ∧ ([Value.ref C_NoCalendar, .ref CD, .ref C_NoDay, .ref CZ, .ref C_NoName, .ref CW, .ref C_NoShare, .ref CN, .ref C_NoWheel, .ref C_Taken]).any B = true)
    (XAD : ∃ B : Value → Bool, (∀ c ∈ [Value.ref C_NoCalendar, .ref CD, .ref C_NoDay, .ref CZ, .ref C_NoName, .ref CW, .ref C_NoShare, .ref CN, .ref C_NoWheel, .ref C_Taken], PySem.W.exmOne K (.ref CD) c = some (B c)) ∧ ([Value.ref C_NoCalendar, .ref CD, .ref C_NoDay, .ref CZ, .ref C_NoName, .ref CW, .ref C_NoShare, .ref CN, .ref C_NoWheel, .ref C_Taken]).any B = true)
    (XAW : ∃ B : Value → Bool, (∀ c ∈ [Value.ref C_NoCalendar, .ref CD, .ref C_NoDay, .ref CZ, .ref C_NoName, .ref CW, .ref C_NoShare, .ref CN, .ref C_NoWheel, .ref C_Taken], PySem.W.exmOne K (.ref CW) c = some (B c)) ∧ ([Value.ref C_NoCalendar, .ref CD, .ref C_NoDay, .ref CZ, .ref C_NoName, .ref CW, .ref C_NoShare, .ref CN, .ref C_NoWheel, .ref C_Taken]).any B = true)
    (XAZ : ∃ B : Value → Bool, (∀ c ∈ [Value.ref C_NoCalendar, .ref CD, .ref C_NoDay, .ref CZ, .ref C_NoName, .ref CW, .ref C_NoShare, .ref CN, .ref C_NoWheel, .ref C_Taken], PySem.W.exmOne K (.ref CZ) c = some (B c)) ∧ ([Value.ref C_NoCalendar, .ref CD, .ref C_NoDay, .ref CZ, .ref C_NoName, .ref CW, .ref C_NoShare, .ref CN, .ref C_NoWheel, .ref C_Taken]).any B = true)
    (n_at : PySem.W.findIn K (.ref CN) "at" = some none) (n_atW : PySem.W.findIn K (.ref CW) "at" = some none) (n_date : PySem.W.findIn K (.ref CD) "date" = some none) (n_why : PySem.W.findIn K (.ref CD) "why" = some none) (g_isinstance : mg "isinstance" = none) (g_ValueError : mg "ValueError" = none) (g_LookupError : mg "LookupError" = none) (g_IndexError : mg "IndexError" = none) (g_RuntimeError : mg "RuntimeError" = none) (g_int : mg "int" = none)
    (f_l_ask : Ca P w K mg base (L2.CX P w) 15 "_law_ask" s_l_ask [] ["_law_diary", "_law_way", "_law_text_here", "_law_other", "_law_at"] (spAsk82 C Cc Cv Cd CN CD CW CZ)) (f_l_kinds : Ca P w K mg base CX0 1 "_law_kinds" s_l_kinds [] ["_law_kept"] (spKinds4 CN CD CW CZ)) :
    Ca P w K mg base CX0 16 "_law_asked" s_l_asked [] ["_law_diary", "_law_way", "_law_text_here", "_law_other", "_law_at"] (spAsked82 C Cc Cv) := by
  refine ca0 (k := 15) D c_l_asked (fun vs H Q E h => ?_) fun f cdv A outer s H vs Q E hr h => ?_
  · obtain ⟨b, p, d, l, way, t, u, a, m, y, o, k, f, U, n, rfl, _⟩ := h
    rfl
  · obtain ⟨b, p, d, l, way, t, u, a, m, y, o, k, f, U, n, rfl, hy, hn, ao, q⟩ := h
    have XC := T4.kN.xc
    have XD := T4.kD.xc
    have XW := T4.kW.xc
    have XZ := T4.kZ.xc
    have h_NoShare := T4.kN.m0
    have h_NoCalendar := T4.kN.m1
    have h_NoDate := T4.kN.m2
    have h_NoWheel := T4.kN.m3
    have h_NoName := T4.kN.m4
    have h_NoDay := T4.kN.m5
    have h_Taken := T4.kN.m6
    have h_NoText := T4.kN.m7
    have h_NoNote := T4.kN.m8
    have h_NoDeed := T4.kN.m9
    refine ⟨_, (pss_cons (ps_set (i := 5) c_l_asked.nd rfl (.inl rfl) pe_non)
      (pss_cons (ps_try_keep (i := 6) (j := 5) rfl rfl rfl c_l_asked.nd rfl rfl rfl rfl (.cons rfl rfl h_NoCalendar (.cons rfl rfl h_NoDate (.cons rfl rfl h_NoDay (.cons rfl rfl h_NoDeed (.cons rfl rfl h_NoName (.cons rfl rfl h_NoNote (.cons rfl rfl h_NoShare (.cons rfl rfl h_NoText (.cons rfl rfl h_NoWheel (.cons rfl rfl h_Taken .nil)))))))))) (by show 10 ≤ 100; decide) (hb := fun W pn xe tk po =>
      (pss_one (ps_expr (pe_caS f_l_ask b_l_ask hr (by decide) tk rfl (pa_cons (pv 0) (pa_cons (pv 1) (pa_cons (pv 2) (pa_cons (pv 3) (pa_cons (pv 4) pa_nil))))))))))
      (pss_cons (ps_if (pt_cmp (pc_isN (pv 5))) (pss_one (ps_ret (pe_lst (pa_cons pe_str (pa_cons pe_non (pa_cons pe_non pa_nil)))))) pss_nil)
      (pss_cons (ps_set (i := 7) c_l_asked.nd rfl (.inl rfl) (pe_ca f_l_kinds b_l_kinds hr (by decide) pass0 rfl (pa_cons (pv 5) pa_nil)))
      (pss_cons (ps_if (pt_cmpR op_ne (pe_bm PySem.F.plainAttrs_list PySem.F.slot_list_count PySem.F.type_list_count (mt_countG eqB_flat (hr.mono (by decide))) (pv 7) (pa_cons pe_bl pa_nil)) pe_int (nomark _)) (pss_one (ps_ret (pe_lst (pa_cons pe_str (pa_cons pe_non (pa_cons pe_non pa_nil)))))) pss_nil)
      (pss_cons (ps_if (PW.pt (pw_and (pt_val (pe_ix ix_list (pv 7) pe_int (fun _ _ => rfl))) (pw_and1 (pt_val (pe_callB (call_isK XC) rfl g_isinstance (by decide +kernel) (pa_cons (pv 5) (pa_cons (pe_bltn (v := .ty "ValueError") rfl g_ValueError (by decide +kernel) rfl) pa_nil))))))) (pss_one (ps_ret (pe_lst (pa_cons pe_str (pa_cons (pe_kf XC n_at (pv 5)) (pa_cons pe_non pa_nil)))))) pss_nil)
      (pss_cons (ps_if (PW.pt (pw_and (pt_val (pe_ix ix_list (pv 7) pe_int (fun _ _ => rfl))) (pw_and (pt_val (pe_callB (call_isK XD) rfl g_isinstance (by decide +kernel) (pa_cons (pv 5) (pa_cons (pe_bltn (v := .ty "LookupError") rfl g_LookupError (by decide +kernel) rfl) pa_nil)))) (pw_and1 (pt_val (pe_callB call_isi rfl g_isinstance (by decide +kernel) (pa_cons (pe_kf XD n_date (pv 5)) (pa_cons (pe_glob (v := .ref Cd) rfl h_Date rfl) pa_nil)))))))) (pss_one (ps_ret (pe_lst (pa_cons pe_str (pa_cons (pe_tup (pa_cons (pe_fld (pe_kf XD n_date (pv 5)) rfl) (pa_cons (pe_fld (pe_kf XD n_date (pv 5)) rfl) (pa_cons (pe_fld (pe_kf XD n_date (pv 5)) rfl) (pa_cons (pe_fld (pe_kf XD n_date (pv 5)) rfl) pa_nil))))) (pa_cons (pe_kf XD n_why (pv 5)) pa_nil)))))) pss_nil)
      (pss_cons (ps_if (PW.pt (pw_and (pt_val (pe_ix ix_list (pv 7) pe_int (fun _ _ => rfl))) (pw_and1 (pt_val (pe_callB (call_isK XW) rfl g_isinstance (by decide +kernel) (pa_cons (pv 5) (pa_cons (pe_bltn (v := .ty "IndexError") rfl g_IndexError (by decide +kernel) rfl) pa_nil))))))) (pss_one (ps_ret (pe_lst (pa_cons pe_str (pa_cons (pe_kf XW n_atW (pv 5)) (pa_cons pe_non pa_nil)))))) pss_nil)
      (pss_one (ps_ret (pe_lst (pa_cons (pe_ix ix_list (pe_lst (pa_cons pe_str (pa_cons pe_str pa_nil))) (pe_callTy call_int1 rfl g_int (by decide +kernel) (pa_cons (pe_and (pe_ix ix_list (pv 7) pe_int (fun _ _ => rfl)) (pe_one (pe_callB (call_isN XZ) rfl g_isinstance (by decide +kernel) (pa_cons (pv 5) (pa_cons (pe_bltn (v := .ty "RuntimeError") rfl g_RuntimeError (by decide +kernel) rfl) pa_nil))))) pa_nil)) (fun _ _ => rfl)) (pa_cons pe_non (pa_cons pe_non pa_nil)))))))))))))), ?_⟩
    have isN : ∀ z : Addr, decide (V.ref z = V.non) = false := fun z => decide_eq_false fun w => nomatch w
    refine ⟨_, rfl, _, rfl, _, rfl, _, rfl, _, rfl, b, p, d, l, way, t, u, a, m, y, o, k, f, U, n, rfl, hy, hn, ao, fun hg H1 s1 => ?_, ?_⟩
    · rw [hg] at q
      refine ⟨_, rfl, _, rfl, iteT ⟨ln _, fun r nr => ?_⟩⟩
      exact q r _ (s1.trans (Same.new nr)) (.lst upd_same ((hy.same s1).new nr) (.cons (.str _) (.cons .non (.cons .non .nil))))
    · clear hn ao
      generalize askR m y o k way t u a = R at *
      cases R with
      | good => exact trivial
      | txt x =>
        intro e' H2 ne' s2 he'
        refine ⟨XAN, fun a' na' => ?_⟩
        have s3 := Same.new (o := KX a' (.ref CN) (some e')) na'
        have ka := upd_same (H := H2) (a := a') (o := KX a' (.ref CN) (some e'))
        have ke := s3 _ _ he'
        have s13 := s2.trans s3
        generalize L2.upd H2 a' _ = H3 at *
        refine ⟨_, rfl, _, rfl, iteF ?_⟩
        refine ⟨_, rfl, .inl ⟨a', e', _, rfl, ka, ke, fun ls H4 s4 el => ?_⟩⟩
        refine ⟨_, rfl, .inl ⟨rfl, _, SqL.of el⟩, ls, _, .bl true, fun j => decide (j = 7), rfl, rfl, el, ?_, fun H5 s5 => ?_⟩
        · intro j z hj H5 s5
          match j, hj with
          | 0, hj => cases hj; exact ⟨rfl, rfl, rfl⟩
          | 1, hj => cases hj; exact ⟨rfl, rfl, rfl⟩
          | 2, hj => cases hj; exact ⟨rfl, rfl, rfl⟩
          | 3, hj => cases hj; exact ⟨rfl, rfl, rfl⟩
          | 4, hj => cases hj; exact ⟨rfl, rfl, rfl⟩
          | 5, hj => cases hj; exact ⟨rfl, rfl, rfl⟩
          | 6, hj => cases hj; exact ⟨rfl, rfl, rfl⟩
          | 7, hj => cases hj; exact ⟨rfl, rfl, rfl⟩
          | 8, hj => cases hj; exact ⟨rfl, rfl, rfl⟩
          | 9, hj => cases hj; exact ⟨rfl, rfl, rfl⟩
          | j + 10, hj => simp at hj
        have s45 : Same H4 H5 := s5
        refine ⟨rfl, _, rfl, no' rfl ?_⟩
        have el5 := s45 _ _ el
        have ka5 := s45 _ _ (s4 _ _ ka)
        have ke5 := s45 _ _ (s4 _ _ ke)
        refine ⟨_, rfl, ls, _, _, _, rfl, rfl, SqL.of el5, rfl, _, rfl, yes' rfl ?_⟩
        refine ⟨_, rfl, a', e', _, _, _, _, rfl, ka5, ke5, .ty _, T4.kN.t2, _, rfl, yes' rfl ?_⟩
        refine ⟨_, rfl, a', e', _, _, rfl, ka5, ke5, rfl, ln _, fun r nr => ?_⟩
        have s15 := s13.trans (s4.trans s45)
        exact q r _ (s15.trans (Same.new nr)) (.lst upd_same ((hy.same s15).new nr) (.cons (.str _) (.cons (.str _) (.cons .non .nil))))
      | dat z x =>
        intro dd H1 s1 hda e' H2 ne' s2 he'
        refine ⟨XAD, fun a' na' => ?_⟩
        have s3 := Same.new (o := KX a' (.ref CD) (some e')) na'
        have ka := upd_same (H := H2) (a := a') (o := KX a' (.ref CD) (some e'))
        have ke := s3 _ _ he'
        have s13 := (s1.trans s2).trans s3
        have hda3 := hda.same (s2.trans s3)
        generalize L2.upd H2 a' _ = H3 at *
        refine ⟨_, rfl, _, rfl, iteF ?_⟩
        refine ⟨_, rfl, .inr (.inl ⟨a', e', _, rfl, ka, ke, fun ls H4 s4 el => ?_⟩)⟩
        refine ⟨_, rfl, .inl ⟨rfl, _, SqL.of el⟩, ls, _, .bl true, fun j => decide (j = 2), rfl, rfl, el, ?_, fun H5 s5 => ?_⟩
        · intro j z hj H5 s5
          match j, hj with
          | 0, hj => cases hj; exact ⟨rfl, rfl, rfl⟩
          | 1, hj => cases hj; exact ⟨rfl, rfl, rfl⟩
          | 2, hj => cases hj; exact ⟨rfl, rfl, rfl⟩
          | 3, hj => cases hj; exact ⟨rfl, rfl, rfl⟩
          | 4, hj => cases hj; exact ⟨rfl, rfl, rfl⟩
          | 5, hj => cases hj; exact ⟨rfl, rfl, rfl⟩
          | 6, hj => cases hj; exact ⟨rfl, rfl, rfl⟩
          | 7, hj => cases hj; exact ⟨rfl, rfl, rfl⟩
          | 8, hj => cases hj; exact ⟨rfl, rfl, rfl⟩
          | 9, hj => cases hj; exact ⟨rfl, rfl, rfl⟩
          | j + 10, hj => simp at hj
        have s45 : Same H4 H5 := s5
        refine ⟨rfl, _, rfl, no' rfl ?_⟩
        have el5 := s45 _ _ el
        have ka5 := s45 _ _ (s4 _ _ ka)
        have ke5 := s45 _ _ (s4 _ _ ke)
        obtain ⟨dx5, ed5⟩ := (hda3.same s4).same s45
        refine ⟨_, rfl, ls, _, _, _, rfl, rfl, SqL.of el5, rfl, _, rfl, no' rfl (no' rfl ?_)⟩
        refine ⟨_, rfl, ls, _, _, _, rfl, rfl, SqL.of el5, rfl, _, rfl, yes' rfl ?_⟩
        refine ⟨_, rfl, a', e', _, _, _, _, rfl, ka5, ke5, .ty _, T4.kD.t1, _, rfl, yes' rfl ?_⟩
        refine ⟨_, rfl, a', e', _, _, rfl, ka5, ke5, rfl, _, _, _, _, _, rfl, .own Cd, Td.ty _ _ _ _ ed5, kit_self, _, rfl, yes' rfl ?_⟩
        refine ⟨_, rfl, a', e', _, _, rfl, ka5, ke5, rfl, dd, Cd, dx5, _, _, rfl, ed5, Td.cl, Td.n1, df_year _ _ _ _, _, rfl, a', e', _, _, rfl, ka5, ke5, rfl, dd, Cd, dx5, _, _, rfl, ed5, Td.cl, Td.n2, df_number _ _ _ _, _, rfl, a', e', _, _, rfl, ka5, ke5, rfl, dd, Cd, dx5, _, _, rfl, ed5, Td.cl, Td.n3, df_day _ _ _ _, _, rfl, a', e', _, _, rfl, ka5, ke5, rfl, dd, Cd, dx5, _, _, rfl, ed5, Td.cl, Td.n4, df_odd _ _ _ _, ln _, fun rt nrt => ?_⟩
        have s15 := s13.trans (s4.trans s45)
        have s6 := Same.new (o := .tup [.int z.y, .int z.n, .int z.d, .bl z.o]) nrt
        have nP := (hy.same s15).new nrt
        have ert := upd_same (H := H5) (a := rt) (o := .tup [.int z.y, .int z.n, .int z.d, .bl z.o])
        have ka6 := s6 _ _ ka5
        have ke6 := s6 _ _ ke5
        generalize L2.upd H5 rt _ = H6 at *
        refine ⟨_, rfl, a', e', _, _, rfl, ka6, ke6, rfl, ln _, fun r nr => ?_⟩
        have s16 := s15.trans s6
        exact q r _ (s16.trans (Same.new nr)) (.lst upd_same ((hy.same s16).new nr) (.cons (.str _) (.cons (.tup (Same.new nr _ _ ert) nP (.cons (.int _) (.cons (.int _) (.cons (.int _) (.cons (.bl _) .nil))))) (.cons (.str _) .nil))))
      | note x =>
        intro e' H2 ne' s2 he'
        refine ⟨XAW, fun a' na' => ?_⟩
        have s3 := Same.new (o := KX a' (.ref CW) (some e')) na'
        have ka := upd_same (H := H2) (a := a') (o := KX a' (.ref CW) (some e'))
        have ke := s3 _ _ he'
        have s13 := s2.trans s3
        generalize L2.upd H2 a' _ = H3 at *
        refine ⟨_, rfl, _, rfl, iteF ?_⟩
        refine ⟨_, rfl, .inr (.inr (.inl ⟨a', e', _, rfl, ka, ke, fun ls H4 s4 el => ?_⟩))⟩
        refine ⟨_, rfl, .inl ⟨rfl, _, SqL.of el⟩, ls, _, .bl true, fun j => decide (j = 8), rfl, rfl, el, ?_, fun H5 s5 => ?_⟩
        · intro j z hj H5 s5
          match j, hj with
          | 0, hj => cases hj; exact ⟨rfl, rfl, rfl⟩
          | 1, hj => cases hj; exact ⟨rfl, rfl, rfl⟩
          | 2, hj => cases hj; exact ⟨rfl, rfl, rfl⟩
          | 3, hj => cases hj; exact ⟨rfl, rfl, rfl⟩
          | 4, hj => cases hj; exact ⟨rfl, rfl, rfl⟩
          | 5, hj => cases hj; exact ⟨rfl, rfl, rfl⟩
          | 6, hj => cases hj; exact ⟨rfl, rfl, rfl⟩
          | 7, hj => cases hj; exact ⟨rfl, rfl, rfl⟩
          | 8, hj => cases hj; exact ⟨rfl, rfl, rfl⟩
          | 9, hj => cases hj; exact ⟨rfl, rfl, rfl⟩
          | j + 10, hj => simp at hj
        have s45 : Same H4 H5 := s5
        refine ⟨rfl, _, rfl, no' rfl ?_⟩
        have el5 := s45 _ _ el
        have ka5 := s45 _ _ (s4 _ _ ka)
        have ke5 := s45 _ _ (s4 _ _ ke)
        refine ⟨_, rfl, ls, _, _, _, rfl, rfl, SqL.of el5, rfl, _, rfl, no' rfl (no' rfl ?_)⟩
        refine ⟨_, rfl, ls, _, _, _, rfl, rfl, SqL.of el5, rfl, _, rfl, no' rfl (no' rfl ?_)⟩
        refine ⟨_, rfl, ls, _, _, _, rfl, rfl, SqL.of el5, rfl, _, rfl, yes' rfl ?_⟩
        refine ⟨_, rfl, a', e', _, _, _, _, rfl, ka5, ke5, .ty _, T4.kW.t4, _, rfl, yes' rfl ?_⟩
        refine ⟨_, rfl, a', e', _, _, rfl, ka5, ke5, rfl, ln _, fun r nr => ?_⟩
        have s15 := s13.trans (s4.trans s45)
        exact q r _ (s15.trans (Same.new nr)) (.lst upd_same ((hy.same s15).new nr) (.cons (.str _) (.cons (.int _) (.cons .non .nil))))
      | deed =>
        refine ⟨XAZ, fun a' na' => ?_⟩
        have s13 := Same.new (o := KX a' (.ref CZ) none) na'
        have ka := upd_same (H := H) (a := a') (o := KX a' (.ref CZ) none)
        generalize L2.upd H a' _ = H3 at *
        refine ⟨_, rfl, _, rfl, iteF ?_⟩
        refine ⟨_, rfl, .inr (.inr (.inr ⟨a', rfl, ka, fun ls H4 s4 el => ?_⟩))⟩
        refine ⟨_, rfl, .inl ⟨rfl, _, SqL.of el⟩, ls, _, .bl true, fun j => decide (j = 9), rfl, rfl, el, ?_, fun H5 s5 => ?_⟩
        · intro j z hj H5 s5
          match j, hj with
          | 0, hj => cases hj; exact ⟨rfl, rfl, rfl⟩
          | 1, hj => cases hj; exact ⟨rfl, rfl, rfl⟩
          | 2, hj => cases hj; exact ⟨rfl, rfl, rfl⟩
          | 3, hj => cases hj; exact ⟨rfl, rfl, rfl⟩
          | 4, hj => cases hj; exact ⟨rfl, rfl, rfl⟩
          | 5, hj => cases hj; exact ⟨rfl, rfl, rfl⟩
          | 6, hj => cases hj; exact ⟨rfl, rfl, rfl⟩
          | 7, hj => cases hj; exact ⟨rfl, rfl, rfl⟩
          | 8, hj => cases hj; exact ⟨rfl, rfl, rfl⟩
          | 9, hj => cases hj; exact ⟨rfl, rfl, rfl⟩
          | j + 10, hj => simp at hj
        have s45 : Same H4 H5 := s5
        refine ⟨rfl, _, rfl, no' rfl ?_⟩
        have el5 := s45 _ _ el
        have ka5 := s45 _ _ (s4 _ _ ka)
        have s15 := s13.trans (s4.trans s45)
        refine ⟨_, rfl, ls, _, _, _, rfl, rfl, SqL.of el5, rfl, _, rfl, no' rfl (no' rfl ?_)⟩
        refine ⟨_, rfl, ls, _, _, _, rfl, rfl, SqL.of el5, rfl, _, rfl, no' rfl (no' rfl ?_)⟩
        refine ⟨_, rfl, ls, _, _, _, rfl, rfl, SqL.of el5, rfl, _, rfl, no' rfl (no' rfl ?_)⟩
        refine ⟨ln _, fun p1 n1 => ?_⟩
        have s6 := Same.new (o := .lst [.str "other", .str "deed"]) n1
        have ep1 := upd_same (H := H5) (a := p1) (o := .lst [.str "other", .str "deed"])
        have el6 := s6 _ _ el5
        have ka6 := s6 _ _ ka5
        show (fun Hx : Hp => _) (L2.upd H5 p1 (.lst [.str "other", .str "deed"]))
        generalize L2.upd H5 p1 (.lst [.str "other", .str "deed"]) = H6 at *
        have s16 := s15.trans s6
        refine ⟨_, rfl, ls, _, _, _, rfl, rfl, SqL.of el6, rfl, _, rfl, yes' rfl ?_⟩
        refine ⟨_, rfl, a', _, _, _, rfl, ka6, .ty _, T4.kZ.t5, .inr ⟨_, rfl, p1, _, _, _, rfl, rfl, SqL.of ep1, rfl, ln _, fun r nr => ?_⟩⟩
        exact q r _ (s16.trans (Same.new nr)) (.lst upd_same ((hy.same s16).new nr) (.cons (.str _) (.cons .non (.cons .non .nil))))
end
theorem back_day {m y o k : Rat} (g : Good m y o k) (i : Int) : dyF m y o k (dtY m y o k i) (dtN m y o k i) (dtD m o i) (dtO m y o k i) = .inr i := by
  have f := g.fit
  have s1 := st_ma (o := o) f.pos i
  have s2 := ma_st (o := o) f.pos i
  have n1 : ¬ dtN m y o k i < 1 := by unfold dtN; omega
  have n2 : ¬ 12 < dtN m y o k i := by unfold dtN; omega
  have c1 : ¬ dtD m o i < 1 := by unfold dtD; omega
  have key : moF m y o k (dtY m y o k i) (dtN m y o k i) (dtO m y o k i) = .inr (maF m o i) := by
    unfold moF
    rw [if_neg n1, if_neg n2]
    have ej : 12 * dtY m y o k i + dtN m y o k i - 1 = nmJ m y o k (maF m o i) := by unfold dtY dtN; omega
    by_cases hm : mdF y k (jF y k (stF m o (maF m o i))) < stF m o (maF m o i + 1)
    · have e1 : nmJ m y o k (maF m o i) = jF y k (stF m o (maF m o i)) := by unfold nmJ; rw [if_pos hm]
      have e2 : dtO m y o k i = false := (nm_own hm).2
      have e3 : pmF m y o k (dtY m y o k i) (dtN m y o k i) = maF m o i := by
        unfold pmF
        rw [ej, e1]
        exact ma_of f.pos (md_ge f.ypos _) hm
      rw [e2, e3]
      rfl
    · obtain ⟨_, _, c3, c4, c5⟩ := nm_odd f hm
      have e2 : dtO m y o k i = true := c3
      have a' := mi_ahead f (maF m o i) hm
      have e3 : pmF m y o k (dtY m y o k i) (dtN m y o k i) = maF m o i - 1 := by
        unfold pmF
        rw [ej]
        have e1 : nmJ m y o k (maF m o i) = jF y k (stF m o (maF m o i - 1)) := by unfold nmJ; rw [if_neg hm]
        rw [e1]
        refine ma_of f.pos (md_ge f.ypos _) ?_
        rw [show maF m o i - 1 + 1 = maF m o i by omega]
        exact a'
      rw [e2, if_pos rfl, e3, show maF m o i - 1 + 1 = maF m o i by omega, if_neg (show ¬ hasM m y o k (maF m o i) from hm)]
  unfold dyF
  rw [key]
  show (if dtD m o i < 1 then _ else if stF m o (maF m o i + 1) - stF m o (maF m o i) < dtD m o i then _ else _) = _
  rw [if_neg c1, if_neg (by unfold dtD; omega)]
  unfold dtD
  congr 1
  omega
/-! ### looks at a diary -/
mutual
theorem DA.weak {H : Hp} {P P' : Addr → Prop} (k : ∀ c, P c → P' c) : ∀ {d : PyData} {v : V}, DA H P' v d → DA H P v d
  | .none, _, h => by cases h; exact .non
  | .bool _, _, h => by cases h; exact .bl _
  | .int _, _, h => by cases h; exact .int _
  | .str _, _, h => by cases h; exact .str _
  | .list ds, _, h => by
    cases h with
    | lst e n a => exact .lst e (fun w => n (k _ w)) (DAs.weak k a)
  | .tuple ds, _, h => by
    cases h with
    | tup e n a => exact .tup e (fun w => n (k _ w)) (DAs.weak k a)
  | .dict _, _, h => by cases h
theorem DAs.weak {H : Hp} {P P' : Addr → Prop} (k : ∀ c, P c → P' c) : ∀ {ds : List PyData} {vs : List V}, DAs H P' vs ds → DAs H P vs ds
  | [], _, h => by cases h; exact .nil
  | d :: ds, _, h => by
    cases h with
    | cons a b => exact .cons (DA.weak k a) (DAs.weak k b)
end
theorem DAs.snoc {H : Hp} {P : Addr → Prop} : ∀ {vs : List V} {ds : List PyData} {v : V} {d : PyData}, DAs H P vs ds → DA H P v d → DAs H P (vs ++ [v]) (ds ++ [d])
  | _, [], _, _, h, r => by cases h; exact .cons r .nil
  | _, _ :: _, _, _, h, r => by
    cases h with
    | cons a b => exact .cons a (DAs.snoc b r)
theorem DAs.len {H : Hp} {P : Addr → Prop} : ∀ {ds : List PyData} {vs : List V}, DAs H P vs ds → vs.length = ds.length
  | [], _, h => by cases h; rfl
  | _ :: _, _, h => by
    cases h with
    | cons a b => rw [List.length_cons, List.length_cons, DAs.len b]
section
variable {J : It} {n : Nat} {G : Hp → Prop} {Y : Nat → Hp → V → Hp → Prop}
/-- a comprehension of data -/
theorem lc_da (w : Walk J n G Y) (hY : ∀ i H x H', Y i H x H' → Same H H') {g : TG} {te : TE} {vs : List Nat} {σ : L2.St} {H : Hp} {D : Addr} {Qd : Hp → Prop} (nD : H D = none) (hn : n < sizeLine) (P : Addr → Prop) (f : Nat → PyData) (hG : ∀ H', Same H H' → G H')
    (hs : ∀ i x H1 H2 (R : V → Hp → Prop) (us : List V), i < n → Same H H1 → H1 D = some (.lst us) → Y i H1 x H2 → (∀ v H3, Same H2 H3 → DA H3 (fun c => P c ∨ c = D) v (f i) → R v H3) → g x (wipe σ vs) H2 fun σ2 H3 => wipe σ2 vs = wipe σ vs ∧ te σ2 H3 R)
    (hd : ∀ us H', H' D = some (.lst us) → Same H H' → DAs H' (fun c => P c ∨ c = D) us ((List.range n).map f) → Qd H') :
    ∃ W : Nat → Nat → Hp → Prop, (∃ m, W 0 m (L2.upd H D (.lst []))) ∧ ∀ i m H, W i m H →
      (J.stop i H ∧ Qd H) ∨ (J.go i H ∧ ∃ Nx : Hp → Prop, (∀ H', Nx H' → ∃ m', m' < m ∧ W (i + 1) m' H') ∧ ∀ x H', J.yld i H x H' → g x (wipe σ vs) H' fun σ2 H2 => wipe σ2 vs = wipe σ vs ∧ tYes σ2 H2 fun b H3 =>
        if b = true then te σ2 H3 fun y H4 => ∃ acc, H4 D = some (.lst acc) ∧ acc.length < sizeLine ∧ Nx (L2.upd H4 D (.lst (acc ++ [y]))) else Nx H3) := by
  refine lc_it w (fun i H' => ∃ us : List V, H' D = some (.lst us) ∧ Same H H' ∧ DAs H' (fun c => P c ∨ c = D) us ((List.range i).map f)) ⟨[], upd_same, upd_keep nD (Same.refl H), .nil⟩ (fun i H' _ ⟨_, _, s, _⟩ => hG H' s) ?_ (fun H' ⟨us, e, s, p⟩ => hd us H' e s p)
  rintro i x H1 H2 hi ⟨us, e, s, p⟩ y
  refine hs i x H1 H2 _ us hi s e y fun v H3 s3 pv => ?_
  have s2 := hY _ _ _ _ y
  have s23 := s2.trans s3
  have e3 := s23 _ _ e
  have ll := p.len
  rw [List.length_map, List.length_range] at ll
  refine ⟨us, e3, by omega, us ++ [v], upd_same, upd_keep nD (s.trans s23), ?_⟩
  rw [List.range_succ, List.map_append]
  have k1 : ∀ c o, ¬ (P c ∨ c = D) → H1 c = some o → (L2.upd H3 D (.lst (us ++ [v]))) c = some o := fun c o n e => (upd_ne fun w => n (.inr w)).trans (s23 _ _ e)
  exact (p.keep k1).snoc (pv.keep fun c o n e => (upd_ne fun w => n (.inr w)).trans e)
end
/-- the years of three days in a row, rising -/
def Ys3 (m y o k : Rat) (i : Int) (ys : List Int) : Prop := (ys.Pairwise fun a b => a < b) ∧ ∀ a, a ∈ ys ↔ ∃ j : Nat, j < 3 ∧ a = dtY m y o k (i + (j : Int))
theorem Ys3.uniq {m y o k : Rat} {i : Int} {ys zs : List Int} (h : Ys3 m y o k i ys) (h' : Ys3 m y o k i zs) : ys = zs := lt_same _ _ h.1 h'.1 fun a => (h.2 a).trans (h'.2 a).symm
def rowD (r : Str × Nat) : PyData := .tuple [.str r.1, .int (r.2 : Int)]
/-- what looks tells -/
def lkD (m y o k : Rat) (i : Int) (f : Int → List Str) (ks ys : List Int) : PyData :=
  .list [.int (inA f ks : Nat), (.list ((List.range 3).map fun (j : Nat) => PyData.list ((f (i + (j : Int))).map PyData.str))), .list (ys.map fun a => .list ((ndL m y o k f a ks).map rowD))]
def spLk (C Cc Cv : Addr) : Sp := fun vs H Q _ => ∃ (b p d l r : Addr) (i : Int) (ks ys : List Int) (m y o k : Rat) (f : Int → List Str) (U : List (List Row)) (n : Nat) (P : Addr → Prop), vs = [.ref b, .ref r, .int i] ∧ Dy C Cc Cv H b p d l m y o k f U n ∧ n ≤ 9000 ∧ Fo H r m y o k ∧ Sz 90 i ∧ NzL f ks ∧ Ys3 m y o k i ys ∧ (∀ c, P c → ∃ o, H c = some o ∧ ∀ xs, o ≠ .tup xs) ∧
  ∀ q H', Same H H' → H q = none → DA H' P (.ref q) (lkD m y o k i f ks ys) → Q (.ref q) H'
theorem wrt_dtT {m y o k : Rat} (g : Good m y o k) {x : Int} (z : Sz 100 x) : wrt m y o k (dtT m y o k x) = .day x := by
  obtain ⟨_, h0, h1, _⟩ := dtT_len g z
  unfold dtT
  rw [wrt_daS h0 h1, back_day g x]
abbrev TE_l_looks1 (K : PySem.W.Frag) (_C _Cc _Cv _Cd _CN _CD : Addr) : TE := tOp (rIxT K) (tCall spLDate [] E0 (tCons (tVar 1) (tCons (tOp (rI0 fun i j => .int (i + j)) (tVar 2) (tVar 5)) tNil))) (tC (.int 0))
abbrev TE_l_looks2 (_K : PySem.W.Frag) (C Cc Cv Cd CN CD : Addr) : TE := tMeth Cv "notes_on" (spOn C Cc Cv Cd CN CD) [] E0 (tVar 0) (tCons (tCall spDtT [] E0 (tCons (tVar 1) (tCons (tOp (rI0 fun i j => .int (i + j)) (tVar 2) (tVar 5)) tNil))) tNil)
abbrev TE_l_looks3 (_K : PySem.W.Frag) (C Cc Cv _Cd _CN _CD : Addr) : TE := tMeth Cv "noted" (spNdd C Cc Cv) [] E0 (tVar 0) (tCons (tVar 6) tNil)
theorem pass0X {P : Program} {w : World} {X : Cx} : Passes (L2.CX P w) X E0 := fun _ _ _ _ _ _ _ ⟨_, _, _, _, _, _, _, _, _, _, _, _, h⟩ => h.elim
section
variable {P : Program} {w : World} {K : PySem.W.Frag} {mg : Str → Option Value} {base : Heap} {C Cc Cd CN CD Cv : Addr}
theorem ok_llk82 (D : Df K mg "_law_looks" s_l_looks []) (g_range : mg "range" = none) (g_sorted : mg "sorted" = none) (g_set : mg "set" = none) (f_l_date : Ca P w K mg base CX0 6 "_law_date" s_l_date [] ["_law_four_here", "_law_day"] spLDate) (f_l_date_text : Ca P w K mg base CX0 7 "_law_date_text" s_l_date_text [] ["_law_four_here", "_law_day"] spDtT) (f_notes_on : Cm P w K mg base (L2.CX P w) 14 Cv "notes_on" "Diary.notes_on" s_Diary_notes_on ["self", "date"] (spOn C Cc Cv Cd CN CD)) (f_in_all : Cm P w K mg base CX0 1 Cv "in_all" "Diary.in_all" s_Diary_in_all ["self"] (spIa C Cc Cv))
    (f_noted : Cm P w K mg base CX0 11 Cv "noted" "Diary.noted" s_Diary_noted ["self", "year"] (spNdd C Cc Cv)) : Ca P w K mg base CX0 15 "_law_looks" s_l_looks [] ["_law_diary", "_law_four_here", "_law_first"] (spLk C Cc Cv) := by
  refine ca0 (k := 14) D c_l_looks (fun vs H Q E h => ?_) fun f cdv A outer s H vs Q E hr h => ?_
  · obtain ⟨b, p, d, l, r, i, ks, ys, m, y, o, k, f, U, n, P', rfl, _⟩ := h
    rfl
  · obtain ⟨b, p, d, l, r, i, ks, ys, m, y, o, k, f, U, n, P', rfl, hy, hn, fo, zi, nz, hys, pn, q⟩ := h
    have nP : ∀ {c : Addr} {H' : Hp}, Same H H' → H' c = none → ¬ P' c := fun s e w => by
      obtain ⟨o', e', _⟩ := pn _ w
      rw [s _ _ e'] at e
      cases e
    have nT : ∀ {c : Addr} {H' : Hp} {xs : List V}, Same H H' → H' c = some (.tup xs) → ¬ P' c := fun s e w => by
      obtain ⟨o', e', n'⟩ := pn _ w
      rw [s _ _ e'] at e
      exact n' _ (Option.some.inj e)
    obtain ⟨dx, eb⟩ := hy.ob
    have no : ∀ {x : Str}, ¬ (x = ("deeds" : Str)) → ¬ (x = ("kept" : Str)) → ¬ (x = ("calendar" : Str)) → (dvs p d l).lookup x = none := dv_no p d l
    have zj : ∀ {j : Nat}, j < 3 → Sz 100 (i + (0 + (j : Int))) := fun h => by
      rw [Int.zero_add]
      exact zadd' zi (by omega) (by omega)
    refine ⟨_, (pss_cons (ps_set (i := 3) c_l_looks.nd rfl (.inl rfl) (pe_callB (cr_sortedSet rfl) rfl g_sorted (by decide +kernel) (pa_cons (pe_callTy (cr_setI rfl) rfl g_set (by decide +kernel) (pa_cons (pe_lc (own := [("_law_k", 5)]) (g := gName 5) (tt := tYes) (te := TE_l_looks1 K C Cc Cv Cd CN CD) rfl c_l_looks.nd (pi_range1 rfl g_range (pa_cons pe_int pa_nil)) (blkOk_by (N := ["_law_diary", "_law_four_here", "_law_first", "_law_years", "_law_told", "_law_k", "_law_a_year"]) (sc := defScope s_l_looks) (by decide +kernel)) (fun _ _ _ _ _ => (pg_name (i := 5) c_l_looks.nd rfl (.inl rfl))) (fun _ _ _ _ _ => by exact pts_nil) (fun _ _ _ _ _ => by exact (pe_ix ix_tup (pe_ca f_l_date b_l_date hr (by decide) pass0 rfl (pa_cons (pv 1) (pa_cons (pe_op op_add (pv 2) (pv 5)) pa_nil))) pe_int (fun _ _ => rfl)))) pa_nil)) pa_nil)))
      (pss_cons (ps_setLc (i := 4) (own := [("_law_k", 5)]) (g := gName 5) (tt := tYes) (te := TE_l_looks2 K C Cc Cv Cd CN CD) rfl c_l_looks.nd rfl rfl (sw_true rfl rfl rfl (by decide +kernel)) (pi_range1 rfl g_range (pa_cons pe_int pa_nil)) (blkOk_by (N := ["_law_diary", "_law_four_here", "_law_first", "_law_years", "_law_told", "_law_k", "_law_a_year"]) (sc := defScope s_l_looks) (by decide +kernel)) (fun _ _ _ _ _ => (pg_name (i := 5) c_l_looks.nd rfl (.inl rfl))) (fun _ _ _ _ _ => by exact pts_nil) (fun _ _ _ _ _ => by exact (pe_cm f_notes_on b_Diary_notes_on hr (by decide) pass0X (pv 0) (pa_cons (pe_ca f_l_date_text b_l_date_text hr (by decide) pass0 rfl (pa_cons (pv 1) (pa_cons (pe_op op_add (pv 2) (pv 5)) pa_nil))) pa_nil))))
      (pss_one (ps_ret (pe_lst (pa_cons (pe_cm0 f_in_all b_Diary_in_all hr (by decide) pass0 (pv 0)) (pa_cons (pv 4) (pa_cons (pe_lc (own := [("_law_a_year", 6)]) (g := gName 6) (tt := tYes) (te := TE_l_looks3 K C Cc Cv Cd CN CD) rfl c_l_looks.nd (pi_list (pv 3)) (blkOk_by (N := ["_law_diary", "_law_four_here", "_law_first", "_law_years", "_law_told", "_law_k", "_law_a_year"]) (sc := defScope s_l_looks) (by decide +kernel)) (fun _ _ _ _ _ => (pg_name (i := 6) c_l_looks.nd rfl (.inl rfl))) (fun _ _ _ _ _ => by exact pts_nil) (fun _ _ _ _ _ => by exact (pe_cm f_noted b_Diary_noted hr (by decide) pass0 (pv 0) (pa_cons (pv 6) pa_nil)))) pa_nil)))))))), ?_⟩
    refine ⟨3, rfl, by decide, by decide, fun D0 hD => ?_⟩
    refine lc_ints (walk_range (lo := 0) (n := 3)) yFn_same hD (by decide) (fun j => dtY m y o k (i + (j : Int))) (fun _ _ => trivial) ?_ ?_
    · rintro j x Ha Hb R hj sa ⟨rfl, rfl⟩ k1
      refine ⟨rfl, ?_⟩
      refine ⟨_, rfl, _, rfl, _, rfl, _, _, rfl, rfl, r, _, m, y, o, k, rfl, fo.same sa, hy.g, (zj hj).mono (by decide), fun t H3 nt s3 et => ?_⟩
      refine ⟨t, _, _, _, rfl, rfl, SqT.of et, rfl, ?_⟩
      rw [Int.zero_add]
      exact k1 _ s3
    intro H1 e1 s1
    refine ⟨D0, _, rfl, SqL.of e1, by simp, fun p1 c1 np1 lc1 => ?_⟩
    have s2 := s1.trans (Same.new (o := SetO w p1 (fun k_1 => decide (k_1 ∈ (List.range 3).map fun (j : Nat) => dtY m y o k (i + (j : Int)))) c1) np1)
    refine ⟨p1, _, _, rfl, upd_same, Nat.lt_of_le_of_lt lc1 (by simp), fun ys' p2 pw mem lys np2 => ?_⟩
    have ey : ys' = ys := Ys3.uniq ⟨pw, fun a => (mem a).trans (by simp only [decide_eq_true_eq, List.mem_map, List.mem_range]; exact ⟨fun ⟨j, h1, h2⟩ => ⟨j, h1, h2.symm⟩, fun ⟨j, h1, h2⟩ => ⟨j, h1, h2.symm⟩⟩)⟩ hys
    subst ey
    have s3 := s2.trans (Same.new (o := .lst (ys'.map V.int)) np2)
    have e2 := upd_same (H := L2.upd H1 p1 (SetO w p1 (fun k_1 => decide (k_1 ∈ (List.range 3).map fun (j : Nat) => dtY m y o k (i + (j : Int)))) c1)) (a := p2) (o := .lst (ys'.map V.int))
    show (fun Hx : Hp => _) (L2.upd (L2.upd H1 p1 (SetO w p1 (fun k_1 => decide (k_1 ∈ (List.range 3).map fun (j : Nat) => dtY m y o k (i + (j : Int)))) c1)) p2 (.lst (ys'.map V.int)))
    generalize L2.upd (L2.upd H1 p1 (SetO w p1 (fun k_1 => decide (k_1 ∈ (List.range 3).map fun (j : Nat) => dtY m y o k (i + (j : Int)))) c1)) p2 _ = H2 at *
    have hy2 := hy.same s3
    refine ⟨3, rfl, by decide, by decide, fun D1 hD1 => ?_⟩
    have kp2 : ∀ {H' : Hp}, Same H2 H' → Dy C Cc Cv H' b p d l m y o k f U n := fun s => hy2.same s
    refine lc_da (walk_range (lo := 0) (n := 3)) yFn_same hD1 (by decide) P' (fun j => .list ((f (i + (j : Int))).map PyData.str)) (fun _ _ => trivial) ?_ ?_
    · rintro j x Ha Hb R us hj sa ea ⟨rfl, rfl⟩ k1
      refine ⟨rfl, ?_⟩
      refine ⟨_, rfl, b, dx, _, rfl, sa _ _ (s3 _ _ eb), no (by decide +kernel) (by decide +kernel) (by decide +kernel), _, rfl, _, rfl, _, rfl, _, _, rfl, rfl, r, _, m, y, o, k, rfl, (fo.same s3).same sa, hy.g, zj hj, fun H3 s4 => ?_⟩
      have hw := wrt_dtT hy.g (zj hj)
      refine ⟨b, p, d, l, _, m, y, o, k, f, U, n, rfl, Nat.le_trans (dtT_len hy.g (zj hj)).1 (by decide), (kp2 sa).same s4, fun x hx rr H4 nr s5 er => ?_, by rw [hw]; exact trivial⟩
      rw [hw] at hx
      injection hx with hx
      subst hx
      rw [Int.zero_add] at er
      refine k1 _ _ (s4.trans s5) (.lst er (fun w => ?_) (DAs.strs _))
      rcases w with w | w
      · exact nP (s3.trans (sa.trans s4)) nr w
      · exact ne_of_none (s4 _ _ ea) nr w.symm
    intro us H3 e3 s4 da
    have s14 := s3.trans s4
    have hy3 := hy2.same s4
    refine ⟨_, rfl, b, dx, _, rfl, s14 _ _ eb, no (by decide +kernel) (by decide +kernel) (by decide +kernel), b, p, d, l, ks, m, y, o, k, f, U, n, rfl, hy3, hn, nz, fun H4 s5 => ?_⟩
    have s15 := s14.trans s5
    have hy4 := hy3.same s5
    refine ⟨_, rfl, _, rfl, p2, rfl, ⟨_, SqL.of (s5 _ _ (s4 _ _ e2))⟩, fun D2 hD2 => ?_⟩
    have wl := walk_list (K := K) (a := p2) (xs := ys'.map V.int)
    rw [List.length_map] at wl
    have ly : ys'.length ≤ 3 := by
      have h3 : c1 ≤ 3 := by simpa using lc1
      omega
    refine lc_da wl yAt_same hD2 (Nat.lt_of_le_of_lt ly (by decide)) P' (fun j => .list ((ndL m y o k f (ys'.getD j 0) ks).map rowD)) (fun H' s' => SqL.of (s' _ _ (s5 _ _ (s4 _ _ e2)))) ?_ ?_
    · rintro j v Ha Hb R us2 hj sa ea ⟨rfl, hv⟩ k1
      obtain ⟨rfl, _⟩ := get_int hv hj
      refine ⟨rfl, ?_⟩
      refine ⟨_, rfl, b, dx, _, rfl, sa _ _ (s15 _ _ eb), no (by decide +kernel) (by decide +kernel) (by decide +kernel), _, rfl, b, p, d, l, _, ks, m, y, o, k, f, U, n, rfl, hy4.same sa, hn, nz, fun rr us3 H5 nr s6 er pa => ?_⟩
      have hy5 := (hy4.same sa).same s6
      have ea5 := s6 _ _ ea
      refine k1 _ _ s6 (.lst er (fun w => ?_) (DAs.of2 rowD (fun u x ⟨t, e1, et⟩ => ?_) pa))
      · rcases w with w | w
        · exact nP (s15.trans sa) nr w
        · exact ne_of_none ea nr w.symm
      · subst e1
        refine .tup et (fun w => ?_) (.cons (.str _) (.cons (.int _) .nil))
        rcases w with w | w
        · exact nT ((s15.trans sa).trans s6) et w
        · rw [w, ea5] at et; cases et
    intro us2 H5 e5 s6 da2
    have s16 := s15.trans s6
    refine ⟨ln _, fun q1 nq1 => ?_⟩
    have hy5 := hy4.same s6
    have s7 := Same.new (o := .lst [.int (inA f ks : Nat), .ref D1, .ref D2]) nq1
    refine q q1 _ (s16.trans s7) (s16.free nq1) (.lst upd_same (nP s16 nq1) (.cons (.int _) (.cons (.lst (s7 _ _ (s6 _ _ (s5 _ _ e3))) (nP s3 hD1) ?_) (.cons (.lst (s7 _ _ e5) (nP s15 hD2) ?_) .nil))))
    · exact (da.weak (P := P') fun c h => .inl h).keep fun c o _ e => s7 _ _ (s6 _ _ (s5 _ _ e))
    · have e9 : (List.range ys'.length).map (fun j => PyData.list ((ndL m y o k f (ys'.getD j 0) ks).map rowD)) = ys'.map fun a => .list ((ndL m y o k f a ks).map rowD) := map_range 0 (fun a => PyData.list ((ndL m y o k f a ks).map rowD)) ys'
      rw [e9] at da2
      exact (da2.weak (P := P') fun c h => .inl h).keep fun c o _ e => s7 _ _ e
end
/-! ### what a diary has kept -/
theorem all_ex : ∀ xs : List Int, ∃ ys : List Int, (ys.Pairwise fun a b => a < b) ∧ ∀ a, a ∈ ys ↔ a ∈ xs
  | [] => ⟨[], by simp, fun a => Iff.rfl⟩
  | x :: xs => by
    obtain ⟨ys, h1, h2⟩ := all_ex xs
    refine ⟨(ys.filter fun a => decide (a < x)) ++ [x] ++ (ys.filter fun a => decide (x < a)), ?_, fun a => ?_⟩
    · rw [List.pairwise_append, List.pairwise_append]
      refine ⟨⟨h1.filter _, by simp, fun a ha b hb => ?_⟩, h1.filter _, fun a ha b hb => ?_⟩
      · have k1 := of_decide_eq_true (List.mem_filter.mp ha).2
        rw [List.mem_singleton.mp hb]
        exact k1
      · have k2 := of_decide_eq_true (List.mem_filter.mp hb).2
        rcases List.mem_append.mp ha with ha | ha
        · have k1 := of_decide_eq_true (List.mem_filter.mp ha).2
          omega
        · rw [List.mem_singleton.mp ha]
          exact k2
    · rw [List.mem_append, List.mem_append, List.mem_filter, List.mem_filter, List.mem_singleton, List.mem_cons, decide_eq_true_eq, decide_eq_true_eq, h2]
      constructor
      · rintro ((h | h) | h)
        · exact .inr h.1
        · exact .inl h
        · exact .inr h.1
      · rintro (h | h)
        · exact .inl (.inr h)
        · rcases Int.lt_trichotomy a x with k | k | k
          · exact .inl (.inl ⟨h, k⟩)
          · exact .inl (.inr k)
          · exact .inr ⟨h, k⟩
theorem ys_ex (m y o k : Rat) (i : Int) : ∃ ys, Ys3 m y o k i ys := by
  obtain ⟨ys, h1, h2⟩ := all_ex ((List.range 3).map fun (j : Nat) => dtY m y o k (i + (j : Int)))
  refine ⟨ys, h1, fun a => (h2 a).trans ?_⟩
  rw [List.mem_map]
  constructor
  · rintro ⟨j, hj, e⟩
    exact ⟨j, List.mem_range.mp hj, e.symm⟩
  · rintro ⟨j, hj, e⟩
    exact ⟨j, List.mem_range.mpr hj, e.symm⟩
noncomputable def ksO (f : Int → List Str) : List Int := Classical.epsilon (fun ks => NzL f ks)
noncomputable def ysO (m y o k : Rat) (i : Int) : List Int := Classical.epsilon (fun ys => Ys3 m y o k i ys)
theorem ysO_ok (m y o k : Rat) (i : Int) : Ys3 m y o k i (ysO m y o k i) := Classical.epsilon_spec (ys_ex m y o k i)
noncomputable def lkO (m y o k : Rat) (i : Int) (f : Int → List Str) : PyData := lkD m y o k i f (ksO f) (ysO m y o k i)
theorem lay_all : ∀ {ds : List PyData}, (∀ d ∈ ds, d.canLay0 = true) → PyData.canLayAll0 ds = true
  | [], _ => rfl
  | d :: ds, h => by
    rw [PyData.canLayAll0, h d List.mem_cons_self, lay_all fun e he => h e (List.mem_cons_of_mem _ he)]
    rfl
theorem dep_all {n : Nat} : ∀ {ds : List PyData}, (∀ d ∈ ds, d.depth ≤ n) → PyData.depthAll ds ≤ n
  | [], _ => by simp [PyData.depthAll]
  | d :: ds, h => by
    have h1 := h d List.mem_cons_self
    have h2 := dep_all (n := n) (ds := ds) fun e he => h e (List.mem_cons_of_mem _ he)
    simp only [PyData.depthAll, Nat.max_def]
    split <;> omega
theorem dtT_ok {m y o k : Rat} (g : Good m y o k) (x : Int) : PyData.strOk (dtT m y o k x) = true := by
  have h2 := dtN_b m y o k x
  have h3 := dtD_b (o := o) g.fit x
  unfold dtT
  exact daS_ok (by omega) (by omega) _
theorem lkO_sh {m y o k : Rat} (g : Good m y o k) (i : Int) {f : Int → List Str} (h : ∀ x, ∀ t ∈ f x, PyData.strOk t = true) : SeqAt.shaped (lkO m y o k i f) = true ∧ PyData.eqv (lkO m y o k i f) (lkO m y o k i f) = true := by
  have a1 : ∀ x, PyData.canLay0 (.list ((f x).map PyData.str)) = true := fun x => by
    simp only [PyData.canLay0]
    refine lay_all fun d hd => ?_
    obtain ⟨t, ht, rfl⟩ := List.mem_map.mp hd
    simp only [PyData.canLay0]
    exact h x t ht
  have a2 : ∀ a, PyData.canLay0 (.list ((ndL m y o k f a (ksO f)).map rowD)) = true := fun a => by
    simp only [PyData.canLay0]
    refine lay_all fun d hd => ?_
    obtain ⟨r, hr, rfl⟩ := List.mem_map.mp hd
    unfold ndL at hr
    obtain ⟨x, _, rfl⟩ := List.mem_map.mp hr
    simp only [rowD, PyData.canLay0, PyData.canLayAll0, dtT_ok g x, Bool.and_self]
  have b1 : ∀ x, PyData.depth (.list ((f x).map PyData.str)) ≤ 10 := fun x => by
    have := dep_all (n := 9) (ds := (f x).map PyData.str) fun d hd => by
      obtain ⟨t, ht, rfl⟩ := List.mem_map.mp hd
      simp [PyData.depth]
    simp only [PyData.depth]
    omega
  have b2 : ∀ a, PyData.depth (.list ((ndL m y o k f a (ksO f)).map rowD)) ≤ 10 := fun a => by
    have := dep_all (n := 9) (ds := (ndL m y o k f a (ksO f)).map rowD) fun d hd => by
      obtain ⟨r, hr, rfl⟩ := List.mem_map.mp hd
      simp [rowD, PyData.depth, PyData.depthAll]
    simp only [PyData.depth]
    omega
  have k1 : PyData.canLay0 (lkO m y o k i f) = true := by
    unfold lkO lkD
    simp only [PyData.canLay0]
    refine lay_all fun d hd => ?_
    simp only [List.mem_cons, List.not_mem_nil, or_false] at hd
    rcases hd with rfl | rfl | rfl
    · rfl
    · simp only [PyData.canLay0]
      refine lay_all fun d hd => ?_
      obtain ⟨j, _, rfl⟩ := List.mem_map.mp hd
      exact a1 _
    · simp only [PyData.canLay0]
      refine lay_all fun d hd => ?_
      obtain ⟨j, _, rfl⟩ := List.mem_map.mp hd
      exact a2 _
  have k2 : PyData.depth (lkO m y o k i f) ≤ 64 := by
    have c1 : PyData.depthAll ((List.range 3).map fun (j : Nat) => PyData.list ((f (i + (j : Int))).map PyData.str)) ≤ 10 := dep_all fun d hd => by
      obtain ⟨j, _, rfl⟩ := List.mem_map.mp hd
      exact b1 _
    have c2 : PyData.depthAll ((ysO m y o k i).map fun a => PyData.list ((ndL m y o k f a (ksO f)).map rowD)) ≤ 10 := dep_all fun d hd => by
      obtain ⟨j, _, rfl⟩ := List.mem_map.mp hd
      exact b2 _
    have := dep_all (n := 20) (ds := [.int (inA f (ksO f) : Nat), (.list ((List.range 3).map fun (j : Nat) => PyData.list ((f (i + (j : Int))).map PyData.str))), .list ((ysO m y o k i).map fun a => .list ((ndL m y o k f a (ksO f)).map rowD))]) fun d hd => by
      simp only [List.mem_cons, List.not_mem_nil, or_false] at hd
      rcases hd with rfl | rfl | rfl
      · simp [PyData.depth]
      · simp only [PyData.depth]; omega
      · simp only [PyData.depth]; omega
    unfold lkO lkD
    simp only [PyData.depth]
    omega
  refine ⟨?_, SeqAt.eqv_refl _ k1⟩
  show (PyData.canLay0 (lkO m y o k i f) && decide (PyData.depth (lkO m y o k i f) ≤ 64)) = true
  rw [k1, decide_eq_true k2]
  rfl
/-- the texts that are noted -/
def abcT (j : Nat) : Str := (["a", "b", "c", "d", "e", "f"] : List Str).getD j ""
theorem abc_all : ∀ j : Nat, j < 6 → atI ("abcdef" : Str).cps.toList (0 + (j : Int)) = some (97 + j) ∧ abcT j = ⟨#[97 + j]⟩ := by
  intro j hj
  match j, hj with
  | 0, _ => decide +kernel
  | 1, _ => decide +kernel
  | 2, _ => decide +kernel
  | 3, _ => decide +kernel
  | 4, _ => decide +kernel
  | 5, _ => decide +kernel
  | j + 6, h => omega
theorem abc_ok (j : Nat) : PyData.strOk (abcT j) = true := by
  match j with
  | 0 => decide +kernel
  | 1 => decide +kernel
  | 2 => decide +kernel
  | 3 => decide +kernel
  | 4 => decide +kernel
  | 5 => decide +kernel
  | j + 6 => exact (by decide +kernel : PyData.strOk ("" : Str) = true)
/-- what is kept after j notes -/
def hF (i : Int) : Nat → Int → List Str
  | 0 => fun _ => []
  | j + 1 => upF (hF i j) (i + ((j % 3 : Nat) : Int)) (hF i j (i + ((j % 3 : Nat) : Int)) ++ [abcT j])
def hD (i : Int) (j : Nat) : List Row := [(i + ((j % 3 : Nat) : Int), hF i j (i + ((j % 3 : Nat) : Int)))]
def hU (i : Int) (j : Nat) : List (List Row) := (List.range j).map (hD i)
theorem hU_succ (i : Int) (j : Nat) : hU i (j + 1) = hU i j ++ [hD i j] := by
  unfold hU
  rw [List.range_succ, List.map_append]
  rfl
theorem undF_h (i : Int) (j : Nat) : undF (hD i j) (hF i (j + 1)) = hF i j := by
  show upF (upF (hF i j) _ _) _ _ = hF i j
  funext z
  unfold upF
  by_cases h : z = i + ((j % 3 : Nat) : Int)
  · rw [if_pos h, h]
  · rw [if_neg h, if_neg h]
theorem hF_len (i : Int) : ∀ (j : Nat) (x : Int), (hF i j x).length ≤ j
  | 0, x => Nat.le_refl 0
  | j + 1, x => by
    show (upF (hF i j) _ _ x).length ≤ _
    unfold upF
    split
    · rw [List.length_append]
      exact Nat.add_le_add_right (hF_len i j _) 1
    · exact Nat.le_succ_of_le (hF_len i j x)
theorem hF_ok (i : Int) : ∀ (j : Nat) (x : Int), ∀ t ∈ hF i j x, PyData.strOk t = true
  | 0, x, t, ht => by cases ht
  | j + 1, x, t, ht => by
    have ht : t ∈ upF (hF i j) (i + ((j % 3 : Nat) : Int)) (hF i j (i + ((j % 3 : Nat) : Int)) ++ [abcT j]) x := ht
    unfold upF at ht
    split at ht
    · rcases List.mem_append.mp ht with h | h
      · exact hF_ok i j _ t h
      · rw [List.mem_singleton.mp h]
        exact abc_ok j
    · exact hF_ok i j x t ht
/-! ### a fault that is drawn -/
theorem Cl.via {C Cc : Addr} {H H' : Hp} {p : Addr} {m y o k : Rat} (h : Cl C Cc H p m y o k) (ki : ∀ {c c' dx : Addr} {fs : List (Str × V)}, H c = some (.ins c' dx fs) → H' c = some (.ins c' dx fs)) : Cl C Cc H' p m y o k := by
  obtain ⟨dx, a, b, c, d, e, ⟨x1, h1⟩, ⟨x2, h2⟩, ⟨x3, h3⟩, ⟨x4, h4⟩⟩ := h
  exact ⟨dx, a, b, c, d, ki e, ⟨x1, ki h1⟩, ⟨x2, ki h2⟩, ⟨x3, ki h3⟩, ⟨x4, ki h4⟩⟩
section
variable {C Cc Cv : Addr} {H H' : Hp} {b p d l : Addr} {m y o k : Rat} {f : Int → List Str} {U : List (List Row)} {n : Nat}
/-- writing to a list that is none of a diary's -/
theorem Dy.via (h : Dy C Cc Cv H b p d l m y o k f U n) {L : Addr} {vs : List V} (s : But L H H') (nl : L ≠ l) (eL : H L = some (.lst vs)) (h1 : ∀ ts : List Str, vs ≠ ts.map V.str) (h2 : ∀ dd, ¬ All2 (RwR H l) vs dd) : Dy C Cc Cv H' b p d l m y o k f U n := by
  have ki : ∀ {c c' dx : Addr} {fs : List (Str × V)}, H c = some (.ins c' dx fs) → H' c = some (.ins c' dx fs) := fun e => s _ _ (fun w => by rw [w, eL] at e; cases e) e
  have kt : ∀ {c : Addr} {ts : List Str}, H c = some (.lst (ts.map V.str)) → H' c = some (.lst (ts.map V.str)) := fun e => s _ _ (fun w => by
    rw [w, eL] at e
    injection e with e
    injection e with e
    exact h1 _ e) e
  obtain ⟨⟨dx, e⟩, hc, g, ⟨kvs, ed, kr, l1⟩, ⟨us, el, du, l2⟩⟩ := h
  refine ⟨⟨dx, ki e⟩, hc.via ki, g, ⟨kvs, s _ _ (fun w => by rw [w, eL] at ed; cases ed) ed, ⟨fun kv hk => ?_, kr.nd, kr.no⟩, l1⟩, us, s _ _ nl.symm el, du.mono fun u dd r => ?_, l2⟩
  · obtain ⟨x, a, e1, na, ea, z⟩ := kr.ats kv hk
    exact ⟨x, a, e1, na, kt ea, z⟩
  · obtain ⟨q, us', e1, nq, eq, a2⟩ := r
    refine ⟨q, us', e1, nq, s _ _ (fun w => ?_) eq, a2.mono fun u r ⟨t, a, e2, et, na, ea, z⟩ => ⟨t, a, e2, s _ _ (fun w => by rw [w, eL] at et; cases et) et, na, kt ea, z⟩⟩
    rw [w, eL] at eq
    injection eq with eq
    injection eq with eq
    rw [← eq] at a2
    exact h2 _ a2
/-- the draws' list is none of a diary's -/
theorem Dy.drne (h : Dy C Cc Cv H b p d l m y o k f U n) {lw : Addr} {c : Nat} (dr : Dr H lw c) : lw ≠ l ∧ lw ≠ d := by
  obtain ⟨i, j, fl, el, _⟩ := dr
  refine ⟨fun w => ?_, fun w => ?_⟩
  · obtain ⟨us, el2, du, _⟩ := h.de
    rw [← w, el] at el2
    injection el2 with e
    injection e with e
    subst e
    cases du with
    | cons r _ =>
      obtain ⟨q, us, e, _⟩ := r
      cases e
  · obtain ⟨kvs, ed, _⟩ := h.kp
    rw [← w, el] at ed
    cases ed
theorem Dy.but (h : Dy C Cc Cv H b p d l m y o k f U n) {lw : Addr} {c : Nat} (s : But lw H H') (dr : Dr H lw c) : Dy C Cc Cv H' b p d l m y o k f U n := by
  have nl := (h.drne dr).1
  obtain ⟨i, j, fl, el, _⟩ := dr
  refine h.via s nl el (fun ts w => ?_) fun dd a => ?_
  · cases ts with
    | nil => cases w
    | cons t ts => injection w with w; cases w
  · cases a with
    | cons r _ =>
      obtain ⟨t, a, e, _⟩ := r
      cases e
abbrev PD3 (d l lw : Addr) : Addr → Prop := fun c => (c = d ∨ c = l) ∨ c = lw
theorem PD3.no (h : Dy C Cc Cv H b p d l m y o k f U n) {lw : Addr} {c : Nat} (dr : Dr H lw c) : ∀ c, PD3 d l lw c → ∃ o, H c = some o ∧ ∀ xs, o ≠ .tup xs := by
  obtain ⟨i, j, fl, el, _⟩ := dr
  obtain ⟨kvs, ed, _⟩ := h.kp
  obtain ⟨us, e2⟩ := h.lst
  rintro c ((rfl | rfl) | rfl)
  · exact ⟨_, ed, fun _ w => nomatch w⟩
  · exact ⟨_, e2, fun _ w => nomatch w⟩
  · exact ⟨_, el, fun _ w => nomatch w⟩
theorem But.da {lw : Addr} {x : PyData} {v : V} (s : But lw H H') (a : DA H (PD3 d l lw) v x) : DA H' (PD3 d l lw) v x := a.keep fun c o n e => s c o (fun w => n (.inr w)) e
end
theorem no2 {H : Hp} {P : Addr → Prop} (h : ∀ c, P c → ∃ o, H c = some o ∧ ∀ xs, o ≠ .tup xs) : (∀ c, P c → H c ≠ none) ∧ ∀ c, P c → ∀ xs, H c ≠ some (.tup xs) := by
  refine ⟨fun c pc e => ?_, fun c pc xs e => ?_⟩
  · obtain ⟨o, e', _⟩ := h c pc
    rw [e'] at e
    cases e
  · obtain ⟨o, e', n⟩ := h c pc
    rw [e'] at e
    exact n xs (Option.some.inj e)
def rfH : Rf → Str
  | .good => "good"
  | .txt _ => "text"
  | .dat _ _ => "date"
  | .note _ => "note"
  | .deed => "deed"
theorem due_rf (t : Str) (r : WrK) : dueD t r = rfD (rfW t r) ∧ hdD r = rfH (rfW t r) := by
  cases r <;> exact ⟨rfl, rfl⟩
theorem rfH_good (r : Rf) : rfH r = "good" ↔ r = .good := by
  cases r with
  | good => exact ⟨fun _ => rfl, fun _ => rfl⟩
  | txt t => exact ⟨fun h => absurd (show ("text" : Str) = "good" from h) (by decide +kernel), fun h => nomatch h⟩
  | dat z w => exact ⟨fun h => absurd (show ("date" : Str) = "good" from h) (by decide +kernel), fun h => nomatch h⟩
  | note a => exact ⟨fun h => absurd (show ("note" : Str) = "good" from h) (by decide +kernel), fun h => nomatch h⟩
  | deed => exact ⟨fun h => absurd (show ("deed" : Str) = "good" from h) (by decide +kernel), fun h => nomatch h⟩
def rfOk : Rf → Prop
  | .good => True
  | .txt t => PyData.strOk t = true
  | .dat _ w => PyData.strOk w = true
  | .note _ => True
  | .deed => True
theorem whS_ok {m y o k : Rat} {a b c : Int} {od : Bool} {w : Str} (h : dyF m y o k a b c od = .inl w) : PyData.strOk w = true := by
  have key : w = "number" ∨ w = "odd" ∨ w = "day" := by
    unfold dyF at h
    cases hm : moF m y o k a b od with
    | inl w =>
      rw [hm] at h
      cases h
      unfold moF at hm
      split at hm
      · cases hm; exact .inl rfl
      split at hm
      · cases hm; exact .inl rfl
      split at hm
      · split at hm
        · cases hm; exact .inr (.inl rfl)
        · cases hm
      · cases hm
    | inr j =>
      rw [hm] at h
      dsimp only at h
      split at h
      · cases h; exact .inr (.inr rfl)
      split at h
      · cases h; exact .inr (.inr rfl)
      · cases h
  rcases key with rfl | rfl | rfl <;> decide +kernel
theorem rfW_ok {m y o k : Rat} {t : Str} (h : PyData.strOk t = true) : rfOk (rfW t (wrt m y o k t)) := by
  unfold wrt
  split
  · cases hd : dyF m y o k (rdd t).y (rdd t).n (rdd t).d (rdd t).o with
    | inl w => exact whS_ok hd
    | inr i => exact trivial
  · exact h
theorem thenR_ok {m y o k : Rat} {t u : Str} (h : PyData.strOk t = true) (h' : PyData.strOk u = true) : rfOk (thenR t u (wrt m y o k t) (wrt m y o k u)) := by
  have h1 := rfW_ok (m := m) (y := y) (o := o) (k := k) h
  have h2 := rfW_ok (m := m) (y := y) (o := o) (k := k) h'
  generalize wrt m y o k t = r at *
  cases r with
  | txt => exact h1
  | dat z w => exact h1
  | day i => exact h2
theorem askR_ok {m y o k : Rat} {way : Int} {t u : Str} {a : Int} (h : PyData.strOk t = true) (h' : PyData.strOk u = true) : rfOk (askR m y o k way t u a) := by
  have h1 := rfW_ok (m := m) (y := y) (o := o) (k := k) h
  unfold askR
  split
  · exact h1
  split
  · generalize wrt m y o k t = r at *
    cases r with
    | txt => exact h1
    | dat z w => exact h1
    | day i => exact trivial
  split
  · exact thenR_ok h h'
  split
  · exact thenR_ok h' h
  split
  · exact h1
  · exact trivial
theorem rfD_sh {r : Rf} (h : rfOk r) : SeqAt.shaped (rfD r) = true ∧ PyData.eqv (rfD r) (rfD r) = true := by
  have k1 : (rfD r).canLay0 = true := by
    cases r with
    | good => decide +kernel
    | deed => decide +kernel
    | txt t =>
      have h : PyData.strOk t = true := h
      have w1 : PyData.strOk ("text" : Str) = true := by decide +kernel
      simp only [rfD, PyData.canLay0, PyData.canLayAll0, h, w1, Bool.and_self]
    | dat z w =>
      have h : PyData.strOk w = true := h
      have w1 : PyData.strOk ("date" : Str) = true := by decide +kernel
      simp only [rfD, PyData.canLay0, PyData.canLayAll0, h, w1, Bool.and_self]
    | note a =>
      have w1 : PyData.strOk ("note" : Str) = true := by decide +kernel
      simp only [rfD, PyData.canLay0, PyData.canLayAll0, w1, Bool.and_self]
  have k2 : (rfD r).depth ≤ 64 := by
    cases r <;> simp [rfD, PyData.depth, PyData.depthAll]
  refine ⟨?_, SeqAt.eqv_refl _ k1⟩
  show (PyData.canLay0 (rfD r) && decide (PyData.depth (rfD r) ≤ 64)) = true
  rw [k1, decide_eq_true k2]
  rfl
/-- what is due ahead of strike's own -/
def r6 (m y o k : Rat) (way : Int) (t u : Str) : Rf := if way = 2 then thenR t u (wrt m y o k t) (wrt m y o k u) else if way = 3 then thenR u t (wrt m y o k u) (wrt m y o k t) else rfW t (wrt m y o k t)
theorem thenR_eq (t u : Str) (r r' : WrK) : (rfW t r = .good → thenR t u r r' = rfW u r') ∧ (rfW t r ≠ .good → thenR t u r r' = rfW t r) := by
  cases r with
  | txt => exact ⟨fun h => (nomatch (show Rf.txt t = Rf.good from h)), fun _ => rfl⟩
  | dat z w => exact ⟨fun h => (nomatch (show Rf.dat z w = Rf.good from h)), fun _ => rfl⟩
  | day i => exact ⟨fun _ => rfl, fun h => absurd rfl h⟩
theorem r6_day {m y o k : Rat} {way : Int} {t u : Str} {i : Int} (h : wrt m y o k u = .day i) : r6 m y o k way t u = rfW t (wrt m y o k t) := by
  unfold r6
  rw [h]
  split
  · cases wrt m y o k t <;> rfl
  split
  · cases wrt m y o k t <;> rfl
  · rfl
theorem r6_ask {m y o k : Rat} {way : Int} {t u : Str} (a : Int) (w0 : 0 ≤ way) (w5 : way < 5) (h : way ≠ 1 ∨ r6 m y o k way t u ≠ .good) : askR m y o k way t u a = r6 m y o k way t u := by
  have hw : way = 0 ∨ way = 1 ∨ way = 2 ∨ way = 3 ∨ way = 4 := by omega
  rcases hw with rfl | rfl | rfl | rfl | rfl
  · rfl
  · rcases h with h | h
    · exact absurd rfl h
    · have e : r6 m y o k 1 t u = rfW t (wrt m y o k t) := rfl
      rw [e] at h ⊢
      have e2 : askR m y o k 1 t u a = (match wrt m y o k t with
        | .day _ => .note a
        | r => rfW t r) := rfl
      rw [e2]
      generalize wrt m y o k t = r at *
      cases r with
      | txt => rfl
      | dat z w => rfl
      | day i => exact absurd rfl h
  · rfl
  · rfl
  · rfl
theorem wrt_day_b {m y o k : Rat} {t : Str} (h : rfW t (wrt m y o k t) = .good) : ∃ i, wrt m y o k t = .day i := by
  cases hw : wrt m y o k t with
  | txt => rw [hw] at h; cases h
  | dat z w => rw [hw] at h; cases h
  | day i => exact ⟨i, rfl⟩
def spFt (C Cc Cv : Addr) : Sp := fun vs H Q _ => ∃ (b p d l r lw : Addr) (i : Int) (c : Nat) (m y o k : Rat) (f : Int → List Str) (U : List (List Row)) (n : Nat), vs = [.ref b, .ref r, .int i, .ref lw] ∧ Dy C Cc Cv H b p d l m y o k f U n ∧ n ≤ 9000 ∧ Fo H r m y o k ∧ Sz 90 i ∧ Dr H lw c ∧ c ≤ 800000 ∧ (∀ x, (f x).length ≤ 50) ∧
  ∀ H', But lw H H' → Dr H' lw (c + 8) → Q (.bl true) H'
theorem But.lsS {lw a : Addr} {H H1 : Hp} {n : Nat} {s : Str} {xs : List V} (b : But lw H H1) (d : Dr H lw n) (e : H a = some (.lst (.str s :: xs))) : H1 a = some (.lst (.str s :: xs)) := by
  obtain ⟨_, _, _, el, _⟩ := d
  refine b _ _ (fun w => ?_) e
  rw [w, el] at e
  injection e with e
  injection e with e
  injection e with e
  cases e
theorem any23 {way : Int} (w0 : 0 ≤ way) (w5 : way < 5) : (([.int 2, .int 3] : List PyData).any fun z => PyData.eqv z (.int way)) = decide (way = 2 ∨ way = 3) := by
  have hw : way = 0 ∨ way = 1 ∨ way = 2 ∨ way = 3 ∨ way = 4 := by omega
  rcases hw with rfl | rfl | rfl | rfl | rfl <;> decide +kernel
section
variable {P : Program} {w : World} {K : PySem.W.Frag} {mg : Str → Option Value} {base : Heap} {C Cc Cd Cv CN CD : Addr}
theorem ok_lft82 (D : Df K mg "_law_fault" s_l_fault []) (f_l_next : Ca P w K mg base CX0 1 "_law_next" s_l_next [] ["_law_draws_here"] spNext) (g_int : mg "int" = none) (g_len : mg "len" = none) (f_l_drawn : Ca P w K mg base CX0 7 "_law_drawn" s_l_drawn [] ["_law_four_here", "_law_first", "_law_draws_here"] spDrw) (f_l_due : Ca P w K mg base CX0 7 "_law_due" s_l_due [] ["_law_four_here", "_law_drawn_here"] spDu) (f_l_date_text : Ca P w K mg base CX0 7 "_law_date_text" s_l_date_text [] ["_law_four_here", "_law_day"] spDtT)
    (f_notes_on : Cm P w K mg base (L2.CX P w) 14 Cv "notes_on" "Diary.notes_on" s_Diary_notes_on ["self", "date"] (spOn C Cc Cv Cd CN CD)) (f_l_asked : Ca P w K mg base CX0 16 "_law_asked" s_l_asked [] ["_law_diary", "_law_way", "_law_text_here", "_law_other", "_law_at"] (spAsked82 C Cc Cv)) : Ca P w K mg base CX0 17 "_law_fault" s_l_fault [] ["_law_diary", "_law_four_here", "_law_first", "_law_draws_here"] (spFt C Cc Cv) := by
  refine ca0 (k := 16) D c_l_fault (fun vs H Q E h => ?_) fun f cdv A outer s H vs Q E hr h => ?_
  · obtain ⟨b, p, d, l, r, lw, i, c, m, y, o, k, f, U, n, rfl, _⟩ := h
    rfl
  · obtain ⟨b, p, d, l, r, lw, i, c, m, y, o, k, f, U, n, rfl, hy, hn, fo, zi, d0, hc, lf, q⟩ := h
    have g := hy.g
    refine ⟨_, (pss_cons (ps_set (i := 4) c_l_fault.nd rfl (.inl rfl) (pe_ca f_l_drawn b_l_drawn hr (by decide) pass0 rfl (pa_cons (pv 1) (pa_cons (pv 2) (pa_cons (pv 3) pa_nil)))))
      (C8.pss_cut (ps_set (i := 5) c_l_fault.nd rfl (.inl rfl) (pe_op op_mod (pe_ca f_l_next b_l_next hr (by decide) pass0 rfl (pa_cons (pv 3) pa_nil)) pe_int))
      (pss_cons (ps_set (i := 6) c_l_fault.nd rfl (.inl rfl) (pe_ca f_l_due b_l_due hr (by decide) pass0 rfl (pa_cons (pv 1) (pa_cons (pv 4) pa_nil))))
      (pss_cons (ps_set (i := 7) c_l_fault.nd rfl (.inl rfl) (pe_ix ix_list (pe_lst (pa_cons (pe_un un_neg pe_int) (pa_cons pe_int (pa_cons (pe_op op_pow pe_int pe_int) (pa_cons (pe_un un_neg pe_int) pa_nil))))) (pe_op op_mod (pe_ca f_l_next b_l_next hr (by decide) pass0 rfl (pa_cons (pv 3) pa_nil)) pe_int) (fun _ _ => rfl)))
      (pss_cons (ps_set (i := 8) c_l_fault.nd rfl (.inl rfl) (pe_ca f_l_date_text b_l_date_text hr (by decide) pass0 rfl (pa_cons (pv 1) (pa_cons (pv 2) pa_nil))))
      (C8.pss_cut (ps_if (PW.pt (pw_and (pt_cmpR (op_inD (hu65 hr)) (pv 5) (pe_lst (pa_cons pe_int (pa_cons pe_int pa_nil))) rfl) (pw_and1 (pt_cmpR op_eq (pe_op op_mod (pe_ca f_l_next b_l_next hr (by decide) pass0 rfl (pa_cons (pv 3) pa_nil)) pe_int) pe_int (nomark _))))) (pss_cons (ps_set (i := 9) c_l_fault.nd rfl (.inl rfl) (pe_ca f_l_drawn b_l_drawn hr (by decide) pass0 rfl (pa_cons (pv 1) (pa_cons (pv 2) (pa_cons (pv 3) pa_nil)))))
      (pss_cons (ps_set (i := 8) c_l_fault.nd rfl (.inl rfl) (pe_ix ix_tup (pv 9) pe_int (fun _ _ => rfl)))
      (pss_cons (ps_set (i := 10) c_l_fault.nd rfl (.inl rfl) (pe_stepL (pe_lst (pa_cons (pv 6) (pa_cons (pe_ca f_l_due b_l_due hr (by decide) pass0 rfl (pa_cons (pv 1) (pa_cons (pv 9) pa_nil))) pa_nil))) (pe_ix ix_list (pe_lst (pa_cons pe_int (pa_cons (pe_un un_neg pe_int) pa_nil))) (pe_op op_sub (pv 5) pe_int) (fun _ _ => rfl))))
      (pss_one (ps_set (i := 6) c_l_fault.nd rfl (.inl rfl) (pe_ix ix_list (pe_lst (pa_cons (pe_ix ix_list (pv 10) pe_int (fun _ _ => rfl)) (pa_cons (pe_ix ix_list (pv 10) pe_int (fun _ _ => rfl)) pa_nil))) (pe_callTy call_int1 rfl g_int (by decide +kernel) (pa_cons (pe_cmpR op_eq (pe_ix ix_list (pe_ix ix_list (pv 10) pe_int (fun _ _ => rfl)) pe_int (fun _ _ => rfl)) pe_str (nomark _)) pa_nil)) (fun _ _ => rfl))))))) pss_nil)
      (C8.pss_cut (ps_if (PW.pt (pw_and (pt_cmpR op_eq (pe_ix ix_list (pv 6) pe_int (fun _ _ => rfl)) pe_str (nomark _)) (pw_and1 (pt_cmpR op_eq (pv 5) pe_int (nomark _))))) (pss_cons (ps_if (pt_cmpR op_eq (pe_op op_mod (pe_ca f_l_next b_l_next hr (by decide) pass0 rfl (pa_cons (pv 3) pa_nil)) pe_int) pe_int (nomark _)) (pss_one (ps_set (i := 7) c_l_fault.nd rfl (.inl rfl) (pe_callB call_len_seq rfl g_len (by decide +kernel) (pa_cons (pe_cm f_notes_on b_Diary_notes_on hr (by decide) pass0X (pv 0) (pa_cons (pe_ix ix_tup (pv 4) pe_int (fun _ _ => rfl)) pa_nil)) pa_nil)))) pss_nil)
      (pss_one (ps_set (i := 6) c_l_fault.nd rfl (.inl rfl) (pe_lst (pa_cons pe_str (pa_cons (pv 7) (pa_cons pe_non pa_nil))))))) pss_nil)
      (pss_cons (ps_if (PW.pt (pw_and (pt_cmpR op_eq (pe_ix ix_list (pv 6) pe_int (fun _ _ => rfl)) pe_str (nomark _)) (pw_and1 (pt_cmpR op_ne (pv 5) pe_int (nomark _))))) (pss_one (ps_ret pe_bl)) pss_nil)
      (pss_one (ps_ret (pe_cmpR (op_eqD hr.units) (pe_ca f_l_asked b_l_asked hr (by decide) pass0 rfl (pa_cons (pv 0) (pa_cons (pv 5) (pa_cons (pe_ix ix_tup (pv 4) pe_int (fun _ _ => rfl)) (pa_cons (pv 8) (pa_cons (pv 7) pa_nil)))))) (pv 6) (nomark _)))))))))))), ?_⟩
    refine ⟨_, rfl, _, rfl, _, rfl, r, lw, i, c, m, y, o, k, rfl, fo, g, zi, d0, by omega, fun t tx H1 b1 d1 dv => ?_⟩
    refine ⟨fun σ' H' => ∃ way : Int, 0 ≤ way ∧ way < 5 ∧ σ' = [some (.ref b), some (.ref r), some (.int i), some (.ref lw), some (.ref t), some (.int way), none, none, none, none, none] ∧ But lw H H' ∧ Dr H' lw (c + 3) ∧ DrV H' t tx, ?_, ?_⟩
    · refine ⟨_, rfl, lw, c + 2, rfl, d1, by omega, fun pk H2 p0 p1 b2 d2 => ?_⟩
      exact ⟨_, _, rfl, rfl, md, _, Int.emod_nonneg pk (by decide), Int.emod_lt_of_pos pk (by decide), rfl, b1.trans b2, d2, dv.same fun c xs e => b2.tup d1 e⟩
    rintro σ' H' ⟨way, w0, w5, rfl, b2, d2, dv2⟩
    clear dv d1 b1
    have hy2 := hy.but b2 d0
    have fo2 := fo.but b2 d0
    have pn2 := PD3.no hy2 d2
    refine ⟨_, rfl, _, rfl, r, t, tx, m, y, o, k, PD3 d l lw, rfl, fo2, g, dv2, (no2 pn2).1, (no2 pn2).2, fun a xs H3 s3 na ea da => ?_⟩
    rw [(due_rf tx _).1] at da
    rw [(due_rf tx _).2] at ea
    have d3 := d2.same s3 (Nat.le_refl _)
    have b3 := b2.trans (But.same s3)
    have dv3 : DrV H3 t tx := dv2.same fun c xs e => s3 _ _ e
    refine ⟨_, rfl, _, _, rfl, rfl, ⟨by decide, by decide⟩, _, rfl, ln _, fun pl npl => ?_⟩
    have s4 := Same.new (o := .lst [.int (-1), .int 99, .int (10 ^ (18 : Int).toNat), .int (-5)]) npl
    have epl := upd_same (H := H3) (a := pl) (o := .lst [.int (-1), .int 99, .int (10 ^ (18 : Int).toNat), .int (-5)])
    have d4 := d3.same s4 (Nat.le_refl _)
    refine ⟨_, rfl, lw, c + 3, rfl, d4, by omega, fun pk H5 p0 p1 b5 d5 => ?_⟩
    have nlw : pl ≠ lw := by
      obtain ⟨_, _, _, el, _⟩ := d3
      exact (ne_of_none el npl).symm
    have epl5 := b5 _ _ nlw epl
    obtain ⟨one, ho, at', rfl, hat⟩ := pick (P := fun v => ∃ j : Int, v = V.int j ∧ (j < 0 ∨ 50 ≤ j)) (xs := [V.int (-1), V.int 99, V.int (10 ^ (18 : Int).toNat), V.int (-5)]) (Int.emod_nonneg pk (show (4 : Int) ≠ 0 by decide)) (Int.emod_lt_of_pos pk (show (0 : Int) < 4 by decide)) (by
      intro v hv
      simp only [List.mem_cons, List.not_mem_nil, or_false] at hv
      rcases hv with rfl | rfl | rfl | rfl
      · exact ⟨_, rfl, by decide⟩
      · exact ⟨_, rfl, by decide⟩
      · exact ⟨_, rfl, by decide⟩
      · exact ⟨_, rfl, by decide⟩)
    refine ⟨_, _, rfl, rfl, md, pl, _, _, _, rfl, rfl, SqL.of epl5, ho, ?_⟩
    have ea5 := b5.lsS d4 (s4 _ _ ea)
    have da5 := b5.da (da.same s4)
    have dv5 : DrV H5 t tx := (dv3.same fun c xs e => s4 _ _ e).same fun c xs e => b5.tup d4 e
    have b05 := (b3.trans (But.same s4)).trans b5
    have fo5 := fo.but b05 d0
    refine ⟨_, rfl, _, rfl, r, i, m, y, o, k, rfl, fo5, g, zi.mono (by decide), fun H6 s6 => ?_⟩
    have b6 := b05.trans (But.same s6)
    have d6 := d5.same s6 (Nat.le_refl _)
    have ea6 := s6 _ _ ea5
    have da6 := da5.same s6
    have dv6 : DrV H6 t tx := dv5.same fun c xs e => s6 _ _ e
    have wi : wrt m y o k (dtT m y o k i) = .day i := wrt_dtT g (zi.mono (by decide))
    have si := dtT_ok g i
    have li := (dtT_len g (zi.mono (by decide : 90 ≤ 100))).1
    clear ea5 da5 dv5 ea da dv3 b5 b3 epl5 epl fo2 dv2 pn2 hy2 s3 na
    refine ⟨fun σ' H' => ∃ (a : Addr) (u : Str) (v9 v10 : Option V) (xs : List V), σ' = [some (.ref b), some (.ref r), some (.int i), some (.ref lw), some (.ref t), some (.int way), some (.ref a), some (.int at'), some (.str u), v9, v10] ∧ But lw H H' ∧ Dr H' lw (c + 7) ∧ DrV H' t tx ∧ u.length ≤ 98 ∧ PyData.strOk u = true ∧ H' a = some (.lst (.str (rfH (r6 m y o k way tx u)) :: xs)) ∧ DA H' (PD3 d l lw) (.ref a) (rfD (r6 m y o k way tx u)), ?_, ?_⟩
    · have e6 := r6_day (t := tx) (way := way) wi
      refine ⟨_, rfl, ln _, fun pm npm => ?_⟩
      have s7 := Same.new (o := .lst [.int 2, .int 3]) npm
      refine ⟨.int way, [.int 2, .int 3], .int _, .lst (SqL.of upd_same) (.cons (.int _) (.cons (.int _) .nil)), rfl, rfl, _, rfl, ?_⟩
      rw [any23 w0 w5]
      have b7 := b6.trans (But.same s7)
      have d7 := d6.same s7 (Nat.le_refl _)
      have ea7 := s7 _ _ ea6
      have da7 := da6.same s7
      have dv7 : DrV (L2.upd H6 pm (.lst [.int 2, .int 3])) t tx := dv6.same fun c xs e => s7 _ _ e
      have b7 := b6.trans (But.same s7)
      have d7 := d6.same s7 (Nat.le_refl _)
      have ea7 := s7 _ _ ea6
      have da7 := da6.same s7
      have dv7 : DrV (L2.upd H6 pm (.lst [.int 2, .int 3])) t tx := dv6.same fun c xs e => s7 _ _ e
      have b7 := b6.trans (But.same s7)
      have d7 := d6.same s7 (Nat.le_refl _)
      have ea7 := s7 _ _ ea6
      have da7 := da6.same s7
      have dv7 : DrV (L2.upd H6 pm (.lst [.int 2, .int 3])) t tx := dv6.same fun c xs e => s7 _ _ e
      by_cases hw : way = 2 ∨ way = 3
      · rw [decide_eq_true hw]
        refine iteT ?_
        generalize L2.upd H6 pm _ = H7 at *
        refine ⟨_, rfl, lw, c + 4, rfl, d7, by omega, fun pk2 H8 p0 p1 b8 d8 => ?_⟩
        have ea8 := b8.lsS d7 ea7
        have da8 := b8.da da7
        have dv8 : DrV H8 t tx := dv7.same fun c xs e => b8.tup d7 e
        have b08 := b7.trans b8
        have fo8 := fo.but b08 d0
        clear ea7 da7 dv7 ea6 da6 dv6 b05 fo5
        refine ⟨_, _, rfl, rfl, md, rfl, _, rfl, ?_⟩
        refine ite2 (fun _ => ?_) (fun _ => ?_)
        · rcases hw with rfl | rfl
          · refine ⟨_, rfl, _, rfl, _, rfl, r, lw, i, c + 5, m, y, o, k, rfl, fo8, g, zi, d8, by omega, fun t2 u H9 b9 d9 dvu => ?_⟩
            obtain ⟨lu, su⟩ := dvu.len
            have b09 := b08.trans b9
            have fo9 := fo.but b09 d0
            have hy9 := hy.but b09 d0
            have pn9 := PD3.no hy9 d9
            have ea9 := b9.lsS d8 ea8
            have da9 := b9.da da8
            have dv9 : DrV H9 t tx := dv8.same fun c xs e => b9.tup d8 e
            obtain ⟨tt2, et2, _⟩ := id dvu
            refine ⟨_, rfl, t2, _, _, _, rfl, rfl, SqT.of et2, rfl, ?_⟩
            refine ⟨_, rfl, _, rfl, _, rfl, r, t2, u, m, y, o, k, PD3 d l lw, rfl, fo9, g, dvu, (no2 pn9).1, (no2 pn9).2, fun a2 xs2 H10 s10 na2 ea2 da2 => ?_⟩
            rw [(due_rf u _).1] at da2
            rw [(due_rf u _).2] at ea2
            refine ⟨ln _, fun pq npq => ?_⟩
            have s11 := Same.new (o := .lst [.ref a, .ref a2]) npq
            have epq := upd_same (H := H10) (a := pq) (o := .lst [.ref a, .ref a2])
            show (fun Hx : Hp => _) (L2.upd H10 pq (.lst [.ref a, .ref a2]))
            generalize L2.upd H10 pq (.lst [.ref a, .ref a2]) = H11 at *
            refine ⟨_, rfl, ln _, fun ps nps => ?_⟩
            have s12 := Same.new (o := .lst [.int 1, .int (-1)]) nps
            have eps := upd_same (H := H11) (a := ps) (o := .lst [.int 1, .int (-1)])
            show (fun Hx : Hp => _) (L2.upd H11 ps (.lst [.int 1, .int (-1)]))
            generalize L2.upd H11 ps (.lst [.int 1, .int (-1)]) = H12 at *
            refine ⟨_, rfl, _, _, rfl, rfl, ps, _, _, V.int 1, rfl, rfl, SqL.of eps, rfl, _, rfl, pq, _, _, 1, rfl, rfl, .inl rfl, SqL.of (s12 _ _ epq), fun pd npd => ?_⟩
            rw [if_pos rfl]
            have s13 := Same.new (o := .lst [.ref a, .ref a2]) npd
            have epd := upd_same (H := H12) (a := pd) (o := .lst [.ref a, .ref a2])
            show (fun Hx : Hp => _) (L2.upd H12 pd (.lst [.ref a, .ref a2]))
            generalize L2.upd H12 pd (.lst [.ref a, .ref a2]) = H13 at *
            have s913 := s10.trans (s11.trans (s12.trans s13))
            have s1013 := s11.trans (s12.trans s13)
            have ea13 := s913 _ _ ea9
            have da13 := da9.same s913
            have eb13 := s1013 _ _ ea2
            have db13 := da2.same s1013
            refine ⟨_, rfl, pd, _, _, _, rfl, rfl, SqL.of epd, rfl, _, rfl, pd, _, _, _, rfl, rfl, SqL.of epd, rfl, ln _, fun pz npz => ?_⟩
            have s14 := Same.new (o := .lst [.ref a, .ref a2]) npz
            have epz := upd_same (H := H13) (a := pz) (o := .lst [.ref a, .ref a2])
            show (fun Hx : Hp => _) (L2.upd H13 pz (.lst [.ref a, .ref a2]))
            generalize L2.upd H13 pz (.lst [.ref a, .ref a2]) = H14 at *
            have ea14 := s14 _ _ ea13
            have da14 := da13.same s14
            have eb14 := s14 _ _ eb13
            have db14 := db13.same s14
            have b14 := b09.trans (But.same (s913.trans s14))
            have d14 := d9.same (s913.trans s14) (Nat.le_refl _)
            have dv14 : DrV H14 t tx := dv9.same fun c xs e => (s913.trans s14) _ _ e
            have th := thenR_eq tx u (wrt m y o k tx) (wrt m y o k u)
            by_cases hg : rfH (rfW tx (wrt m y o k tx)) = "good"
            · have eR : r6 m y o k 2 tx u = rfW u (wrt m y o k u) := th.1 ((rfH_good _).mp hg)
              refine ⟨_, rfl, pd, _, _, _, rfl, rfl, SqL.of (s14 _ _ epd), rfl, a, _, _, _, rfl, rfl, SqL.of ea14, atI_nat (j := 0) rfl, rfl, .inr ⟨_, rfl, pz, _, _, V.ref a2, rfl, rfl, SqL.of epz, ?_, ?_⟩⟩
              · rw [hg]; rfl
              · exact ⟨a2, u, _, _, _, rfl, b14, d14.mono (by omega), dv14, lu, su, by rw [eR]; exact eb14, by rw [eR]; exact db14⟩
            · have eR : r6 m y o k 2 tx u = rfW tx (wrt m y o k tx) := th.2 fun w => hg ((rfH_good _).mpr w)
              refine ⟨_, rfl, pd, _, _, _, rfl, rfl, SqL.of (s14 _ _ epd), rfl, a, _, _, _, rfl, rfl, SqL.of ea14, atI_nat (j := 0) rfl, rfl, .inr ⟨_, rfl, pz, _, _, V.ref a, rfl, rfl, SqL.of epz, ?_, ?_⟩⟩
              · rw [decide_eq_false (fun w => hg (V.str.inj w))]; rfl
              · exact ⟨a, u, _, _, _, rfl, b14, d14.mono (by omega), dv14, lu, su, by rw [eR]; exact ea14, by rw [eR]; exact da14⟩
          · refine ⟨_, rfl, _, rfl, _, rfl, r, lw, i, c + 5, m, y, o, k, rfl, fo8, g, zi, d8, by omega, fun t2 u H9 b9 d9 dvu => ?_⟩
            obtain ⟨lu, su⟩ := dvu.len
            have b09 := b08.trans b9
            have fo9 := fo.but b09 d0
            have hy9 := hy.but b09 d0
            have pn9 := PD3.no hy9 d9
            have ea9 := b9.lsS d8 ea8
            have da9 := b9.da da8
            have dv9 : DrV H9 t tx := dv8.same fun c xs e => b9.tup d8 e
            obtain ⟨tt2, et2, _⟩ := id dvu
            refine ⟨_, rfl, t2, _, _, _, rfl, rfl, SqT.of et2, rfl, ?_⟩
            refine ⟨_, rfl, _, rfl, _, rfl, r, t2, u, m, y, o, k, PD3 d l lw, rfl, fo9, g, dvu, (no2 pn9).1, (no2 pn9).2, fun a2 xs2 H10 s10 na2 ea2 da2 => ?_⟩
            rw [(due_rf u _).1] at da2
            rw [(due_rf u _).2] at ea2
            refine ⟨ln _, fun pq npq => ?_⟩
            have s11 := Same.new (o := .lst [.ref a, .ref a2]) npq
            have epq := upd_same (H := H10) (a := pq) (o := .lst [.ref a, .ref a2])
            show (fun Hx : Hp => _) (L2.upd H10 pq (.lst [.ref a, .ref a2]))
            generalize L2.upd H10 pq (.lst [.ref a, .ref a2]) = H11 at *
            refine ⟨_, rfl, ln _, fun ps nps => ?_⟩
            have s12 := Same.new (o := .lst [.int 1, .int (-1)]) nps
            have eps := upd_same (H := H11) (a := ps) (o := .lst [.int 1, .int (-1)])
            show (fun Hx : Hp => _) (L2.upd H11 ps (.lst [.int 1, .int (-1)]))
            generalize L2.upd H11 ps (.lst [.int 1, .int (-1)]) = H12 at *
            refine ⟨_, rfl, _, _, rfl, rfl, ps, _, _, V.int (-1), rfl, rfl, SqL.of eps, rfl, _, rfl, pq, _, _, (-1), rfl, rfl, .inr rfl, SqL.of (s12 _ _ epq), fun pd npd => ?_⟩
            rw [if_neg (by decide)]
            have s13 := Same.new (o := .lst [.ref a2, .ref a]) npd
            have epd := upd_same (H := H12) (a := pd) (o := .lst [.ref a2, .ref a])
            show (fun Hx : Hp => _) (L2.upd H12 pd (.lst [.ref a2, .ref a]))
            generalize L2.upd H12 pd (.lst [.ref a2, .ref a]) = H13 at *
            have s913 := s10.trans (s11.trans (s12.trans s13))
            have s1013 := s11.trans (s12.trans s13)
            have ea13 := s913 _ _ ea9
            have da13 := da9.same s913
            have eb13 := s1013 _ _ ea2
            have db13 := da2.same s1013
            refine ⟨_, rfl, pd, _, _, _, rfl, rfl, SqL.of epd, rfl, _, rfl, pd, _, _, _, rfl, rfl, SqL.of epd, rfl, ln _, fun pz npz => ?_⟩
            have s14 := Same.new (o := .lst [.ref a2, .ref a]) npz
            have epz := upd_same (H := H13) (a := pz) (o := .lst [.ref a2, .ref a])
            show (fun Hx : Hp => _) (L2.upd H13 pz (.lst [.ref a2, .ref a]))
            generalize L2.upd H13 pz (.lst [.ref a2, .ref a]) = H14 at *
            have ea14 := s14 _ _ ea13
            have da14 := da13.same s14
            have eb14 := s14 _ _ eb13
            have db14 := db13.same s14
            have b14 := b09.trans (But.same (s913.trans s14))
            have d14 := d9.same (s913.trans s14) (Nat.le_refl _)
            have dv14 : DrV H14 t tx := dv9.same fun c xs e => (s913.trans s14) _ _ e
            have th := thenR_eq u tx (wrt m y o k u) (wrt m y o k tx)
            by_cases hg : rfH (rfW u (wrt m y o k u)) = "good"
            · have eR : r6 m y o k 3 tx u = rfW tx (wrt m y o k tx) := th.1 ((rfH_good _).mp hg)
              refine ⟨_, rfl, pd, _, _, _, rfl, rfl, SqL.of (s14 _ _ epd), rfl, a2, _, _, _, rfl, rfl, SqL.of eb14, atI_nat (j := 0) rfl, rfl, .inr ⟨_, rfl, pz, _, _, V.ref a, rfl, rfl, SqL.of epz, ?_, ?_⟩⟩
              · rw [hg]; rfl
              · exact ⟨a, u, _, _, _, rfl, b14, d14.mono (by omega), dv14, lu, su, by rw [eR]; exact ea14, by rw [eR]; exact da14⟩
            · have eR : r6 m y o k 3 tx u = rfW u (wrt m y o k u) := th.2 fun w => hg ((rfH_good _).mpr w)
              refine ⟨_, rfl, pd, _, _, _, rfl, rfl, SqL.of (s14 _ _ epd), rfl, a2, _, _, _, rfl, rfl, SqL.of eb14, atI_nat (j := 0) rfl, rfl, .inr ⟨_, rfl, pz, _, _, V.ref a2, rfl, rfl, SqL.of epz, ?_, ?_⟩⟩
              · rw [decide_eq_false (fun w => hg (V.str.inj w))]; rfl
              · exact ⟨a2, u, _, _, _, rfl, b14, d14.mono (by omega), dv14, lu, su, by rw [eR]; exact eb14, by rw [eR]; exact db14⟩
        · refine ⟨a, dtT m y o k i, none, none, xs, rfl, b08, d8.mono (by omega), dv8, Nat.le_trans li (by decide), si, ?_, ?_⟩
          · rw [e6]; exact ea8
          · rw [e6]; exact da8
      · rw [decide_eq_false hw]
        refine iteF ?_
        refine ⟨a, dtT m y o k i, none, none, xs, rfl, b7, d7.mono (by omega), dv7, Nat.le_trans li (by decide), si, ?_, ?_⟩
        · rw [e6]; exact ea7
        · rw [e6]; exact da7
    rintro σ' H' ⟨a, u, v9, v10, xs, rfl, bx, dx, dvx, lu, su, ea, da⟩
    have hyx := hy.but bx d0
    obtain ⟨dy, eb⟩ := hyx.ob
    refine ⟨fun σ' H' => ∃ (a : Addr) (at2 : Int) (v9 v10 : Option V) (xs : List V) (R : Rf), σ' = [some (.ref b), some (.ref r), some (.int i), some (.ref lw), some (.ref t), some (.int way), some (.ref a), some (.int at2), some (.str u), v9, v10] ∧ But lw H H' ∧ Dr H' lw (c + 8) ∧ DrV H' t tx ∧ (at2 < 0 ∨ 50 ≤ at2 ∨ ∀ i, wrt m y o k tx = .day i → ((f i).length : Int) ≤ at2) ∧ H' a = some (.lst (.str (rfH R) :: xs)) ∧ DA H' (PD3 d l lw) (.ref a) (rfD R) ∧ R = askR m y o k way tx u at2, ?_, ?_⟩
    · refine ⟨_, rfl, a, _, _, _, rfl, rfl, SqL.of ea, atI_nat (j := 0) rfl, rfl, _, rfl, ?_⟩
      have no : ∀ {x : Str}, ¬ (x = ("deeds" : Str)) → ¬ (x = ("kept" : Str)) → ¬ (x = ("calendar" : Str)) → (dvs p d l).lookup x = none := dv_no p d l
      by_cases hg : rfH (r6 m y o k way tx u) = "good"
      · rw [decide_eq_true (congrArg V.str hg)]
        refine iteT ⟨_, rfl, rfl, _, rfl, ?_⟩
        rw [show decide (V.int way = V.int 1) = decide (way = 1) from dec_int way 1]
        by_cases w1 : way = 1
        · subst w1
          rw [decide_eq_true rfl]
          refine iteT ?_
          obtain ⟨i1, h1⟩ := wrt_day_b (show rfW tx (wrt m y o k tx) = .good from (rfH_good _).mp hg)
          have eA : ∀ a2, askR m y o k 1 tx u a2 = .note a2 := fun a2 => by
            have e2 : askR m y o k 1 tx u a2 = (match wrt m y o k tx with
              | .day _ => .note a2
              | r => rfW tx r) := rfl
            rw [e2, h1]
          have fin : ∀ {H8 : Hp} {q1 : Addr} {a2 : Int}, But lw H H8 → Dr H8 lw (c + 8) → DrV H8 t tx → H8 q1 = none → (a2 < 0 ∨ 50 ≤ a2 ∨ ∀ i, wrt m y o k tx = .day i → ((f i).length : Int) ≤ a2) →
              But lw H (L2.upd H8 q1 (.lst [.str "note", .int a2, .non])) ∧ Dr (L2.upd H8 q1 (.lst [.str "note", .int a2, .non])) lw (c + 8) ∧ DrV (L2.upd H8 q1 (.lst [.str "note", .int a2, .non])) t tx ∧ (a2 < 0 ∨ 50 ≤ a2 ∨ ∀ i, wrt m y o k tx = .day i → ((f i).length : Int) ≤ a2) ∧ (L2.upd H8 q1 (.lst [.str "note", .int a2, .non])) q1 = some (.lst (.str (rfH (.note a2)) :: [.int a2, .non])) ∧ DA (L2.upd H8 q1 (.lst [.str "note", .int a2, .non])) (PD3 d l lw) (.ref q1) (rfD (.note a2)) ∧ Rf.note a2 = askR m y o k 1 tx u a2 := fun {H8 q1 a2} b8 d8 dv8 nq hl => by
            have s9 := Same.new (o := .lst [.str "note", .int a2, .non]) nq
            have n3 : ¬ PD3 d l lw q1 := fun w => (no2 (PD3.no (hy.but b8 d0) d8)).1 _ w nq
            exact ⟨b8.trans (But.same s9), d8.same s9 (Nat.le_refl _), dv8.same (fun c xs e => s9 _ _ e), hl, upd_same, .lst upd_same n3 (.cons (.str _) (.cons (.int _) (.cons .non .nil))), (eA a2).symm⟩
          refine ⟨_, rfl, lw, c + 7, rfl, dx, by omega, fun pk3 H8 p0 p1 b8 d8 => ?_⟩
          have b08 := bx.trans b8
          have dv8 : DrV H8 t tx := dvx.same fun c xs e => b8.tup dx e
          refine ⟨_, _, rfl, rfl, md, rfl, _, rfl, ?_⟩
          refine ite2 (fun _ => ?_) (fun _ => ?_)
          · obtain ⟨tt, et, _⟩ := id dv8
            have hy8 := hy.but b08 d0
            obtain ⟨dy8, eb8⟩ := hy8.ob
            refine ⟨_, rfl, b, dy8, _, rfl, eb8, no (by decide +kernel) (by decide +kernel) (by decide +kernel), _, rfl, t, _, _, _, rfl, rfl, SqT.of et, rfl, b, p, d, l, tx, m, y, o, k, f, U, n, rfl, dv8.len.1, hy8, fun i2 hi2 rr H9 nr s9 er => ?_, by rw [h1]; exact trivial⟩
            refine ⟨rr, _, rfl, .inl (SqL.of er), ?_⟩
            refine ⟨_, rfl, ln _, fun q1 nq1 => ?_⟩
            have k := fin (b08.trans (But.same s9)) (d8.same s9 (Nat.le_refl _)) (dv8.same fun c xs e => s9 _ _ e) nq1 (a2 := (((f i2).map V.str).length : Int)) (.inr (.inr fun i3 hi3 => by
              rw [hi2] at hi3
              cases hi3
              rw [List.length_map]
              exact Int.le_refl _))
            exact ⟨q1, _, v9, v10, _, _, rfl, k⟩
          · refine ⟨_, rfl, ln _, fun q1 nq1 => ?_⟩
            have k := fin b08 d8 dv8 nq1 (a2 := at') (hat.imp id .inl)
            exact ⟨q1, _, v9, v10, _, _, rfl, k⟩
        · rw [decide_eq_false w1]
          refine iteF ?_
          exact ⟨a, at', v9, v10, xs, r6 m y o k way tx u, rfl, bx, dx.mono (by omega), dvx, hat.imp id .inl, ea, da, (r6_ask at' w0 w5 (.inl w1)).symm⟩
      · rw [decide_eq_false (fun w => hg (V.str.inj w))]
        refine iteF (iteF ?_)
        exact ⟨a, at', v9, v10, xs, r6 m y o k way tx u, rfl, bx, dx.mono (by omega), dvx, hat.imp id .inl, ea, da, (r6_ask at' w0 w5 (.inr fun w => hg ((rfH_good _).mpr w))).symm⟩
    rintro σ' H' ⟨a, at2, v9, v10, xs, R, rfl, bz, dz, dvz, lat, ez, daz, eR⟩
    refine ⟨_, rfl, a, _, _, _, rfl, rfl, SqL.of ez, atI_nat (j := 0) rfl, rfl, _, rfl, ?_⟩
    have fal : (R = .good → way = 4) → tRet (tOp (rEqD K) (tCall (spAsked82 C Cc Cv) [] E0 (tCons (tVar 0) (tCons (tVar 5) (tCons (tOp (rIxT K) (tVar 4) (tC (.int 0))) (tCons (tVar 8) (tCons (tVar 7) tNil)))))) (tVar 6)) { nx := fun _ H' => Q .non H', rt := Q } [some (.ref b), some (.ref r), some (.int i), some (.ref lw), some (.ref t), some (.int way), some (.ref a), some (.int at2), some (.str u), v9, v10] H' := by
      intro hR
      have ok : rfOk R := by rw [eR]; exact askR_ok dvz.len.2 su
      obtain ⟨sh, ev⟩ := rfD_sh ok
      obtain ⟨tt, et, _⟩ := id dvz
      refine ⟨_, rfl, _, rfl, _, rfl, t, _, _, _, rfl, rfl, SqT.of et, rfl, _, rfl, _, rfl, b, p, d, l, way, tx, u, at2, m, y, o, k, f, U, n, rfl, hy.but bz d0, hn, ⟨dvz.len.1, lu, fun hw hR2 => ?_, fun hw i2 hi2 => ⟨?_, Nat.le_trans (lf i2) (by decide)⟩, fun hw => ?_⟩, fun rr H9 s9 da9 => ?_⟩
      · rw [← eR] at hR2
        have := hR hR2
        omega
      · have := lf i2
        rcases lat with h | h | h
        · exact .inl h
        · exact .inr (by omega)
        · exact .inr (h i2 hi2)
      · exact absurd (show way = 0 ∨ way = 1 ∨ way = 2 ∨ way = 3 ∨ way = 4 by omega) hw
      · rw [← eR] at da9
        refine ⟨_, rfl, rfD R, rfD R, da9.dp, (daz.same s9).dp, sh, sh, ?_⟩
        rw [ev]
        exact q _ (bz.trans (But.same s9)) (dz.same s9 (Nat.le_refl _))
    by_cases hg : R = .good
    · rw [decide_eq_true (congrArg V.str ((rfH_good R).mpr hg))]
      refine iteT ⟨_, rfl, rfl, _, rfl, ?_⟩
      by_cases w4 : way = 4
      · subst w4
        exact iteF (fal fun _ => rfl)
      · rw [show decide (V.int way = V.int 4) = decide (way = 4) from dec_int way 4, decide_eq_false w4]
        exact iteT (q _ bz dz)
    · rw [decide_eq_false (fun w => hg ((rfH_good R).mp (V.str.inj w)))]
      exact iteF (iteF (fal fun w => absurd w hg))
end
/-! ### the law's diary and its looks -/
theorem made_dv {C Cc Cv : Addr} {H : Hp} {R : Addr → Hp → Prop} {E : XK} {p : Addr} {m y o k : Rat} (hc : Cl C Cc H p m y o k) (g : Good m y o k) (h : ∀ b d l H', Same H H' → H d = none → H l = none → Dy C Cc Cv H' b p d l m y o k (fun _ => []) [] 0 → R b H') :
    ∀ b dx, H b = none → H dx = none → dx ≠ b → spDvI Cv [.ref b, .ref p] (L2.upd (L2.upd H dx (.own b)) b (.ins Cv dx [])) (fun v H2 => v = .non ∧ R b H2) E := by
  intro b dx hb hd ne
  have s0 : Same H (L2.upd (L2.upd H dx (.own b)) b (.ins Cv dx [])) := Same.upd (Same.new hd) (by rw [upd_ne ne.symm]; exact hb)
  refine ⟨b, dx, p, rfl, upd_same, fun d l H' b' nd nl ndl e1 e2 e3 => ⟨rfl, ?_⟩⟩
  have s : Same H H' := fun c o e => b' c o (ne_of_none e hb) (s0 c o e)
  exact h b d l H' s (s0.free nd) (s0.free nl) ⟨⟨dx, e1⟩, hc.same s, g, ⟨[], e2, ⟨fun kv hk => (by cases hk), by simp, fun x _ => rfl⟩, Nat.le_refl _⟩, [], e3, .nil, Nat.le_refl _⟩
theorem Fo.ext {H H1 : Hp} {r : Addr} {m y o k : Rat} (h : Fo H r m y o k) (b : ∀ c xs, H c = some (.tup xs) → H1 c = some (.tup xs)) : Fo H1 r m y o k := by
  obtain ⟨a, b', c, d, e, h1, h2, h3, h4⟩ := h
  exact ⟨a, b', c, d, b _ _ e, b _ _ h1, b _ _ h2, b _ _ h3, b _ _ h4⟩
mutual
theorem DA.av {H : Hp} {P P' : Addr → Prop} (k : ∀ c o, H c = some o → ¬ P c → ¬ P' c) : ∀ {d : PyData} {v : V}, DA H P v d → DA H P' v d
  | .none, _, h => by cases h; exact .non
  | .bool _, _, h => by cases h; exact .bl _
  | .int _, _, h => by cases h; exact .int _
  | .str _, _, h => by cases h; exact .str _
  | .list ds, _, h => by
    cases h with
    | lst e n a => exact .lst e (k _ _ e n) (DAs.av k a)
  | .tuple ds, _, h => by
    cases h with
    | tup e n a => exact .tup e (k _ _ e n) (DAs.av k a)
  | .dict _, _, h => by cases h
theorem DAs.av {H : Hp} {P P' : Addr → Prop} (k : ∀ c o, H c = some o → ¬ P c → ¬ P' c) : ∀ {ds : List PyData} {vs : List V}, DAs H P vs ds → DAs H P' vs ds
  | [], _, h => by cases h; exact .nil
  | d :: ds, _, h => by
    cases h with
    | cons a b => exact .cons (DA.av k a) (DAs.av k b)
end
theorem DAs.unsnoc {H : Hp} {P : Addr → Prop} : ∀ {ds : List PyData} {d : PyData} {vs : List V}, DAs H P vs (ds ++ [d]) → ∃ us v, vs = us ++ [v] ∧ DAs H P us ds ∧ DA H P v d
  | [], d, _, h => by
    cases h with
    | cons a b => cases b; exact ⟨[], _, rfl, .nil, a⟩
  | e :: ds, d, _, h => by
    cases h with
    | cons a b =>
      obtain ⟨us, v, rfl, h1, h2⟩ := DAs.unsnoc b
      exact ⟨_ :: us, v, rfl, .cons a h1, h2⟩
abbrev PL (d l lw L : Addr) : Addr → Prop := fun c => PD3 d l lw c ∨ c = L
noncomputable def lksO (m y o k : Rat) (i : Int) (j : Nat) : List PyData := (List.range (j + 1)).map fun e => lkO m y o k i (hF i e)
theorem lksO_succ (m y o k : Rat) (i : Int) (j : Nat) : lksO m y o k i (j + 1) = lksO m y o k i j ++ [lkO m y o k i (hF i (j + 1))] := by
  unfold lksO
  rw [List.range_succ, List.map_append]
  rfl
theorem lksO_last (m y o k : Rat) (i : Int) (j : Nat) : ∃ ds, lksO m y o k i j = ds ++ [lkO m y o k i (hF i j)] := by
  refine ⟨(List.range j).map fun e => lkO m y o k i (hF i e), ?_⟩
  unfold lksO
  rw [List.range_succ, List.map_append]
  rfl
theorem lksO_first (m y o k : Rat) (i : Int) (j : Nat) : ∃ ds, lksO m y o k i j = lkO m y o k i (hF i 0) :: ds := by
  refine ⟨(List.range j).map fun e => lkO m y o k i (hF i (e + 1)), ?_⟩
  unfold lksO
  rw [List.range_succ_eq_map, List.map_cons, List.map_map]
  rfl
/-- a diary and its looks, of which the last is that of the j-th note -/
structure RtI (C Cc Cv : Addr) (H0 H : Hp) (b p d l r lw L : Addr) (i : Int) (m y o k : Rat) (jd jl n c : Nat) : Prop where
  hy : Dy C Cc Cv H b p d l m y o k (hF i jd) (hU i jd) n
  fo : Fo H r m y o k
  dr : Dr H lw c
  nl : L ≠ l
  bt : But lw H0 H
  fd : H0 d = none
  fl : H0 l = none
  fL : H0 L = none
  lk : ∃ vs, H L = some (.lst vs) ∧ DAs H (PL d l lw L) vs (lksO m y o k i jl)
section
variable {C Cc Cv : Addr} {H0 H H' : Hp} {b p d l r lw L : Addr} {i : Int} {m y o k : Rat} {jd jl n c : Nat}
theorem RtI.hd (h : RtI C Cc Cv H0 H b p d l r lw L i m y o k jd jl n c) : ∃ a ws vs', H L = some (.lst (.ref a :: vs')) ∧ H a = some (.lst ws) := by
  obtain ⟨vs, e, a⟩ := h.lk
  obtain ⟨ds, e2⟩ := lksO_first m y o k i jl
  rw [e2] at a
  cases a with
  | cons a1 a2 =>
    unfold lkO lkD at a1
    cases a1 with
    | lst e3 n a4 => exact ⟨_, _, _, e, e3⟩
theorem RtI.ne (h : RtI C Cc Cv H0 H b p d l r lw L i m y o k jd jl n c) : L ≠ lw ∧ L ≠ d := by
  obtain ⟨a, ws, vs', e, _⟩ := h.hd
  obtain ⟨_, _, _, el, _⟩ := h.dr
  obtain ⟨kvs, ed, _⟩ := h.hy.kp
  refine ⟨fun w => ?_, fun w => ?_⟩
  · rw [w, el] at e
    injection e with e
    injection e with e
    injection e with e
    cases e
  · rw [w, ed] at e
    cases e
theorem RtI.no (h : RtI C Cc Cv H0 H b p d l r lw L i m y o k jd jl n c) : ∀ c, PL d l lw L c → ∃ o, H c = some o ∧ ∀ xs, o ≠ .tup xs := by
  obtain ⟨vs, e, _⟩ := h.lk
  rintro c (hc | rfl)
  · exact PD3.no h.hy h.dr c hc
  · exact ⟨_, e, fun _ w => nomatch w⟩
theorem RtI.same (h : RtI C Cc Cv H0 H b p d l r lw L i m y o k jd jl n c) (s : Same H H') : RtI C Cc Cv H0 H' b p d l r lw L i m y o k jd jl n c := by
  obtain ⟨vs, e, a⟩ := h.lk
  exact ⟨h.hy.same s, h.fo.same s, h.dr.same s (Nat.le_refl _), h.nl, h.bt.trans (But.same s), h.fd, h.fl, h.fL, vs, s _ _ e, a.keep fun c o _ e => s c o e⟩
theorem RtI.but (h : RtI C Cc Cv H0 H b p d l r lw L i m y o k jd jl n c) {c' : Nat} (s : But lw H H') (d' : Dr H' lw c') : RtI C Cc Cv H0 H' b p d l r lw L i m y o k jd jl n c' := by
  obtain ⟨vs, e, a⟩ := h.lk
  exact ⟨h.hy.but s h.dr, h.fo.but s h.dr, d', h.nl, h.bt.trans s, h.fd, h.fl, h.fL, vs, s _ _ h.ne.1 e, a.keep fun c o n e => s c o (fun w => n (.inl (.inr w))) e⟩
theorem RtI.wr (h : RtI C Cc Cv H0 H b p d l r lw L i m y o k jd jl n c) {jd' n' : Nat} (s : B2 d l H H') (hy' : Dy C Cc Cv H' b p d l m y o k (hF i jd') (hU i jd') n') : RtI C Cc Cv H0 H' b p d l r lw L i m y o k jd' jl n' c := by
  obtain ⟨vs, e, a⟩ := h.lk
  obtain ⟨n1, n2⟩ := h.hy.drne h.dr
  obtain ⟨kvs, ed, _⟩ := h.hy.kp
  obtain ⟨us, el⟩ := h.hy.lst
  refine ⟨hy', h.fo.ext fun c xs e => s _ _ (fun w => by rw [w, ed] at e; cases e) (fun w => by rw [w, el] at e; cases e) e, ?_, h.nl, fun c o hc e => s _ _ (fun w => by rw [w, h.fd] at e; cases e) (fun w => by rw [w, h.fl] at e; cases e) (h.bt c o hc e), h.fd, h.fl, h.fL, vs, s _ _ h.ne.2 h.nl e, a.keep fun c o n e => s c o (fun w => n (.inl (.inl (.inl w)))) (fun w => n (.inl (.inl (.inr w)))) e⟩
  obtain ⟨x1, x2, x3, e2, x4⟩ := h.dr
  exact ⟨x1, x2, x3, s _ _ n2 n1 e2, x4⟩
theorem RtI.putL (h : RtI C Cc Cv H0 H b p d l r lw L i m y o k jd jl n c) {jl' : Nat} {vs : List V} (a : DAs (L2.upd H L (.lst vs)) (PL d l lw L) vs (lksO m y o k i jl')) : RtI C Cc Cv H0 (L2.upd H L (.lst vs)) b p d l r lw L i m y o k jd jl' n c := by
  obtain ⟨a0, ws, vs', e, e0⟩ := h.hd
  have s : But L H (L2.upd H L (.lst vs)) := fun c o hc e => (upd_ne hc).trans e
  refine ⟨h.hy.via s h.nl e (fun ts w => ?_) (fun dd a => ?_), h.fo.ext fun c xs e2 => s _ _ (fun w => by rw [w, e] at e2; cases e2) e2, ?_, h.nl, fun c o hc e => (upd_ne (fun w => by rw [w, h.fL] at e; cases e)).trans (h.bt c o hc e), h.fd, h.fl, h.fL, vs, upd_same, a⟩
  · cases ts with
    | nil => cases w
    | cons t ts => injection w with w; cases w
  · cases a with
    | cons r _ =>
      obtain ⟨t, a, e1, et, _⟩ := r
      cases e1
      rw [e0] at et
      cases et
  · obtain ⟨x1, x2, x3, e2, x4⟩ := h.dr
    exact ⟨x1, x2, x3, s _ _ h.ne.1.symm e2, x4⟩
theorem RtI.push (h : RtI C Cc Cv H0 H b p d l r lw L i m y o k jd jl n c) {vs : List V} (e : H L = some (.lst vs)) {v : V} (a : DA H (PL d l lw L) v (lkO m y o k i (hF i (jl + 1)))) : RtI C Cc Cv H0 (L2.upd H L (.lst (vs ++ [v]))) b p d l r lw L i m y o k jd (jl + 1) n c := by
  obtain ⟨us, e2, a2⟩ := h.lk
  rw [e] at e2
  cases e2
  refine h.putL ?_
  rw [lksO_succ]
  exact (a2.snoc a).keep fun c o n e => (upd_ne fun w => n (.inr w)).trans e
theorem RtI.pop (h : RtI C Cc Cv H0 H b p d l r lw L i m y o k jd (jl + 1) n c) {vs : List V} (e : H L = some (.lst vs)) : RtI C Cc Cv H0 (L2.upd H L (.lst vs.dropLast)) b p d l r lw L i m y o k jd jl n c := by
  obtain ⟨us, e2, a2⟩ := h.lk
  rw [e] at e2
  cases e2
  refine h.putL ?_
  rw [lksO_succ] at a2
  obtain ⟨us, v, rfl, a3, _⟩ := a2.unsnoc
  rw [List.dropLast_concat]
  exact a3.keep fun c o n e => (upd_ne fun w => n (.inr w)).trans e
theorem RtI.last (h : RtI C Cc Cv H0 H b p d l r lw L i m y o k jd jl n c) : ∃ us v, H L = some (.lst (us ++ [v])) ∧ us.length = jl ∧ DA H (PL d l lw L) v (lkO m y o k i (hF i jl)) := by
  obtain ⟨us, e2, a2⟩ := h.lk
  have ln := a2.len
  obtain ⟨ds, e3⟩ := lksO_last m y o k i jl
  have l3 : (lksO m y o k i jl).length = jl + 1 := by
    unfold lksO
    rw [List.length_map, List.length_range]
  rw [l3] at ln
  rw [e3] at a2
  obtain ⟨us, v, rfl, _, a4⟩ := a2.unsnoc
  rw [List.length_append] at ln
  exact ⟨us, v, e2, Nat.succ.inj ln, a4⟩
theorem RtI.first (h : RtI C Cc Cv H0 H b p d l r lw L i m y o k jd jl n c) : ∃ us v, H L = some (.lst (v :: us)) ∧ DA H (PL d l lw L) v (lkO m y o k i (hF i 0)) := by
  obtain ⟨us, e2, a2⟩ := h.lk
  obtain ⟨ds, e3⟩ := lksO_first m y o k i jl
  rw [e3] at a2
  cases a2 with
  | cons a1 a2 => exact ⟨_, _, e2, a1⟩
/-- what a look wants -/
theorem RtI.nz (h : RtI C Cc Cv H0 H b p d l r lw L i m y o k jd jl n c) : NzL (hF i jd) (ksO (hF i jd)) := by
  obtain ⟨ks, hk, _⟩ := h.hy.nz
  exact Classical.epsilon_spec (p := fun ks => NzL (hF i jd) ks) ⟨ks, hk⟩
end
def spR82 : Sp := fun vs H Q _ => ∃ (l : Addr), vs = [.ref l] ∧ Dr H l 0 ∧ ∀ H', But l H H' → Q (.bl true) H'
theorem free_but {lw c : Addr} {H H' : Hp} {n : Nat} (b : But lw H H') (d : Dr H' lw n) (e : H' c = none) : H c = none := by
  cases hc : H c with
  | none => rfl
  | some o =>
    obtain ⟨_, _, _, el, _⟩ := d
    have n : c ≠ lw := fun w => by rw [w, el] at e; cases e
    rw [b c o n hc] at e
    cases e
section
variable {P : Program} {w : World} {K : PySem.W.Frag} {mg : Str → Option Value} {base : Heap} {C Cc Cd Cv CN CD CZ : Addr}
theorem ok_lright (D : Df K mg "_law_right" s_l_right []) (f_l_four : Ca P w K mg base CX0 4 "_law_four" s_l_four [] ["_law_draws_here"] spFour) (f_l_next : Ca P w K mg base CX0 1 "_law_next" s_l_next [] ["_law_draws_here"] spNext) (g_range : mg "range" = none) (g_len : mg "len" = none) (f_Diary : Ci P w K mg base CX0 1 "Diary" Cv "Diary.__init__" s_Diary_init [] ["self", "calendar"] (spDvI Cv)) (f_l_cal : Ca P w K mg base CX0 10 "_law_cal" s_l_cal [] ["_law_draws_here", "_law_four_here"] (spCal C Cc)) (f_l_looks : Ca P w K mg base CX0 15 "_law_looks" s_l_looks [] ["_law_diary", "_law_four_here", "_law_first"] (spLk C Cc Cv))
    (f_l_date_text : Ca P w K mg base CX0 7 "_law_date_text" s_l_date_text [] ["_law_four_here", "_law_day"] spDtT) (f_note : Cm P w K mg base (L2.CX P w) 14 Cv "note" "Diary.note" s_Diary_note ["self", "date", "text"] (spNo C Cc Cv Cd CN CD)) (f_undo : Cm P w K mg base (L2.CX P w) 3 Cv "undo" "Diary.undo" s_Diary_undo ["self"] (spUn C Cc Cv CZ))
    (f_l_fault : Ca P w K mg base CX0 17 "_law_fault" s_l_fault [] ["_law_diary", "_law_four_here", "_law_first", "_law_draws_here"] (spFt C Cc Cv)) (f_l_asked : Ca P w K mg base CX0 16 "_law_asked" s_l_asked [] ["_law_diary", "_law_way", "_law_text_here", "_law_other", "_law_at"] (spAsked82 C Cc Cv)) : Ca P w K mg base CX0 18 "_law_right" s_l_right [] ["_law_draws_here"] spR82 := by
  refine ca0 (k := 17) D c_l_right (fun vs H Q E h => ?_) fun f cdv A outer s H vs Q E hr h => ?_
  · obtain ⟨lw, rfl, _⟩ := h
    rfl
  · obtain ⟨lw, rfl, d0, q⟩ := h
    refine ⟨_, (pss_cons (ps_set (i := 1) c_l_right.nd rfl (.inl rfl) (pe_ca f_l_four b_l_four hr (by decide) pass0 rfl (pa_cons (pv 0) pa_nil)))
      (pss_cons (ps_set (i := 2) c_l_right.nd rfl (.inl rfl) (pe_ciN f_Diary b_Diary_init hr (by decide) pass0 rfl (pa_cons (pe_ca f_l_cal b_l_cal hr (by decide) pass0 rfl (pa_cons (pv 0) (pa_cons (pv 1) pa_nil))) pa_nil)))
      (pss_cons (ps_set (i := 3) c_l_right.nd rfl (.inl rfl) (pe_ca f_l_next b_l_next hr (by decide) pass0 rfl (pa_cons (pv 0) pa_nil)))
      (pss_cons (ps_set (i := 4) c_l_right.nd rfl (.inl rfl) (pe_ix ix_list (pe_lst (pa_cons (pe_op op_mod (pe_op op_fdiv (pv 3) pe_int) pe_int) (pa_cons (pe_op op_sub pe_int (pe_op op_mod (pe_op op_fdiv (pv 3) pe_int) pe_int)) (pa_cons (pe_op op_sub (pe_op op_pow pe_int pe_int) (pv 3)) pa_nil)))) (pe_op op_mod (pv 3) pe_int) (fun _ _ => rfl)))
      (pss_cons (ps_set (i := 5) c_l_right.nd rfl (.inl rfl) (pe_lst (pa_cons (pe_ca f_l_looks b_l_looks hr (by decide) pass0 rfl (pa_cons (pv 2) (pa_cons (pv 1) (pa_cons (pv 4) pa_nil)))) pa_nil)))
      (pss_cons (ps_for PassesOwn.never rfl (pi_range1 rfl g_range (pa_cons (pe_op op_mod (pe_ca f_l_next b_l_next hr (by decide) pass0 rfl (pa_cons (pv 0) pa_nil)) pe_int) pa_nil)) (pg_name (i := 6) c_l_right.nd rfl (.inl rfl)) (pss_cons (ps_expr (pe_cm f_note b_Diary_note hr (by decide) pass0X (pv 2) (pa_cons (pe_ca f_l_date_text b_l_date_text hr (by decide) pass0 rfl (pa_cons (pv 1) (pa_cons (pe_op op_add (pv 4) (pe_op op_mod (pv 6) pe_int)) pa_nil))) (pa_cons (pe_ix ix_str pe_str (pv 6) (fun _ _ => rfl)) pa_nil))))
      (pss_one (ps_expr (pe_bm PySem.F.plainAttrs_list PySem.F.slot_list_append PySem.F.type_list_append mt_append (pv 5) (pa_cons (pe_ca f_l_looks b_l_looks hr (by decide) pass0 rfl (pa_cons (pv 2) (pa_cons (pv 1) (pa_cons (pv 4) pa_nil)))) pa_nil))))))
      (pss_cons (ps_for PassesOwn.never rfl (pi_range1 rfl g_range (pa_cons pe_int pa_nil)) (pg_name (i := 6) c_l_right.nd rfl (.inl rfl)) (pss_one (ps_if (PW.pt (pw_or (pt_not (pt_val (pe_ca f_l_fault b_l_fault hr (by decide) pass0 rfl (pa_cons (pv 2) (pa_cons (pv 1) (pa_cons (pv 4) (pa_cons (pv 0) pa_nil))))))) (pw_or1 (pt_cmpR (op_neD hr.units) (pe_ca f_l_looks b_l_looks hr (by decide) pass0 rfl (pa_cons (pv 2) (pa_cons (pv 1) (pa_cons (pv 4) pa_nil)))) (pe_ix ix_list (pv 5) (pe_un un_neg pe_int) (fun _ _ => rfl)) (nomark _))))) (pss_one (ps_ret pe_bl)) pss_nil)))
      (pss_cons (ps_while PassesOwn.never (pt_cmpR op_gt (pe_callB call_len_seq rfl g_len (by decide +kernel) (pa_cons (pv 5) pa_nil)) pe_int (nomark _)) (pss_cons (ps_expr (pe_bm0 PySem.F.plainAttrs_list PySem.F.slot_list_pop PySem.F.type_list_pop mt_pop (pv 5)))
      (pss_one (ps_if (PW.pt (pw_or (pt_cmp (pc_notN (pe_cm0 f_undo b_Diary_undo hr (by decide) pass0X (pv 2)))) (pw_or1 (pt_cmpR (op_neD hr.units) (pe_ca f_l_looks b_l_looks hr (by decide) pass0 rfl (pa_cons (pv 2) (pa_cons (pv 1) (pa_cons (pv 4) pa_nil)))) (pe_ix ix_list (pv 5) (pe_un un_neg pe_int) (fun _ _ => rfl)) (nomark _))))) (pss_one (ps_ret pe_bl)) pss_nil))))
      (pss_one (ps_ret (pe_and (pe_cmpR (op_eqD hr.units) (pe_ca f_l_asked b_l_asked hr (by decide) pass0 rfl (pa_cons (pv 2) (pa_cons pe_int (pa_cons pe_str (pa_cons pe_str (pa_cons pe_int pa_nil)))))) (pe_lst (pa_cons pe_str (pa_cons pe_non (pa_cons pe_non pa_nil)))) (nomark _)) (pe_one (pe_cmpR (op_eqD hr.units) (pe_ca f_l_looks b_l_looks hr (by decide) pass0 rfl (pa_cons (pv 2) (pa_cons (pv 1) (pa_cons (pv 4) pa_nil)))) (pe_ix ix_list (pv 5) pe_int (fun _ _ => rfl)) (nomark _)))))))))))))), ?_⟩
    refine ⟨_, rfl, lw, 0, rfl, d0, by decide, fun r H1 m y o k g b1 d1 fo1 => ?_⟩
    refine ⟨_, rfl, _, rfl, lw, r, _, m, y, o, k, rfl, d1, by decide, fo1, g, fun p H2 b2 d2 pr2 => ?_⟩
    refine made_dv pr2.cl g fun b d l H3 s3 nd nl hy3 => ?_
    have d3 := d2.same s3 (Nat.le_refl _)
    have b13 := (b1.trans b2).trans (But.same s3)
    refine ⟨_, rfl, lw, _, rfl, d3, by decide, fun pk H4 p0 p1 b4 d4 => ?_⟩
    refine ⟨_, rfl, _, _, rfl, rfl, ⟨by decide, by decide⟩, _, _, rfl, rfl, md, _, rfl, _, _, rfl, rfl, ⟨by decide, by decide⟩, _, _, rfl, rfl, md, _, _, rfl, rfl, _, _, rfl, rfl, ⟨by decide, by decide⟩, _, rfl, _, _, rfl, rfl, ln _, fun pl npl => ?_⟩
    have z0 := Int.emod_nonneg pk (show (3 : Int) ≠ 0 by decide)
    have z1 := Int.emod_lt_of_pos pk (show (0 : Int) < 3 by decide)
    have y0 := Int.emod_nonneg (pk / 3) (show (3000 : Int) ≠ 0 by decide)
    have y1 := Int.emod_lt_of_pos (pk / 3) (show (0 : Int) < 3000 by decide)
    obtain ⟨one, ho, i, rfl, zi⟩ := pick (P := fun v => ∃ j : Int, v = V.int j ∧ Sz 90 j) (xs := [V.int (pk / 3 % 3000), V.int (0 - pk / 3 % 3000), V.int (10 ^ (17 : Int).toNat - pk)]) z0 z1 (by
      have tw : (2 : Nat) ^ 90 = 1237940039285380274899124224 := by decide +kernel
      intro v hv
      simp only [List.mem_cons, List.not_mem_nil, or_false] at hv
      rcases hv with rfl | rfl | rfl
      · refine ⟨_, rfl, ?_⟩
        unfold Sz
        omega
      · refine ⟨_, rfl, ?_⟩
        unfold Sz
        omega
      · refine ⟨_, rfl, ?_⟩
        have : (10 : Int) ^ (17 : Int).toNat = 100000000000000000 := by decide +kernel
        unfold Sz
        omega)
    refine ⟨_, rfl, _, _, rfl, rfl, md, pl, _, _, _, rfl, rfl, SqL.of upd_same, ho, ?_⟩
    have s5 := Same.new (o := .lst [V.int (pk / 3 % 3000), V.int (0 - pk / 3 % 3000), V.int (10 ^ (17 : Int).toNat - pk)]) npl
    clear ho
    generalize L2.upd H4 pl _ = H5 at *
    have hy5 := (hy3.but b4 d3).same s5
    have fo5 := (pr2.fo.same s3).but b4 d3 |>.same s5
    have d5 := d4.same s5 (Nat.le_refl _)
    have b05 := (b13.trans b4).trans (But.same s5)
    have b02 := b1.trans b2
    have fd := free_but b02 d2 nd
    have fl := free_but b02 d2 nl
    have pn5 := PD3.no hy5 d5
    have nz5 : NzL (hF i 0) (ksO (hF i 0)) := by
      obtain ⟨ks, hk, _⟩ := hy5.nz
      exact Classical.epsilon_spec (p := fun ks => NzL (hF i 0) ks) ⟨ks, hk⟩
    refine ⟨_, rfl, _, rfl, _, rfl, b, p, d, l, r, i, ksO (hF i 0), ysO m y o k i, m, y, o, k, hF i 0, hU i 0, 0, PD3 d l lw, rfl, hy5, by decide, fo5, zi, nz5, ysO_ok m y o k i, pn5, fun q6 H6 s6 nq6 da6 => ?_⟩
    refine ⟨ln _, fun L nL => ?_⟩
    have R7 : RtI C Cc Cv H (L2.upd H6 L (.lst [.ref q6])) b p d l r lw L i m y o k 0 0 0 (0 + 11 + 1 + 1) := by
      have s7 := Same.new (o := .lst [V.ref q6]) nL
      have s57 := s6.trans s7
      refine ⟨hy5.same s57, fo5.same s57, d5.same s57 (Nat.le_refl _), ?_, b05.trans (But.same s57), fd, fl, free_but (b05.trans (But.same s6)) (d5.same s6 (Nat.le_refl _)) nL, [.ref q6], upd_same, ?_⟩
      · intro w
        obtain ⟨us, el⟩ := (hy5.same s6).lst
        rw [w, el] at nL
        cases nL
      · refine (DAs.cons (da6.av fun c o e n => ?_) .nil : DAs H6 _ _ [lkO m y o k i (hF i 0)]).keep fun c o _ e => s7 _ _ e
        rintro (w | w)
        · exact n w
        · rw [w, nL] at e
          cases e
    generalize L2.upd H6 L _ = H7 at *
    refine ⟨_, rfl, lw, _, rfl, R7.dr, by decide, fun pk2 H8 v0 v1 b8 d8 => ?_⟩
    have R8 := R7.but b8 d8
    have w0 := Int.emod_nonneg pk2 (show (7 : Int) ≠ 0 by decide)
    have w1 := Int.emod_lt_of_pos pk2 (show (0 : Int) < 7 by decide)
    have no : ∀ {x : Str}, ¬ (x = ("deeds" : Str)) → ¬ (x = ("kept" : Str)) → ¬ (x = ("calendar" : Str)) → (dvs p d l).lookup x = none := dv_no p d l
    refine ⟨_, _, rfl, rfl, md, _, rfl, (by omega), (by omega), ?_⟩
    refine for_range (n := (pk2 % 7).toNat) (fun j σ H' => ∃ v6 : Option V, σ = [some (.ref lw), some (.ref r), some (.ref b), some (.int pk), some (.int i), some (.ref L), v6] ∧ RtI C Cc Cv H H' b p d l r lw L i m y o k j j (2 * j) 14) ⟨_, rfl, R8⟩ ?_ ?_
    · rintro j σ H9 hj ⟨v6, rfl, R9⟩
      have hj6 : j < 6 := by omega
      have ed : (0 + (j : Int)) % 3 = ((j % 3 : Nat) : Int) := by omega
      obtain ⟨dx9, eb9⟩ := R9.hy.ob
      have zx : Sz 100 (i + ((j % 3 : Nat) : Int)) := zadd' zi (by omega) (by omega)
      refine ⟨_, rfl, b, dx9, _, rfl, eb9, no (by decide +kernel) (by decide +kernel) (by decide +kernel), _, rfl, _, rfl, _, rfl, _, _, rfl, rfl, md, _, _, rfl, rfl, ?_⟩
      rw [ed]
      refine ⟨r, _, m, y, o, k, rfl, R9.fo, g, zx, fun H10 s10 => ?_⟩
      refine ⟨_, rfl, _, _, _, rfl, rfl, (by decide +kernel), (abc_all j hj6).1, ?_⟩
      rw [← (abc_all j hj6).2]
      have R10 := R9.same s10
      have hw := wrt_dtT g zx
      refine ⟨b, p, d, l, _, _, m, y, o, k, hF i j, hU i j, 2 * j, rfl, Nat.le_trans (dtT_len g zx).1 (by decide), R10.hy, by omega, fun i2 hi2 => ?_, by rw [hw]; exact trivial⟩
      rw [hw] at hi2
      injection hi2 with hi2
      subst hi2
      refine ⟨zx, Nat.le_trans (hF_len i j _) (by omega), fun H11 b11 hy11 => ?_⟩
      have R11 : RtI C Cc Cv H H11 b p d l r lw L i m y o k (j + 1) j (2 * (j + 1)) 14 := R10.wr b11 (by rw [hU_succ]; exact hy11)
      obtain ⟨us0, v0', eL0, _⟩ := R11.last
      refine ⟨_, rfl, .inl ⟨rfl, _, SqL.of eL0⟩, _, rfl, _, rfl, _, rfl, b, p, d, l, r, i, ksO (hF i (j + 1)), ysO m y o k i, m, y, o, k, hF i (j + 1), hU i (j + 1), 2 * (j + 1), PL d l lw L, rfl, R11.hy, by omega, R11.fo, zi, R11.nz, ysO_ok m y o k i, R11.no, fun q12 H12 s12 nq12 da12 => ?_⟩
      have R12 := R11.same s12
      obtain ⟨us, v, eL, lu, _⟩ := R12.last
      refine ⟨L, _, .ref q12, rfl, rfl, eL, ?_, ?_⟩
      · rw [List.length_append, lu]
        exact Nat.lt_of_le_of_lt (show j + 1 ≤ 7 by omega) (by decide)
      · exact ⟨_, rfl, R12.push eL da12⟩
    generalize hJ : (pk2 % 7).toNat = J
    have hJ6 : J ≤ 6 := by omega
    rintro σ H9 ⟨v6, rfl, R9⟩
    refine ⟨_, rfl, (by decide), (by decide), ?_⟩
    refine for_range (n := 20) (fun e σ H' => ∃ v6 : Option V, σ = [some (.ref lw), some (.ref r), some (.ref b), some (.int pk), some (.int i), some (.ref L), v6] ∧ RtI C Cc Cv H H' b p d l r lw L i m y o k J J (2 * J) (14 + 8 * e)) ⟨_, rfl, R9⟩ ?_ ?_
    · rintro e σ H10 he ⟨v6, rfl, R10⟩
      refine ⟨_, rfl, _, rfl, _, rfl, _, rfl, b, p, d, l, r, lw, i, _, m, y, o, k, hF i J, hU i J, 2 * J, rfl, R10.hy, by omega, R10.fo, zi, R10.dr, by omega, fun x => Nat.le_trans (hF_len i J x) (by omega), fun H11 b11 d11 => ?_⟩
      have R11 := R10.but b11 d11
      refine ⟨_, rfl, no' rfl ?_⟩
      refine ⟨_, rfl, _, rfl, _, rfl, b, p, d, l, r, i, ksO (hF i J), ysO m y o k i, m, y, o, k, hF i J, hU i J, 2 * J, PL d l lw L, rfl, R11.hy, by omega, R11.fo, zi, R11.nz, ysO_ok m y o k i, R11.no, fun q12 H12 s12 nq12 da12 => ?_⟩
      have R12 := R11.same s12
      obtain ⟨us, v, eL, lu, dav⟩ := R12.last
      refine ⟨_, rfl, _, rfl, L, _, _, v, rfl, rfl, SqL.of eL, atI_last _ _, ?_⟩
      obtain ⟨sh, ev⟩ := lkO_sh g i (hF_ok i J)
      refine ⟨lkO m y o k i (hF i J), lkO m y o k i (hF i J), da12.dp, dav.dp, sh, sh, _, rfl, no' ?_ ?_⟩
      · rw [ev]; rfl
      · exact ⟨_, rfl, R12⟩
    rintro σ H10 ⟨v6', rfl, R10⟩
    refine while_by (fun σ H' => ∃ e n : Nat, e ≤ J ∧ n + e ≤ 3 * J ∧ σ = [some (.ref lw), some (.ref r), some (.ref b), some (.int pk), some (.int i), some (.ref L), v6'] ∧ RtI C Cc Cv H H' b p d l r lw L i m y o k e e n (14 + 8 * 20)) (fun σ H' => match H' L with
      | some (.lst xs) => xs.length
      | _ => 0) ⟨J, 2 * J, Nat.le_refl _, by omega, rfl, R10⟩ ?_ (fun σ H' R R' hq ⟨v, h1, p, ys, e, sq, i, j, h2, h3, k, h4, h5⟩ => ⟨v, h1, p, ys, e, sq, i, j, h2, h3, k, h4, hq _ _ h5⟩)
    clear R10 R9 R8 R7
    rintro σ H20 ⟨e, n, he, hn, rfl, R20⟩
    obtain ⟨us, v, eL, lu, dav⟩ := R20.last
    refine ⟨_, rfl, L, _, rfl, .inl (SqL.of eL), _, _, rfl, rfl, _, rfl, ?_⟩
    have el : (us ++ [v]).length = e + 1 := by rw [List.length_append, lu]; rfl
    rw [el]
    cases e with
    | zero =>
      rw [decide_eq_false (by decide)]
      refine iteF ?_
      refine ⟨_, rfl, b, p, d, l, 5, "", "", 0, m, y, o, k, hF i 0, hU i 0, n, rfl, R20.hy, by omega, ⟨by decide +kernel, by decide +kernel, fun w => absurd w (by omega), fun w => absurd w (by omega), fun _ => rfl⟩, fun rr H21 s21 da21 => ?_⟩
      refine ⟨ln _, fun q22 nq22 => ?_⟩
      have s22 := Same.new (o := .lst [.str "deed", .non, .non]) nq22
      obtain ⟨sh, ev⟩ := rfD_sh (r := .deed) trivial
      refine ⟨rfD .deed, rfD .deed, (da21.same s22).dp, .lst (SqL.of upd_same) (.cons (.str _) (.cons .non (.cons .non .nil))), sh, sh, ?_⟩
      rw [ev]
      have R22 := R20.same (s21.trans s22)
      generalize L2.upd H21 q22 _ = H22 at *
      refine ⟨_, rfl, yes' rfl ?_⟩
      refine ⟨_, rfl, _, rfl, _, rfl, b, p, d, l, r, i, ksO (hF i 0), ysO m y o k i, m, y, o, k, hF i 0, hU i 0, n, PL d l lw L, rfl, R22.hy, by omega, R22.fo, zi, R22.nz, ysO_ok m y o k i, R22.no, fun q23 H23 s23 nq23 da23 => ?_⟩
      have R23 := R22.same s23
      obtain ⟨us3, v3, eL3, dav3⟩ := R23.first
      obtain ⟨sh, ev⟩ := lkO_sh g i (hF_ok i 0)
      refine ⟨_, rfl, L, _, _, v3, rfl, rfl, SqL.of eL3, atI_nat (j := 0) rfl, lkO m y o k i (hF i 0), lkO m y o k i (hF i 0), da23.dp, dav3.dp, sh, sh, ?_⟩
      rw [ev]
      exact q _ R23.bt
    | succ e =>
      rw [decide_eq_true (by omega)]
      refine iteT ?_
      refine ⟨_, rfl, .inl ⟨rfl, _, SqL.of eL⟩, L, _, v, rfl, rfl, eL, ?_, ?_⟩
      · rw [el, Nat.add_sub_cancel, ← lu]
        simp
      have R21 := R20.pop eL
      have e21 := upd_same (H := H20) (a := L) (o := .lst (us ++ [v]).dropLast)
      generalize L2.upd H20 L _ = H21 at *
      obtain ⟨dx, eb⟩ := R21.hy.ob
      refine ⟨_, rfl, b, dx, _, rfl, eb, no (by decide +kernel) (by decide +kernel) (by decide +kernel), b, p, d, l, m, y, o, k, hF i (e + 1), hU i (e + 1), n, rfl, R21.hy, by omega, fun h0 => ?_, fun U' dd hU' => ?_⟩
      · rw [hU_succ] at h0
        simp at h0
      rw [hU_succ] at hU'
      obtain ⟨h1, h2⟩ := List.append_inj' hU' rfl
      subst h1
      obtain rfl : hD i e = dd := by simpa using h2
      refine ⟨(by show 1 ≤ 100; decide), fun H22 b22 hy22 => ?_⟩
      rw [undF_h] at hy22
      have R22 : RtI C Cc Cv H H22 b p d l r lw L i m y o k e e (n + 1) (14 + 8 * 20) := R21.wr b22 hy22
      refine ⟨_, rfl, no' rfl ?_⟩
      refine ⟨_, rfl, _, rfl, _, rfl, b, p, d, l, r, i, ksO (hF i e), ysO m y o k i, m, y, o, k, hF i e, hU i e, n + 1, PL d l lw L, rfl, R22.hy, by omega, R22.fo, zi, R22.nz, ysO_ok m y o k i, R22.no, fun q23 H23 s23 nq23 da23 => ?_⟩
      have R23 := R22.same s23
      obtain ⟨us3, v3, eL3, lu3, dav3⟩ := R23.last
      refine ⟨_, rfl, _, rfl, L, _, _, v3, rfl, rfl, SqL.of eL3, atI_last _ _, ?_⟩
      obtain ⟨sh, ev⟩ := lkO_sh g i (hF_ok i e)
      refine ⟨lkO m y o k i (hF i e), lkO m y o k i (hF i e), da23.dp, dav3.dp, sh, sh, _, rfl, no' ?_ ?_⟩
      · rw [ev]; rfl
      · refine ⟨⟨e, n + 1, by omega, by omega, rfl, R23⟩, ?_⟩
        show (match H23 L with
          | some (.lst xs) => xs.length
          | _ => 0) < (match H20 L with
          | some (.lst xs) => xs.length
          | _ => 0)
        rw [eL3, eL]
        show (us3 ++ [v3]).length < (us ++ [v]).length
        rw [el, List.length_append, lu3]
        exact Nat.lt_succ_self _
end
/-! ### the law -/
section
variable {P : Program} {w : World} {K : PySem.W.Frag} {mg : Str → Option Value} {base : Heap}
theorem ok_law (D : Df K mg "law" s_law []) (f_l_draws : Ca P w K mg base CX0 1 "_law_draws" s_l_draws [] ["_law_cell"] spDraws) (f_l_right : Ca P w K mg base CX0 18 "_law_right" s_l_right [] ["_law_draws_here"] spR82) : Ca P w K mg base CX0 19 "law" s_law [] ["_law_script"] (spLaw K) := by
  refine ca0 (k := 18) D c_law (fun vs H Q E h => ?_) fun f cdv A outer s H vs Q E hr h => ?_
  · obtain ⟨a, ns, rfl, _⟩ := h
    rfl
  · obtain ⟨a, ns, rfl, hS, hlen, q⟩ := h
    refine ⟨_, (pss_cons (ps_for PassesOwn.never rfl (pi_list (pe_op op_cat (pe_slice sl_list (pv 0) po_none (po_some pe_int)) (pe_lst (pa_cons pe_int pa_nil)))) (pg_name (i := 1) c_law.nd rfl (.inl rfl)) (pss_one (ps_if (pt_not (pt_val (pe_ca f_l_right b_l_right hr (by decide) pass0 rfl (pa_cons (pe_ca f_l_draws b_l_draws hr (by decide) pass0 rfl (pa_cons (pv 1) pa_nil)) pa_nil)))) (pss_one (ps_ret pe_bl)) pss_nil)))
      (pss_one (ps_ret pe_bl))), ?_⟩
    refine ⟨_, rfl, _, rfl, a, _, rfl, hS, fun p1 n1 => ?_⟩
    refine ⟨(by show 1 ≤ sizeLine; decide), fun p2 n2 => ?_⟩
    have ne12 : p1 ≠ p2 := ne_of_none upd_same n2
    refine ⟨p1, p2, _, _, rfl, rfl, (by rw [upd_ne ne12]; exact upd_same), upd_same, cut_len hlen, fun l3 n3 => ?_⟩
    generalize hH0 : L2.upd _ l3 (.lst (cutV (ns.map V.int) none (some 3) ++ [V.int 0])) = H0
    have hl3 : H0 l3 = some (.lst (cutV (ns.map V.int) none (some 3) ++ [V.int 0])) := by rw [← hH0]; exact upd_same
    refine ⟨l3, rfl, ⟨_, SqL.of hl3⟩, for_list (K := K) (a := l3) (xs := cutV (ns.map V.int) none (some 3) ++ [V.int 0]) (fun i σ H' => ∃ v1 : Option V, σ = [some (.ref a), v1] ∧ H' l3 = some (.lst (cutV (ns.map V.int) none (some 3) ++ [V.int 0])))
      ⟨_, rfl, hl3⟩ (fun i σ H' _ ⟨_, _, e⟩ => SqL.of e) ?_ (fun σ H' ⟨_, e, _⟩ => by subst e; exact q H')⟩
    rintro i x σ H1 hi ⟨v1, rfl, e3⟩
    obtain ⟨c, rfl⟩ := cut_ints hi
    refine ⟨_, rfl, c, rfl, fun l H2 nl s2 d2 => ?_⟩
    have nel : l3 ≠ l := ne_of_none e3 nl
    exact ⟨l, rfl, d2, fun H3 b3 => ⟨_, rfl, no' rfl ⟨_, rfl, b3 _ _ nel (s2 _ _ e3)⟩⟩⟩
end
/-! ### makers of facts -/
theorem dx_mk {K : PySem.W.Frag} {qual : Str} {st : Stmt} {f C : Addr} {oc kV doc pm cdv ct : Value} {od an : Option Addr} {osl : Array (Option Value)} (a : PySem.W.findIn K (.ref C) "__init__" = some (some (.ref f)))
    (l : K.lookup f = some ⟨oc, od, .func (PySem.W.fnOf "__init__" qual (defArgs st) (defBody st) (defScope st) .none kV doc pm an cdv ct), osl⟩) (c : PySem.W.codeIn K cdv qual = true) (k : PySem.W.keepIn K (.ref f) = true) (t : PySem.W.typeIn K (.ref f) = some (.type "function")) : Dx K C qual st :=
  ⟨f, _, ⟨⟨oc, od, .none, kV, doc, pm, an, cdv, ct, osl, rfl, l, c, .inl ⟨rfl, rfl⟩, .inl rfl⟩, k⟩, a, t⟩
theorem oxl_mk {K : PySem.W.Frag} {C : Addr} {nm q N bs sn sub ab col dd k0 k1 k2 k3 k5} (l : K.lookup C = some (excClassObj nm q C N bs bmL true sn sub ab col dd k0 k1 k2 k3 k5 "LookupError.__new__")) (sa : PySem.W.findIn K (.ref C) "__setattr__" = some (some (.builtin "object.__setattr__")))
    (exC : PySem.W.subIn K (.ref C) (.type "BaseException") = some true) (tyC : PySem.W.typeIn K (.ref C) = some (.type "type")) (kC : PySem.W.keepIn K (.ref C) = true) : OxL K C := ⟨PySem.F.excBase_LookupError, PySem.F.store_LookupError, by decide +kernel, ⟨_, _, _, _, _, _, _, _, _, _, _, _, _, _, l⟩, sa, exC, tyC, kC⟩
theorem net_mk {K : PySem.W.Frag} {C : Addr} {nm q N bs hd sn sub ab col dd k0 k1 k2 k3 k5 nw} (ne : PySem.W.findIn K (.ref C) "__ne__" = some (some (.builtin "object.__ne__"))) (l : K.lookup C = some (excClassObj nm q C N bs [.type "object"] hd sn sub ab col dd k0 k1 k2 k3 k5 nw)) : NeT K C := ⟨ne, ⟨_, _, _, _, _, _, _, _, _, _, _, _, _, _, _, _, l⟩⟩
theorem any_exm {K : PySem.W.Frag} {D : Addr} {cs : List Value} (h : ∀ c ∈ cs, ∃ b, PySem.W.exmOne K (.ref D) c = some b) {c : Value} (hc : c ∈ cs) (h1 : PySem.W.exmOne K (.ref D) c = some true) : ∃ B : Value → Bool, (∀ c ∈ cs, PySem.W.exmOne K (.ref D) c = some (B c)) ∧ cs.any B = true := by
  refine ⟨fun c => (PySem.W.exmOne K (.ref D) c).getD false, fun c hc => ?_, List.any_eq_true.mpr ⟨c, hc, by rw [h1]; rfl⟩⟩
  obtain ⟨b, hb⟩ := h c hc
  show _ = some ((PySem.W.exmOne K (.ref D) c).getD false)
  rw [hb]
  rfl
theorem oxv_mk {K : PySem.W.Frag} {C : Addr} {nm q N bs sn sub ab col dd k0 k1 k2 k3 k5} (l : K.lookup C = some (excClassObj nm q C N bs bmV true sn sub ab col dd k0 k1 k2 k3 k5 "ValueError.__new__")) (sa : PySem.W.findIn K (.ref C) "__setattr__" = some (some (.builtin "object.__setattr__")))
    (exC : PySem.W.subIn K (.ref C) (.type "BaseException") = some true) (tyC : PySem.W.typeIn K (.ref C) = some (.type "type")) (kC : PySem.W.keepIn K (.ref C) = true) : OxV K C := ⟨PySem.F.excBase_ValueError, PySem.F.store_ValueError, by decide +kernel, ⟨_, _, _, _, _, _, _, _, _, _, _, _, _, _, l⟩, sa, exC, tyC, kC⟩
theorem df_mkD {K : PySem.W.Frag} {h : Heap} {mg : Str → Option Value} {x : Str} {st : Stmt} {f T : Addr} {oc kV doc pm cdv ct : Value} {od an : Option Addr} {osl : Array (Option Value)} {nT : Nat} {its : List Value} {dvs : List V} (X : K.In h) (G : h.Ns mainGlobals mg) (a : PySem.W.nsIn K mainGlobals x = some (some (.ref f)))
    (l : K.lookup f = some ⟨oc, od, .func (PySem.W.fnOf x x (defArgs st) (defBody st) (defScope st) (.ref T) kV doc pm an cdv ct), osl⟩) (c : PySem.W.codeIn K cdv x = true) (k : PySem.W.keepIn K (.ref f) = true) {oT : Obj} (lT : K.lookup T = some oT) (eT : oT.data = .seq its.toArray nT) (r : Vals dvs its) (ne : dvs ≠ []) : Df K mg x st dvs :=
  ⟨f, _, ⟨⟨oc, od, .ref T, kV, doc, pm, an, cdv, ct, osl, rfl, l, c, .inr ⟨ne, T, _, its, nT, rfl, lT, eT, r⟩, .inl rfl⟩, k⟩, PySem.W.mg_of X G a⟩
/-! ### what the top has written -/
theorem fin {P : Program} {w : World} {K : PySem.W.Frag} {mg : Str → Option Value} {fa C Cc Cd Cv CN CD CW CZ C_NoShare C_NoCalendar C_NoWheel C_NoName C_NoDay C_Taken : Addr} (hfa : mg "law" = some (.ref fa))
    (cl : Cls K C) (nT : PySem.W.findIn K (.ref C) "top" = some none) (nB : PySem.W.findIn K (.ref C) "bottom" = some none) (ha : PySem.W.findIn K (.ref C) "__class__" = some (some (.builtin "object.__class__")))
    (hn : PySem.W.specialIn K (.builtin "object.__class__") "__get__" = some (some (.builtin "getset_descriptor.__get__"))) (htk : PySem.W.takesIn K (.builtin "object.__class__") = some true) (hm : PySem.W.mroIn K C (.type "object") = some true)
    (iC : PySem.W.isClsIn K C = true) (tC : PySem.W.typeIn K (.ref C) = some (.type "type")) (sI : PySem.W.subIn K (.type "int") (.ref C) = some false) (hC : mg "Share" = some (.ref C))
    (dShare : Di K mg "Share" C "Share.__init__" s_Share_init [.int 1])
    (clc : Cls K Cc) (n1 : PySem.W.findIn K (.ref Cc) "month" = some none) (n2 : PySem.W.findIn K (.ref Cc) "year" = some none) (n3 : PySem.W.findIn K (.ref Cc) "moon" = some none) (n4 : PySem.W.findIn K (.ref Cc) "mark" = some none) (ne : Cc ≠ C) {uM : Value} (aM : mg "MARKS" = some uM) (rM : RelV (.int 12) uM)
    (dCal : Di K mg "Calendar" Cc "Calendar.__init__" s_Calendar_init [.non, .non])
    (cld : Cls K Cd) (e1 : PySem.W.findIn K (.ref Cd) "year" = some none) (e2 : PySem.W.findIn K (.ref Cd) "number" = some none) (e3 : PySem.W.findIn K (.ref Cd) "day" = some none) (e4 : PySem.W.findIn K (.ref Cd) "odd" = some none)
    (had : PySem.W.findIn K (.ref Cd) "__class__" = some (some (.builtin "object.__class__"))) (hmd : PySem.W.mroIn K Cd (.type "object") = some true) (hDate : mg "Date" = some (.ref Cd))
    (dDate : Di K mg "Date" Cd "Date.__init__" s_Date_init [.bl false]) (dDateEq : Dm K Cd "__eq__" "Date.__eq__" s_Date_eq)
    (dDateStr : Dm K Cd "__str__" "Date.__str__" s_Date_str)
    (clv : Cls K Cv) (dv1 : PySem.W.findIn K (.ref Cv) "calendar" = some none) (dv2 : PySem.W.findIn K (.ref Cv) "kept" = some none) (dv3 : PySem.W.findIn K (.ref Cv) "deeds" = some none)
    (dDiary : Di K mg "Diary" Cv "Diary.__init__" s_Diary_init [])
    (d_start : Dm K Cc "start" "Calendar.start" s_Calendar_start)
    (d_month_at : Dm K Cc "month_at" "Calendar.month_at" s_Calendar_month_at)
    (d_mark_day : Dm K Cc "mark_day" "Calendar.mark_day" s_Calendar_mark_day)
    (d_month_with : Dm K Cc "month_with" "Calendar.month_with" s_Calendar_month_with)
    (d_mark_in : Dm K Cc "mark_in" "Calendar.mark_in" s_Calendar_mark_in)
    (d_name_of : Dm K Cc "name_of" "Calendar.name_of" s_Calendar_name_of)
    (dvNo : Dm K Cv "note" "Diary.note" s_Diary_note)
    (dvSk : Dm K Cv "strike" "Diary.strike" s_Diary_strike)
    (dvMo : Dm K Cv "moved" "Diary.moved" s_Diary_moved)
    (dvUn : Dm K Cv "undo" "Diary.undo" s_Diary_undo)
    (dvOn : Dm K Cv "notes_on" "Diary.notes_on" s_Diary_notes_on)
    (dvNd : Dm K Cv "noted" "Diary.noted" s_Diary_noted)
    (dvIa : Dm K Cv "in_all" "Diary.in_all" s_Diary_in_all)
    (dvDw : Dm K Cv "day_written" "Diary.day_written" s_Diary_day_written)
    (dvTx : Dm K Cv "texts_of" "Diary.texts_of" s_Diary_texts_of)
    (dvRm : Dm K Cv "remember" "Diary.remember" s_Diary_remember)
    (xto_NoShare : Oc K mg CN "NoShare" C_NoShare false) (xto_NoCalendar : Oc K mg CN "NoCalendar" C_NoCalendar false) (xto_NoDate : Oc K mg CN "NoDate" CD false) (xto_NoWheel : Oc K mg CN "NoWheel" C_NoWheel false) (xto_NoName : Oc K mg CN "NoName" C_NoName false) (xto_NoDay : Oc K mg CN "NoDay" C_NoDay false) (xto_Taken : Oc K mg CN "Taken" C_Taken false) (xto_NoText : Oc K mg CN "NoText" CN true) (xto_NoNote : Oc K mg CN "NoNote" CW false) (xto_NoDeed : Oc K mg CN "NoDeed" CZ false)
    (xtr_NoShare : CN ≠ C_NoShare) (xtr_NoCalendar : CN ≠ C_NoCalendar) (xtr_NoDate : CN ≠ CD) (xtr_NoWheel : CN ≠ C_NoWheel) (xtr_NoName : CN ≠ C_NoName) (xtr_NoDay : CN ≠ C_NoDay) (xtr_Taken : CN ≠ C_Taken) (xtr_NoNote : CN ≠ CW) (xtr_NoDeed : CN ≠ CZ)
    (xtt_ZeroDivisionError : PySem.W.subIn K (.ref CN) (.type "ZeroDivisionError") = some false) (xtt_LookupError : PySem.W.subIn K (.ref CN) (.type "LookupError") = some false) (xtt_ValueError : PySem.W.subIn K (.ref CN) (.type "ValueError") = some true) (xtt_KeyError : PySem.W.subIn K (.ref CN) (.type "KeyError") = some false) (xtt_IndexError : PySem.W.subIn K (.ref CN) (.type "IndexError") = some false) (xtt_RuntimeError : PySem.W.subIn K (.ref CN) (.type "RuntimeError") = some false)
    (xtxc : XcF K CN) (xtox : OxV K CN) (xtno_at : PySem.W.findIn K (.ref CN) "at" = some none) (tvV : PySem.W.findCls K (.type "ValueError") (.type "type") "__init__" = some (.val (.builtin "ValueError.__init__")))
    (xtdEx : Dx K CN "NoText.__init__" s_NoText_init)
    (xdo_NoShare : Oc K mg CD "NoShare" C_NoShare false) (xdo_NoCalendar : Oc K mg CD "NoCalendar" C_NoCalendar false) (xdo_NoDate : Oc K mg CD "NoDate" CD true) (xdo_NoWheel : Oc K mg CD "NoWheel" C_NoWheel false) (xdo_NoName : Oc K mg CD "NoName" C_NoName false) (xdo_NoDay : Oc K mg CD "NoDay" C_NoDay false) (xdo_Taken : Oc K mg CD "Taken" C_Taken false) (xdo_NoText : Oc K mg CD "NoText" CN false) (xdo_NoNote : Oc K mg CD "NoNote" CW false) (xdo_NoDeed : Oc K mg CD "NoDeed" CZ false)
    (xdr_NoShare : CD ≠ C_NoShare) (xdr_NoCalendar : CD ≠ C_NoCalendar) (xdr_NoWheel : CD ≠ C_NoWheel) (xdr_NoName : CD ≠ C_NoName) (xdr_NoDay : CD ≠ C_NoDay) (xdr_Taken : CD ≠ C_Taken) (xdr_NoText : CD ≠ CN) (xdr_NoNote : CD ≠ CW) (xdr_NoDeed : CD ≠ CZ)
    (xdt_ZeroDivisionError : PySem.W.subIn K (.ref CD) (.type "ZeroDivisionError") = some false) (xdt_LookupError : PySem.W.subIn K (.ref CD) (.type "LookupError") = some true) (xdt_ValueError : PySem.W.subIn K (.ref CD) (.type "ValueError") = some false) (xdt_KeyError : PySem.W.subIn K (.ref CD) (.type "KeyError") = some false) (xdt_IndexError : PySem.W.subIn K (.ref CD) (.type "IndexError") = some false) (xdt_RuntimeError : PySem.W.subIn K (.ref CD) (.type "RuntimeError") = some false)
    (xdxc : XcF K CD) (xdox : OxL K CD) (xdno_date : PySem.W.findIn K (.ref CD) "date" = some none) (xdno_why : PySem.W.findIn K (.ref CD) "why" = some none) (dvV : PySem.W.findCls K (.type "LookupError") (.type "type") "__init__" = some (.val (.builtin "LookupError.__init__")))
    (xddEx : Dx K CD "NoDate.__init__" s_NoDate_init)
    (xwo_NoShare : Oc K mg CW "NoShare" C_NoShare false) (xwo_NoCalendar : Oc K mg CW "NoCalendar" C_NoCalendar false) (xwo_NoDate : Oc K mg CW "NoDate" CD false) (xwo_NoWheel : Oc K mg CW "NoWheel" C_NoWheel false) (xwo_NoName : Oc K mg CW "NoName" C_NoName false) (xwo_NoDay : Oc K mg CW "NoDay" C_NoDay false) (xwo_Taken : Oc K mg CW "Taken" C_Taken false) (xwo_NoText : Oc K mg CW "NoText" CN false) (xwo_NoNote : Oc K mg CW "NoNote" CW true) (xwo_NoDeed : Oc K mg CW "NoDeed" CZ false)
    (xwr_NoShare : CW ≠ C_NoShare) (xwr_NoCalendar : CW ≠ C_NoCalendar) (xwr_NoDate : CW ≠ CD) (xwr_NoWheel : CW ≠ C_NoWheel) (xwr_NoName : CW ≠ C_NoName) (xwr_NoDay : CW ≠ C_NoDay) (xwr_Taken : CW ≠ C_Taken) (xwr_NoText : CW ≠ CN) (xwr_NoDeed : CW ≠ CZ)
    (xwt_ZeroDivisionError : PySem.W.subIn K (.ref CW) (.type "ZeroDivisionError") = some false) (xwt_LookupError : PySem.W.subIn K (.ref CW) (.type "LookupError") = some true) (xwt_ValueError : PySem.W.subIn K (.ref CW) (.type "ValueError") = some false) (xwt_KeyError : PySem.W.subIn K (.ref CW) (.type "KeyError") = some false) (xwt_IndexError : PySem.W.subIn K (.ref CW) (.type "IndexError") = some true) (xwt_RuntimeError : PySem.W.subIn K (.ref CW) (.type "RuntimeError") = some false)
    (xwxc : XcF K CW) (xwox : OxI K CW) (xwno_at : PySem.W.findIn K (.ref CW) "at" = some none) (wvV : PySem.W.findCls K (.type "IndexError") (.type "type") "__init__" = some (.val (.builtin "IndexError.__init__")))
    (xwdEx : Dx K CW "NoNote.__init__" s_NoNote_init)
    (xzo_NoShare : Oc K mg CZ "NoShare" C_NoShare false) (xzo_NoCalendar : Oc K mg CZ "NoCalendar" C_NoCalendar false) (xzo_NoDate : Oc K mg CZ "NoDate" CD false) (xzo_NoWheel : Oc K mg CZ "NoWheel" C_NoWheel false) (xzo_NoName : Oc K mg CZ "NoName" C_NoName false) (xzo_NoDay : Oc K mg CZ "NoDay" C_NoDay false) (xzo_Taken : Oc K mg CZ "Taken" C_Taken false) (xzo_NoText : Oc K mg CZ "NoText" CN false) (xzo_NoNote : Oc K mg CZ "NoNote" CW false) (xzo_NoDeed : Oc K mg CZ "NoDeed" CZ true)
    (xzr_NoShare : CZ ≠ C_NoShare) (xzr_NoCalendar : CZ ≠ C_NoCalendar) (xzr_NoDate : CZ ≠ CD) (xzr_NoWheel : CZ ≠ C_NoWheel) (xzr_NoName : CZ ≠ C_NoName) (xzr_NoDay : CZ ≠ C_NoDay) (xzr_Taken : CZ ≠ C_Taken) (xzr_NoText : CZ ≠ CN) (xzr_NoNote : CZ ≠ CW)
    (xzt_ZeroDivisionError : PySem.W.subIn K (.ref CZ) (.type "ZeroDivisionError") = some false) (xzt_LookupError : PySem.W.subIn K (.ref CZ) (.type "LookupError") = some false) (xzt_ValueError : PySem.W.subIn K (.ref CZ) (.type "ValueError") = some false) (xzt_KeyError : PySem.W.subIn K (.ref CZ) (.type "KeyError") = some false) (xzt_IndexError : PySem.W.subIn K (.ref CZ) (.type "IndexError") = some false) (xzt_RuntimeError : PySem.W.subIn K (.ref CZ) (.type "RuntimeError") = some true)
    (xzxc : XcF K CZ) (xzox : OxR K CZ)  (zvV : PySem.W.findCls K (.type "RuntimeError") (.type "type") "__init__" = some (.val (.builtin "RuntimeError.__init__")))
    (xzdEx : Dx K CZ "NoDeed.__init__" s_NoDeed_init)
    {uF : Value} (aF : mg "FIGURES" = some uF) (rF : RelV (.str FIG) uF)
    (g_abs : mg "abs" = none) (g_range : mg "range" = none) (g_isinstance : mg "isinstance" = none) (g_int : mg "int" = none) (g_str : mg "str" = none) (g_len : mg "len" = none) (g_list : mg "list" = none) (g_sorted : mg "sorted" = none) (g_set : mg "set" = none) (g_sum : mg "sum" = none) (g_reversed : mg "reversed" = none) (g_ValueError : mg "ValueError" = none) (g_LookupError : mg "LookupError" = none) (g_IndexError : mg "IndexError" = none) (g_RuntimeError : mg "RuntimeError" = none)
    (d_numeral : Df K mg "numeral" s_numeral [.int 10])
    (d_number_in : Df K mg "number_in" s_number_in [.int 10])
    (d_common_divisor : Df K mg "common_divisor" s_common_divisor []) (d_as_share : Df K mg "as_share" s_as_share []) (d_plus : Df K mg "plus" s_plus []) (d_minus : Df K mg "minus" s_minus []) (d_times : Df K mg "times" s_times []) (d_over : Df K mg "over" s_over []) (d_before : Df K mg "before" s_before []) (d_whole : Df K mg "whole" s_whole []) (d_rounded_up : Df K mg "rounded_up" s_rounded_up []) (d_refuse_unfit : Df K mg "refuse_unfit" s_refuse_unfit []) (d_moment_or_nought : Df K mg "moment_or_nought" s_moment_or_nought []) (d_twelfth : Df K mg "twelfth" s_twelfth []) (d_nth_day : Df K mg "nth_day" s_nth_day []) (d_first_from : Df K mg "first_from" s_first_from []) (d_two_figures : Df K mg "two_figures" s_two_figures []) (d_odd_sign : Df K mg "odd_sign" s_odd_sign []) (d_read_date : Df K mg "read_date" s_read_date []) (d_days_of : Df K mg "days_of" s_days_of []) (d_plain_month : Df K mg "plain_month" s_plain_month []) (d_odd_month : Df K mg "odd_month" s_odd_month []) (d_month_of : Df K mg "month_of" s_month_of []) (d_date_of : Df K mg "date_of" s_date_of []) (d_day_of : Df K mg "day_of" s_day_of []) (d_day_in : Df K mg "day_in" s_day_in []) (d_year_with : Df K mg "year_with" s_year_with []) (d_l_draws : Df K mg "_law_draws" s_l_draws []) (d_l_next : Df K mg "_law_next" s_l_next []) (d_l_low : Df K mg "_law_low" s_l_low []) (d_l_plus : Df K mg "_law_plus" s_l_plus []) (d_l_by : Df K mg "_law_by" s_l_by []) (d_l_part : Df K mg "_law_part" s_l_part []) (d_l_moment : Df K mg "_law_moment" s_l_moment []) (d_l_four : Df K mg "_law_four" s_l_four []) (d_l_floor : Df K mg "_law_floor" s_l_floor []) (d_l_start : Df K mg "_law_start" s_l_start []) (d_l_mark_day : Df K mg "_law_mark_day" s_l_mark_day []) (d_l_month_at : Df K mg "_law_month_at" s_l_month_at []) (d_l_mark_in : Df K mg "_law_mark_in" s_l_mark_in []) (d_l_name : Df K mg "_law_name" s_l_name []) (d_l_date : Df K mg "_law_date" s_l_date []) (d_l_cal : Df K mg "_law_cal" s_l_cal []) (d_l_month_with : Df K mg "_law_month_with" s_l_month_with []) (d_l_long : Df K mg "_law_long" s_l_long []) (d_l_kinds : Df K mg "_law_kinds" s_l_kinds []) (d_l_date_text : Df K mg "_law_date_text" s_l_date_text []) (d_l_text : Df K mg "_law_text" s_l_text []) (d_l_why : Df K mg "_law_why" s_l_why []) (d_l_drawn : Df K mg "_law_drawn" s_l_drawn []) (d_l_due : Df K mg "_law_due" s_l_due []) (d_l_ask : Df K mg "_law_ask" s_l_ask []) (d_l_asked : Df K mg "_law_asked" s_l_asked []) (d_l_looks : Df K mg "_law_looks" s_l_looks []) (d_l_fault : Df K mg "_law_fault" s_l_fault []) (d_l_right : Df K mg "_law_right" s_l_right []) (d_law : Df K mg "law" s_law []) :
    ∃ fd : FuncData, (∀ (s : Shared) (u : Value), BindsTo s fd ⟨[u], []⟩ [("_law_script", u)]) ∧ ∀ base : Heap, K.In base → base.Ns mainGlobals mg → FnOk P w K mg base CX0 19 fa fd ["_law_script"] (spLaw K) := by
  refine fin_of hfa d_law b_law fun base => ?_
  have T : ShX K C := ⟨⟨cl, nT, nB⟩, fun H a dx fs e => .base (.ins e cl ha hn htk hm), kit_no iC tC rfl sI⟩
  have marks : ∃ t, mg "MARKS" = some (.int 12 t) := by
    obtain ⟨t, e⟩ := rM
    exact ⟨t, by rw [aM, e]⟩
  have Tc : CaT K C Cc := ⟨clc, n1, n2, n3, n4, ne⟩
  have f1 := ok_gcd (P := P) (w := w) (base := base) d_common_divisor g_abs
  have f2 := ok_shI dShare T.toShT f1
  have f3 := ok_as d_as_share T g_isinstance hC f2
  have F : ShF P w K mg base C := { T := T, mkS := f2, asS := f3, plus := ok_plus d_plus T f3 f2, minus := ok_minus d_minus T f3 f2, times := ok_times d_times T f3 f2, over := ok_over d_over T f3 f2, before := ok_before d_before T f3, whole := ok_whole d_whole T f3, up := ok_rounded d_rounded_up T f3, marks := marks }
  have tw := ok_tw d_twelfth F
  have nth := ok_nth d_nth_day F
  have cal := ok_caI dCal Tc F (ok_unfit d_refuse_unfit F tw) (ok_moment d_moment_or_nought F)
  obtain ⟨tkM, hMk⟩ := id marks
  have lo := ok_low (P := P) (w := w) (base := base) d_l_low g_abs
  have nx := ok_next (P := P) (w := w) (base := base) d_l_next
  have dr := ok_draws (P := P) (w := w) (base := base) d_l_draws g_range
  have pl := ok_lplus d_l_plus lo
  have by' := ok_lby d_l_by lo
  have fl := ok_lfloor (P := P) (w := w) (base := base) d_l_floor
  have ls := ok_lstart d_l_start fl pl by'
  have pt := ok_lpart d_l_part nx lo
  have mo := ok_lmom d_l_moment nx pt pl
  have fo := ok_lfour d_l_four nx pt pl by' mo
  have fr := ok_from d_first_from F
  have m1 := ok_start d_start Tc nth
  have m2 := ok_month_at d_month_at Tc fr
  have m3 := ok_mark_day d_mark_day Tc nth tw
  have xtKD : KdF K mg CN false false false false false false false true false false false false true false false false C_NoShare C_NoCalendar CD C_NoWheel C_NoName C_NoDay C_Taken CN CW CZ :=
    { xc := xtxc, m0 := xto_NoShare.m, m1 := xto_NoCalendar.m, m2 := xto_NoDate.m, m3 := xto_NoWheel.m, m4 := xto_NoName.m, m5 := xto_NoDay.m, m6 := xto_Taken.m, m7 := xto_NoText.m, m8 := xto_NoNote.m, m9 := xto_NoDeed.m, k0 := xto_NoShare.kit fun z => absurd z xtr_NoShare, k1 := xto_NoCalendar.kit fun z => absurd z xtr_NoCalendar, k2 := xto_NoDate.kit fun z => absurd z xtr_NoDate, k3 := xto_NoWheel.kit fun z => absurd z xtr_NoWheel, k4 := xto_NoName.kit fun z => absurd z xtr_NoName, k5 := xto_NoDay.kit fun z => absurd z xtr_NoDay, k6 := xto_Taken.kit fun z => absurd z xtr_Taken, k7 := xto_NoText.kit fun _ => rfl, k8 := xto_NoNote.kit fun z => absurd z xtr_NoNote, k9 := xto_NoDeed.kit fun z => absurd z xtr_NoDeed, t0 := kit_typ (by decide +kernel) xtt_ZeroDivisionError, t1 := kit_typ (by decide +kernel) xtt_LookupError, t2 := kit_typ (by decide +kernel) xtt_ValueError, t3 := kit_typ (by decide +kernel) xtt_KeyError, t4 := kit_typ (by decide +kernel) xtt_IndexError, t5 := kit_typ (by decide +kernel) xtt_RuntimeError }
  have xtXA := any_exm (K := K) (D := CN) (cs := [Value.ref C_NoCalendar, .ref CD, .ref C_NoDay, .ref CZ, .ref C_NoName, .ref CW, .ref C_NoShare, .ref CN, .ref C_NoWheel, .ref C_Taken]) (by
    intro c hc
    simp only [List.mem_cons, List.not_mem_nil, or_false] at hc
    rcases hc with rfl | rfl | rfl | rfl | rfl | rfl | rfl | rfl | rfl | rfl
    · exact ⟨_, xto_NoCalendar.exm⟩
    · exact ⟨_, xto_NoDate.exm⟩
    · exact ⟨_, xto_NoDay.exm⟩
    · exact ⟨_, xto_NoDeed.exm⟩
    · exact ⟨_, xto_NoName.exm⟩
    · exact ⟨_, xto_NoNote.exm⟩
    · exact ⟨_, xto_NoShare.exm⟩
    · exact ⟨_, xto_NoText.exm⟩
    · exact ⟨_, xto_NoWheel.exm⟩
    · exact ⟨_, xto_Taken.exm⟩) (c := .ref CN) (by simp) xto_NoText.exm
  have xdKD : KdF K mg CD false false true false false false false false false false false true false false false false C_NoShare C_NoCalendar CD C_NoWheel C_NoName C_NoDay C_Taken CN CW CZ :=
    { xc := xdxc, m0 := xdo_NoShare.m, m1 := xdo_NoCalendar.m, m2 := xdo_NoDate.m, m3 := xdo_NoWheel.m, m4 := xdo_NoName.m, m5 := xdo_NoDay.m, m6 := xdo_Taken.m, m7 := xdo_NoText.m, m8 := xdo_NoNote.m, m9 := xdo_NoDeed.m, k0 := xdo_NoShare.kit fun z => absurd z xdr_NoShare, k1 := xdo_NoCalendar.kit fun z => absurd z xdr_NoCalendar, k2 := xdo_NoDate.kit fun _ => rfl, k3 := xdo_NoWheel.kit fun z => absurd z xdr_NoWheel, k4 := xdo_NoName.kit fun z => absurd z xdr_NoName, k5 := xdo_NoDay.kit fun z => absurd z xdr_NoDay, k6 := xdo_Taken.kit fun z => absurd z xdr_Taken, k7 := xdo_NoText.kit fun z => absurd z xdr_NoText, k8 := xdo_NoNote.kit fun z => absurd z xdr_NoNote, k9 := xdo_NoDeed.kit fun z => absurd z xdr_NoDeed, t0 := kit_typ (by decide +kernel) xdt_ZeroDivisionError, t1 := kit_typ (by decide +kernel) xdt_LookupError, t2 := kit_typ (by decide +kernel) xdt_ValueError, t3 := kit_typ (by decide +kernel) xdt_KeyError, t4 := kit_typ (by decide +kernel) xdt_IndexError, t5 := kit_typ (by decide +kernel) xdt_RuntimeError }
  have xdXA := any_exm (K := K) (D := CD) (cs := [Value.ref C_NoCalendar, .ref CD, .ref C_NoDay, .ref CZ, .ref C_NoName, .ref CW, .ref C_NoShare, .ref CN, .ref C_NoWheel, .ref C_Taken]) (by
    intro c hc
    simp only [List.mem_cons, List.not_mem_nil, or_false] at hc
    rcases hc with rfl | rfl | rfl | rfl | rfl | rfl | rfl | rfl | rfl | rfl
    · exact ⟨_, xdo_NoCalendar.exm⟩
    · exact ⟨_, xdo_NoDate.exm⟩
    · exact ⟨_, xdo_NoDay.exm⟩
    · exact ⟨_, xdo_NoDeed.exm⟩
    · exact ⟨_, xdo_NoName.exm⟩
    · exact ⟨_, xdo_NoNote.exm⟩
    · exact ⟨_, xdo_NoShare.exm⟩
    · exact ⟨_, xdo_NoText.exm⟩
    · exact ⟨_, xdo_NoWheel.exm⟩
    · exact ⟨_, xdo_Taken.exm⟩) (c := .ref CD) (by simp) xdo_NoDate.exm
  have xwKD : KdF K mg CW false false false false false false false false true false false true false false true false C_NoShare C_NoCalendar CD C_NoWheel C_NoName C_NoDay C_Taken CN CW CZ :=
    { xc := xwxc, m0 := xwo_NoShare.m, m1 := xwo_NoCalendar.m, m2 := xwo_NoDate.m, m3 := xwo_NoWheel.m, m4 := xwo_NoName.m, m5 := xwo_NoDay.m, m6 := xwo_Taken.m, m7 := xwo_NoText.m, m8 := xwo_NoNote.m, m9 := xwo_NoDeed.m, k0 := xwo_NoShare.kit fun z => absurd z xwr_NoShare, k1 := xwo_NoCalendar.kit fun z => absurd z xwr_NoCalendar, k2 := xwo_NoDate.kit fun z => absurd z xwr_NoDate, k3 := xwo_NoWheel.kit fun z => absurd z xwr_NoWheel, k4 := xwo_NoName.kit fun z => absurd z xwr_NoName, k5 := xwo_NoDay.kit fun z => absurd z xwr_NoDay, k6 := xwo_Taken.kit fun z => absurd z xwr_Taken, k7 := xwo_NoText.kit fun z => absurd z xwr_NoText, k8 := xwo_NoNote.kit fun _ => rfl, k9 := xwo_NoDeed.kit fun z => absurd z xwr_NoDeed, t0 := kit_typ (by decide +kernel) xwt_ZeroDivisionError, t1 := kit_typ (by decide +kernel) xwt_LookupError, t2 := kit_typ (by decide +kernel) xwt_ValueError, t3 := kit_typ (by decide +kernel) xwt_KeyError, t4 := kit_typ (by decide +kernel) xwt_IndexError, t5 := kit_typ (by decide +kernel) xwt_RuntimeError }
  have xwXA := any_exm (K := K) (D := CW) (cs := [Value.ref C_NoCalendar, .ref CD, .ref C_NoDay, .ref CZ, .ref C_NoName, .ref CW, .ref C_NoShare, .ref CN, .ref C_NoWheel, .ref C_Taken]) (by
    intro c hc
    simp only [List.mem_cons, List.not_mem_nil, or_false] at hc
    rcases hc with rfl | rfl | rfl | rfl | rfl | rfl | rfl | rfl | rfl | rfl
    · exact ⟨_, xwo_NoCalendar.exm⟩
    · exact ⟨_, xwo_NoDate.exm⟩
    · exact ⟨_, xwo_NoDay.exm⟩
    · exact ⟨_, xwo_NoDeed.exm⟩
    · exact ⟨_, xwo_NoName.exm⟩
    · exact ⟨_, xwo_NoNote.exm⟩
    · exact ⟨_, xwo_NoShare.exm⟩
    · exact ⟨_, xwo_NoText.exm⟩
    · exact ⟨_, xwo_NoWheel.exm⟩
    · exact ⟨_, xwo_Taken.exm⟩) (c := .ref CW) (by simp) xwo_NoNote.exm
  have xzKD : KdF K mg CZ false false false false false false false false false true false false false false false true C_NoShare C_NoCalendar CD C_NoWheel C_NoName C_NoDay C_Taken CN CW CZ :=
    { xc := xzxc, m0 := xzo_NoShare.m, m1 := xzo_NoCalendar.m, m2 := xzo_NoDate.m, m3 := xzo_NoWheel.m, m4 := xzo_NoName.m, m5 := xzo_NoDay.m, m6 := xzo_Taken.m, m7 := xzo_NoText.m, m8 := xzo_NoNote.m, m9 := xzo_NoDeed.m, k0 := xzo_NoShare.kit fun z => absurd z xzr_NoShare, k1 := xzo_NoCalendar.kit fun z => absurd z xzr_NoCalendar, k2 := xzo_NoDate.kit fun z => absurd z xzr_NoDate, k3 := xzo_NoWheel.kit fun z => absurd z xzr_NoWheel, k4 := xzo_NoName.kit fun z => absurd z xzr_NoName, k5 := xzo_NoDay.kit fun z => absurd z xzr_NoDay, k6 := xzo_Taken.kit fun z => absurd z xzr_Taken, k7 := xzo_NoText.kit fun z => absurd z xzr_NoText, k8 := xzo_NoNote.kit fun z => absurd z xzr_NoNote, k9 := xzo_NoDeed.kit fun _ => rfl, t0 := kit_typ (by decide +kernel) xzt_ZeroDivisionError, t1 := kit_typ (by decide +kernel) xzt_LookupError, t2 := kit_typ (by decide +kernel) xzt_ValueError, t3 := kit_typ (by decide +kernel) xzt_KeyError, t4 := kit_typ (by decide +kernel) xzt_IndexError, t5 := kit_typ (by decide +kernel) xzt_RuntimeError }
  have xzXA := any_exm (K := K) (D := CZ) (cs := [Value.ref C_NoCalendar, .ref CD, .ref C_NoDay, .ref CZ, .ref C_NoName, .ref CW, .ref C_NoShare, .ref CN, .ref C_NoWheel, .ref C_Taken]) (by
    intro c hc
    simp only [List.mem_cons, List.not_mem_nil, or_false] at hc
    rcases hc with rfl | rfl | rfl | rfl | rfl | rfl | rfl | rfl | rfl | rfl
    · exact ⟨_, xzo_NoCalendar.exm⟩
    · exact ⟨_, xzo_NoDate.exm⟩
    · exact ⟨_, xzo_NoDay.exm⟩
    · exact ⟨_, xzo_NoDeed.exm⟩
    · exact ⟨_, xzo_NoName.exm⟩
    · exact ⟨_, xzo_NoNote.exm⟩
    · exact ⟨_, xzo_NoShare.exm⟩
    · exact ⟨_, xzo_NoText.exm⟩
    · exact ⟨_, xzo_NoWheel.exm⟩
    · exact ⟨_, xzo_Taken.exm⟩) (c := .ref CZ) (by simp) xzo_NoDeed.exm
  obtain ⟨tF, eF⟩ := rF
  have hF : mg "FIGURES" = some (.str FIG tF) := by rw [aF, eF]
  have nu := ok_num (P := P) (w := w) (base := base) d_numeral hF g_abs g_reversed
  have ni := ok_ninG (P := P) (w := w) (base := base) d_number_in hF
  have Td : DaT K Cd := ⟨cld, e1, e2, e3, e4, fun H a dx fs e => .base (.ins e cld had hn htk hmd)⟩
  have dI := ok_daI (P := P) (w := w) (base := base) dDate Td
  have tw' := ok_twoF d_two_figures nu
  have os := ok_oddS (P := P) (w := w) (base := base) d_odd_sign
  have dS := ok_daS dDateStr Td nu tw' os
  have NS : NtT K mg CN := ⟨xtox, xtno_at, tvV, g_ValueError, xto_NoText.m⟩
  have ND : NdT K mg CD := ⟨xdox, xdno_date, xdno_why, dvV, g_LookupError, xdo_NoDate.m⟩
  have NW : NwT K mg CW := ⟨xwox, xwno_at, wvV, g_IndexError, xwo_NoNote.m⟩
  have NZ : NzT K mg CZ := ⟨xzox, zvV, g_RuntimeError, xzo_NoDeed.m⟩
  have ns := ok_nt (P := P) (w := w) (base := base) xtdEx NS
  have nd := ok_nd (P := P) (w := w) (base := base) xddEx ND
  have nw := ok_nw (P := P) (w := w) (base := base) xwdEx NW
  have nz := ok_nz (P := P) (w := w) (base := base) xzdEx NZ
  have T4 : Kd4 K mg CN CD CW CZ C_NoShare C_NoCalendar C_NoWheel C_NoName C_NoDay C_Taken := ⟨xtKD, xdKD, xwKD, xzKD⟩
  have m4 := ok_month_with d_month_with Tc m2 m3
  have m5 := ok_mark_in d_mark_in Tc fr tw m1 m3
  have m6 := ok_name d_name_of m5 hMk
  have lk := ok_lmark d_l_mark_day fl pl by'
  have lma := ok_lma d_l_month_at pl ls
  have lmi := ok_lmi d_l_mark_in pl ls lk
  have lnm := ok_lname d_l_name lmi
  have lda := ok_ldate d_l_date lma lnm ls
  have cal' := ok_lcal d_l_cal nx f2 cal
  have rd := ok_rd d_read_date NS ns Td g_str ni dI dS
  have dof := ok_date_of d_date_of m2 m6 m1 dI
  have das := ok_daysof d_days_of m1
  have pm := ok_plain d_plain_month m4 hMk
  have om := ok_oddm d_odd_month pm m5
  have di := ok_dayin d_day_in m1
  have mof := ok_monthof d_month_of Td ND nd pm om hMk
  have dyo := ok_dayof d_day_of Td ND nd mof das di
  have yw := ok_yw d_year_with m2 m6
  have lmw := ok_lmw d_l_month_with lma lk
  have lln := ok_llen d_l_long ls
  have Tv : DvT K Cv := ⟨clv, dv1, dv2, dv3⟩
  have vI := ok_dvI (P := P) (w := w) (base := base) dDiary Tv
  have vT := ok_tx (P := P) (w := w) (mg := mg) (base := base) (C := C) (Cc := Cc) dvTx Tv
  have vR := ok_rm dvRm Tv vT
  have vD := ok_dw dvDw Tv rd dyo
  have vN := ok_no dvNo Tv vD vT vR
  have vS := ok_skX dvSk Tv NW nw vD vT vR g_len
  have vM := ok_mvX dvMo vD vT vR
  have vO := ok_on dvOn vD vT g_list
  have vU := ok_un (C := C) (Cc := Cc) dvUn Tv NZ nz g_len
  have vA := ok_ia (P := P) (w := w) (mg := mg) (base := base) (C := C) (Cc := Cc) dvIa Tv g_sum g_len
  have vY := ok_nd82 dvNd Tv yw g_sorted g_list g_len g_str dof dS vT
  have kd := ok_kinds82 (P := P) (w := w) (base := base) d_l_kinds T4 g_isinstance
  have ltx := ok_ltx82 (P := P) (w := w) (base := base) d_l_text g_int g_str
  have dtt := ok_dtT d_l_date_text lda g_int g_str
  have wy := ok_lwy d_l_why lmw lmi lln g_int
  have dw := ok_ldrw d_l_drawn nx lda ltx
  have du := ok_ldu d_l_due g_int wy
  have ask := ok_lask82 d_l_ask vN vS vM vO vU
  have asd := ok_lasked82 d_l_asked T4 Td hDate xtXA xdXA xwXA xzXA xtno_at xwno_at xdno_date xdno_why g_isinstance g_ValueError g_LookupError g_IndexError g_RuntimeError g_int ask kd
  have lks := ok_llk82 d_l_looks g_range g_sorted g_set lda dtt vO vA vY
  have ft := ok_lft82 d_l_fault nx g_int g_len dw du dtt vO asd
  have rg := ok_lright d_l_right fo nx g_range g_len vI cal' lks dtt vN vU ft asd
  exact ok_law d_law dr rg
theorem walk {l : PySem.W.OpenLaw} {q : Program} {loose : List Str} {XP : (Str → Option Value) → Heap → Prop} {YP : World → Heap → Prop} {d : DefRec} {K : Params → PySem.W.Frag} (hn : l.most = some 63) (hdf : d.params.defaults = [])
    (hY : ∀ (w : World) (h : Heap), YP w h → (K w.params).In h)
    (F : ∀ (w : World) (mg : Str → Option Value) (fa : Addr) (h : Heap), (K w.params).In h → h.Ns mainGlobals mg → mg d.name = some (.ref fa) →
      ∃ fd : FuncData, (∀ (s : Shared) (u : Value), BindsTo s fd ⟨[u], []⟩ [("_law_script", u)]) ∧ ∀ base : Heap, (K w.params).In base → base.Ns mainGlobals mg → FnOk l.prog w (K w.params) mg base CX0 19 fa fd ["_law_script"] (spLaw (K w.params))) :
    PySem.W.WalkO q loose XP YP l.row.toRowW d [] (fun f vs => PySem.call f vs) :=
  L2.walk_of (n := 63) (k := 19) (x := "_law_script") (CX := fun _ => CX0) (sp := fun w => spLaw (K w.params)) hn (by decide) hdf ⟨rfl, by decide, by decide⟩ hY F (fun _ _ a ns hl _ hS => ⟨a, ns, rfl, hS, hl, fun _ => rfl⟩) fun _ _ _ _ _ z => z
end MM
namespace MM
open PySem PySem.Spec PyProof.Rows L2
/-! ### a small head -/
abbrev Rw : PySem.W.OpenRow := PySem.W.OpenLaw.row PySem.Challenge.rw_meanmoon_k82_diaries_refuse
def names0 : List Str := ["__name__", "NoShare", "NoCalendar", "NoDate", "NoWheel", "NoName", "NoDay", "Taken", "NoText", "NoNote", "NoDeed", "FIGURES", "numeral", "Share", "common_divisor", "as_share", "plus", "minus", "times", "over", "before", "whole", "rounded_up", "MARKS", "Calendar", "refuse_unfit", "moment_or_nought", "twelfth", "nth_day", "first_from"]
def names1 : List Str := ["kept_form", "least_alike", "days_of", "Date", "two_figures", "odd_sign", "plain_month", "odd_month", "month_of", "date_of", "day_of", "day_in", "number_in", "read_date", "year_with", "Diary", "_law_draws", "_law_next", "_law_low", "_law_plus", "_law_by", "_law_part", "_law_moment", "_law_four", "_law_floor", "_law_start", "_law_mark_day", "_law_month_at", "_law_mark_in", "_law_name"]
def names2 : List Str := ["_law_date", "_law_cal", "_law_month_with", "_law_long", "_law_kinds", "_law_date_text", "_law_text", "_law_why", "_law_drawn", "_law_due", "_law_ask", "_law_asked", "_law_looks", "_law_fault", "_law_right"]
def namesA : List Str := names0 ++ names1 ++ names2
def chk1 (K : PySem.W.Frag) : List Bool := [
  PySem.W.plainGet K (He.ga K "Share") Str.empty,
  PySem.W.hasDictIn K (He.ga K "Share"),
  PySem.W.plainOver K (He.ga K "Share"),
  decide (PySem.W.findIn K (.ref (He.ga K "Share")) "__setattr__" = some (some (.builtin "object.__setattr__"))),
  decide (PySem.W.findIn K (.ref (He.ga K "Share")) "top" = some none),
  decide (PySem.W.findIn K (.ref (He.ga K "Share")) "bottom" = some none),
  decide (PySem.W.findIn K (.ref (He.ga K "Share")) "__class__" = some (some (.builtin "object.__class__"))),
  decide (PySem.W.specialIn K (.builtin "object.__class__") "__get__" = some (some (.builtin "getset_descriptor.__get__"))),
  decide (PySem.W.takesIn K (.builtin "object.__class__") = some true),
  decide (PySem.W.mroIn K (He.ga K "Share") (.type "object") = some true),
  PySem.W.isClsIn K (He.ga K "Share"),
  decide (PySem.W.typeIn K (.ref (He.ga K "Share")) = some (.type "type")),
  decide (PySem.W.subIn K (.type "int") (.ref (He.ga K "Share")) = some false),
  decide (PySem.W.nsIn K mainGlobals "Share" = some (some (.ref (He.ga K "Share")))),
  decide (PySem.W.findIn K (.ref (He.ga K "Share")) "__init__" = some (some (.ref (He.fAd K ("Share", some "__init__"))))),
  PySem.W.isFn K (.ref (He.fAd K ("Share", some "__init__"))),
  PySem.W.makesIn K (He.ga K "Share"),
  PySem.W.keepIn K (.ref (He.ga K "Share")),
  PySem.W.plainGet K (He.ga K "Calendar") Str.empty,
  PySem.W.hasDictIn K (He.ga K "Calendar"),
  PySem.W.plainOver K (He.ga K "Calendar"),
  decide (PySem.W.findIn K (.ref (He.ga K "Calendar")) "__setattr__" = some (some (.builtin "object.__setattr__"))),
  decide (PySem.W.findIn K (.ref (He.ga K "Calendar")) "month" = some none),
  decide (PySem.W.findIn K (.ref (He.ga K "Calendar")) "year" = some none),
  decide (PySem.W.findIn K (.ref (He.ga K "Calendar")) "moon" = some none),
  decide (PySem.W.findIn K (.ref (He.ga K "Calendar")) "mark" = some none),
  decide ((He.ga K "Calendar") ≠ (He.ga K "Share")),
  (He.Fa.int "MARKS" 12).ok K,
  decide (PySem.W.nsIn K mainGlobals "Calendar" = some (some (.ref (He.ga K "Calendar")))),
  decide (PySem.W.findIn K (.ref (He.ga K "Calendar")) "__init__" = some (some (.ref (He.fAd K ("Calendar", some "__init__"))))),
  PySem.W.isFn K (.ref (He.fAd K ("Calendar", some "__init__"))),
  PySem.W.makesIn K (He.ga K "Calendar"),
  PySem.W.keepIn K (.ref (He.ga K "Calendar")),
  PySem.W.plainGet K (He.ga K "Date") Str.empty,
  PySem.W.hasDictIn K (He.ga K "Date"),
  PySem.W.plainOver K (He.ga K "Date"),
  decide (PySem.W.findIn K (.ref (He.ga K "Date")) "__setattr__" = some (some (.builtin "object.__setattr__"))),
  decide (PySem.W.findIn K (.ref (He.ga K "Date")) "year" = some none),
  decide (PySem.W.findIn K (.ref (He.ga K "Date")) "number" = some none),
  decide (PySem.W.findIn K (.ref (He.ga K "Date")) "day" = some none),
  decide (PySem.W.findIn K (.ref (He.ga K "Date")) "odd" = some none),
  decide (PySem.W.findIn K (.ref (He.ga K "Date")) "__class__" = some (some (.builtin "object.__class__"))),
  decide (PySem.W.mroIn K (He.ga K "Date") (.type "object") = some true),
  decide (PySem.W.nsIn K mainGlobals "Date" = some (some (.ref (He.ga K "Date")))),
  decide (PySem.W.findIn K (.ref (He.ga K "Date")) "__init__" = some (some (.ref (He.fAd K ("Date", some "__init__"))))),
  PySem.W.isFn K (.ref (He.fAd K ("Date", some "__init__"))),
  PySem.W.makesIn K (He.ga K "Date"),
  PySem.W.keepIn K (.ref (He.ga K "Date")),
  decide (PySem.W.findIn K (.ref (He.ga K "Date")) "__eq__" = some (some (.ref (He.fAd K ("Date", some "__eq__"))))),
  PySem.W.isFn K (.ref (He.fAd K ("Date", some "__eq__"))),
  decide (PySem.W.findIn K (.ref (He.ga K "Date")) "__str__" = some (some (.ref (He.fAd K ("Date", some "__str__"))))),
  PySem.W.isFn K (.ref (He.fAd K ("Date", some "__str__"))),
  PySem.W.plainGet K (He.ga K "Diary") Str.empty,
  PySem.W.hasDictIn K (He.ga K "Diary"),
  PySem.W.plainOver K (He.ga K "Diary"),
  decide (PySem.W.findIn K (.ref (He.ga K "Diary")) "__setattr__" = some (some (.builtin "object.__setattr__"))),
  decide (PySem.W.findIn K (.ref (He.ga K "Diary")) "calendar" = some none),
  decide (PySem.W.findIn K (.ref (He.ga K "Diary")) "kept" = some none),
  decide (PySem.W.findIn K (.ref (He.ga K "Diary")) "deeds" = some none),
  decide (PySem.W.nsIn K mainGlobals "Diary" = some (some (.ref (He.ga K "Diary")))),
  decide (PySem.W.findIn K (.ref (He.ga K "Diary")) "__init__" = some (some (.ref (He.fAd K ("Diary", some "__init__"))))),
  PySem.W.isFn K (.ref (He.fAd K ("Diary", some "__init__"))),
  PySem.W.makesIn K (He.ga K "Diary"),
  PySem.W.keepIn K (.ref (He.ga K "Diary")),
  decide (PySem.W.findIn K (.ref (He.ga K "Calendar")) "start" = some (some (.ref (He.fAd K ("Calendar", some "start"))))),
  PySem.W.isFn K (.ref (He.fAd K ("Calendar", some "start"))),
  decide (PySem.W.findIn K (.ref (He.ga K "Calendar")) "month_at" = some (some (.ref (He.fAd K ("Calendar", some "month_at"))))),
  PySem.W.isFn K (.ref (He.fAd K ("Calendar", some "month_at"))),
  decide (PySem.W.findIn K (.ref (He.ga K "Calendar")) "mark_day" = some (some (.ref (He.fAd K ("Calendar", some "mark_day"))))),
  PySem.W.isFn K (.ref (He.fAd K ("Calendar", some "mark_day"))),
  decide (PySem.W.findIn K (.ref (He.ga K "Calendar")) "month_with" = some (some (.ref (He.fAd K ("Calendar", some "month_with"))))),
  PySem.W.isFn K (.ref (He.fAd K ("Calendar", some "month_with"))),
  decide (PySem.W.findIn K (.ref (He.ga K "Calendar")) "mark_in" = some (some (.ref (He.fAd K ("Calendar", some "mark_in"))))),
  PySem.W.isFn K (.ref (He.fAd K ("Calendar", some "mark_in"))),
  decide (PySem.W.findIn K (.ref (He.ga K "Calendar")) "name_of" = some (some (.ref (He.fAd K ("Calendar", some "name_of"))))),
  PySem.W.isFn K (.ref (He.fAd K ("Calendar", some "name_of"))),
  decide (PySem.W.findIn K (.ref (He.ga K "Diary")) "note" = some (some (.ref (He.fAd K ("Diary", some "note"))))),
  PySem.W.isFn K (.ref (He.fAd K ("Diary", some "note"))),
  decide (PySem.W.findIn K (.ref (He.ga K "Diary")) "strike" = some (some (.ref (He.fAd K ("Diary", some "strike"))))),
  PySem.W.isFn K (.ref (He.fAd K ("Diary", some "strike"))),
  decide (PySem.W.findIn K (.ref (He.ga K "Diary")) "moved" = some (some (.ref (He.fAd K ("Diary", some "moved"))))),
  PySem.W.isFn K (.ref (He.fAd K ("Diary", some "moved"))),
  decide (PySem.W.findIn K (.ref (He.ga K "Diary")) "undo" = some (some (.ref (He.fAd K ("Diary", some "undo"))))),
  PySem.W.isFn K (.ref (He.fAd K ("Diary", some "undo"))),
  decide (PySem.W.findIn K (.ref (He.ga K "Diary")) "notes_on" = some (some (.ref (He.fAd K ("Diary", some "notes_on"))))),
  PySem.W.isFn K (.ref (He.fAd K ("Diary", some "notes_on"))),
  decide (PySem.W.findIn K (.ref (He.ga K "Diary")) "noted" = some (some (.ref (He.fAd K ("Diary", some "noted"))))),
  PySem.W.isFn K (.ref (He.fAd K ("Diary", some "noted"))),
  decide (PySem.W.findIn K (.ref (He.ga K "Diary")) "in_all" = some (some (.ref (He.fAd K ("Diary", some "in_all"))))),
  PySem.W.isFn K (.ref (He.fAd K ("Diary", some "in_all"))),
  decide (PySem.W.findIn K (.ref (He.ga K "Diary")) "day_written" = some (some (.ref (He.fAd K ("Diary", some "day_written"))))),
  PySem.W.isFn K (.ref (He.fAd K ("Diary", some "day_written"))),
  decide (PySem.W.findIn K (.ref (He.ga K "Diary")) "texts_of" = some (some (.ref (He.fAd K ("Diary", some "texts_of"))))),
  PySem.W.isFn K (.ref (He.fAd K ("Diary", some "texts_of"))),
  decide (PySem.W.findIn K (.ref (He.ga K "Diary")) "remember" = some (some (.ref (He.fAd K ("Diary", some "remember"))))),
  PySem.W.isFn K (.ref (He.fAd K ("Diary", some "remember"))),
  decide (PySem.W.nsIn K mainGlobals "NoShare" = some (some (.ref (He.ga K "NoShare")))),
  PySem.W.isClsIn K (He.ga K "NoShare"),
  decide (PySem.W.typeIn K (.ref (He.ga K "NoShare")) = some (.type "type")),
  decide (PySem.W.subIn K (.ref (He.ga K "NoShare")) (.type "BaseException") = some true),
  decide (PySem.W.subIn K (.ref (He.ga K "NoText")) (.ref (He.ga K "NoShare")) = some false),
  decide (PySem.W.nsIn K mainGlobals "NoCalendar" = some (some (.ref (He.ga K "NoCalendar")))),
  PySem.W.isClsIn K (He.ga K "NoCalendar"),
  decide (PySem.W.typeIn K (.ref (He.ga K "NoCalendar")) = some (.type "type")),
  decide (PySem.W.subIn K (.ref (He.ga K "NoCalendar")) (.type "BaseException") = some true),
  decide (PySem.W.subIn K (.ref (He.ga K "NoText")) (.ref (He.ga K "NoCalendar")) = some false),
  decide (PySem.W.nsIn K mainGlobals "NoDate" = some (some (.ref (He.ga K "NoDate")))),
  PySem.W.isClsIn K (He.ga K "NoDate"),
  decide (PySem.W.typeIn K (.ref (He.ga K "NoDate")) = some (.type "type")),
  decide (PySem.W.subIn K (.ref (He.ga K "NoDate")) (.type "BaseException") = some true),
  decide (PySem.W.subIn K (.ref (He.ga K "NoText")) (.ref (He.ga K "NoDate")) = some false),
  decide (PySem.W.nsIn K mainGlobals "NoWheel" = some (some (.ref (He.ga K "NoWheel")))),
  PySem.W.isClsIn K (He.ga K "NoWheel"),
  decide (PySem.W.typeIn K (.ref (He.ga K "NoWheel")) = some (.type "type")),
  decide (PySem.W.subIn K (.ref (He.ga K "NoWheel")) (.type "BaseException") = some true),
  decide (PySem.W.subIn K (.ref (He.ga K "NoText")) (.ref (He.ga K "NoWheel")) = some false),
  decide (PySem.W.nsIn K mainGlobals "NoName" = some (some (.ref (He.ga K "NoName")))),
  PySem.W.isClsIn K (He.ga K "NoName"),
  decide (PySem.W.typeIn K (.ref (He.ga K "NoName")) = some (.type "type")),
  decide (PySem.W.subIn K (.ref (He.ga K "NoName")) (.type "BaseException") = some true),
  decide (PySem.W.subIn K (.ref (He.ga K "NoText")) (.ref (He.ga K "NoName")) = some false),
  decide (PySem.W.nsIn K mainGlobals "NoDay" = some (some (.ref (He.ga K "NoDay")))),
  PySem.W.isClsIn K (He.ga K "NoDay"),
  decide (PySem.W.typeIn K (.ref (He.ga K "NoDay")) = some (.type "type")),
  decide (PySem.W.subIn K (.ref (He.ga K "NoDay")) (.type "BaseException") = some true),
  decide (PySem.W.subIn K (.ref (He.ga K "NoText")) (.ref (He.ga K "NoDay")) = some false),
  decide (PySem.W.nsIn K mainGlobals "Taken" = some (some (.ref (He.ga K "Taken")))),
  PySem.W.isClsIn K (He.ga K "Taken"),
  decide (PySem.W.typeIn K (.ref (He.ga K "Taken")) = some (.type "type")),
  decide (PySem.W.subIn K (.ref (He.ga K "Taken")) (.type "BaseException") = some true),
  decide (PySem.W.subIn K (.ref (He.ga K "NoText")) (.ref (He.ga K "Taken")) = some false),
  decide (PySem.W.nsIn K mainGlobals "NoText" = some (some (.ref (He.ga K "NoText")))),
  PySem.W.isClsIn K (He.ga K "NoText"),
  decide (PySem.W.typeIn K (.ref (He.ga K "NoText")) = some (.type "type")),
  decide (PySem.W.subIn K (.ref (He.ga K "NoText")) (.type "BaseException") = some true),
  decide (PySem.W.subIn K (.ref (He.ga K "NoText")) (.ref (He.ga K "NoText")) = some true),
  decide (PySem.W.nsIn K mainGlobals "NoNote" = some (some (.ref (He.ga K "NoNote")))),
  PySem.W.isClsIn K (He.ga K "NoNote"),
  decide (PySem.W.typeIn K (.ref (He.ga K "NoNote")) = some (.type "type")),
  decide (PySem.W.subIn K (.ref (He.ga K "NoNote")) (.type "BaseException") = some true),
  decide (PySem.W.subIn K (.ref (He.ga K "NoText")) (.ref (He.ga K "NoNote")) = some false),
  decide (PySem.W.nsIn K mainGlobals "NoDeed" = some (some (.ref (He.ga K "NoDeed")))),
  PySem.W.isClsIn K (He.ga K "NoDeed"),
  decide (PySem.W.typeIn K (.ref (He.ga K "NoDeed")) = some (.type "type")),
  decide (PySem.W.subIn K (.ref (He.ga K "NoDeed")) (.type "BaseException") = some true),
  decide (PySem.W.subIn K (.ref (He.ga K "NoText")) (.ref (He.ga K "NoDeed")) = some false),
  decide ((He.ga K "NoText") ≠ (He.ga K "NoShare")),
  decide ((He.ga K "NoText") ≠ (He.ga K "NoCalendar")),
  decide ((He.ga K "NoText") ≠ (He.ga K "NoDate")),
  decide ((He.ga K "NoText") ≠ (He.ga K "NoWheel")),
  decide ((He.ga K "NoText") ≠ (He.ga K "NoName")),
  decide ((He.ga K "NoText") ≠ (He.ga K "NoDay")),
  decide ((He.ga K "NoText") ≠ (He.ga K "Taken")),
  decide ((He.ga K "NoText") ≠ (He.ga K "NoNote")),
  decide ((He.ga K "NoText") ≠ (He.ga K "NoDeed")),
  decide (PySem.W.subIn K (.ref (He.ga K "NoText")) (.type "ZeroDivisionError") = some false),
  decide (PySem.W.subIn K (.ref (He.ga K "NoText")) (.type "LookupError") = some false),
  decide (PySem.W.subIn K (.ref (He.ga K "NoText")) (.type "ValueError") = some true),
  decide (PySem.W.subIn K (.ref (He.ga K "NoText")) (.type "KeyError") = some false),
  decide (PySem.W.subIn K (.ref (He.ga K "NoText")) (.type "IndexError") = some false),
  decide (PySem.W.subIn K (.ref (He.ga K "NoText")) (.type "RuntimeError") = some false),
  decide (PySem.W.findIn K (.ref (He.ga K "NoText")) "__getattribute__" = some (some (.builtin "BaseException.__getattribute__"))),
  decide (PySem.W.findIn K (.ref (He.ga K "NoText")) "__getattr__" = some none),
  PySem.W.hasDictIn K (He.ga K "NoText"),
  decide (PySem.W.findIn K (.ref (He.ga K "NoText")) "__class__" = some (some (.builtin "object.__class__"))),
  decide (PySem.W.mroIn K (He.ga K "NoText") (.type "object") = some true),
  MM.clsB K (He.ga K "NoText") bmV true "ValueError.__new__",
  decide (PySem.W.findIn K (.ref (He.ga K "NoText")) "__setattr__" = some (some (.builtin "object.__setattr__"))),
  PySem.W.keepIn K (.ref (He.ga K "NoText")),
  decide (PySem.W.findIn K (.ref (He.ga K "NoText")) "at" = some none),
  MM.valC (PySem.W.findCls K (.type "ValueError") (.type "type") "__init__") (.builtin "ValueError.__init__"),
  decide (PySem.W.findIn K (.ref (He.ga K "NoText")) "__init__" = some (some (.ref (He.fAd K ("NoText", some "__init__"))))),
  decide (PySem.W.typeIn K (.ref (He.fAd K ("NoText", some "__init__"))) = some (.type "function")),
  decide (PySem.W.subIn K (.ref (He.ga K "NoDate")) (.ref (He.ga K "NoShare")) = some false),
  decide (PySem.W.subIn K (.ref (He.ga K "NoDate")) (.ref (He.ga K "NoCalendar")) = some false),
  decide (PySem.W.subIn K (.ref (He.ga K "NoDate")) (.ref (He.ga K "NoDate")) = some true),
  decide (PySem.W.subIn K (.ref (He.ga K "NoDate")) (.ref (He.ga K "NoWheel")) = some false),
  decide (PySem.W.subIn K (.ref (He.ga K "NoDate")) (.ref (He.ga K "NoName")) = some false)]
def chk2 (K : PySem.W.Frag) : List Bool := [
  decide (PySem.W.subIn K (.ref (He.ga K "NoDate")) (.ref (He.ga K "NoDay")) = some false),
  decide (PySem.W.subIn K (.ref (He.ga K "NoDate")) (.ref (He.ga K "Taken")) = some false),
  decide (PySem.W.subIn K (.ref (He.ga K "NoDate")) (.ref (He.ga K "NoText")) = some false),
  decide (PySem.W.subIn K (.ref (He.ga K "NoDate")) (.ref (He.ga K "NoNote")) = some false),
  decide (PySem.W.subIn K (.ref (He.ga K "NoDate")) (.ref (He.ga K "NoDeed")) = some false),
  decide ((He.ga K "NoDate") ≠ (He.ga K "NoShare")),
  decide ((He.ga K "NoDate") ≠ (He.ga K "NoCalendar")),
  decide ((He.ga K "NoDate") ≠ (He.ga K "NoWheel")),
  decide ((He.ga K "NoDate") ≠ (He.ga K "NoName")),
  decide ((He.ga K "NoDate") ≠ (He.ga K "NoDay")),
  decide ((He.ga K "NoDate") ≠ (He.ga K "Taken")),
  decide ((He.ga K "NoDate") ≠ (He.ga K "NoText")),
  decide ((He.ga K "NoDate") ≠ (He.ga K "NoNote")),
  decide ((He.ga K "NoDate") ≠ (He.ga K "NoDeed")),
  decide (PySem.W.subIn K (.ref (He.ga K "NoDate")) (.type "ZeroDivisionError") = some false),
  decide (PySem.W.subIn K (.ref (He.ga K "NoDate")) (.type "LookupError") = some true),
  decide (PySem.W.subIn K (.ref (He.ga K "NoDate")) (.type "ValueError") = some false),
  decide (PySem.W.subIn K (.ref (He.ga K "NoDate")) (.type "KeyError") = some false),
  decide (PySem.W.subIn K (.ref (He.ga K "NoDate")) (.type "IndexError") = some false),
  decide (PySem.W.subIn K (.ref (He.ga K "NoDate")) (.type "RuntimeError") = some false),
  decide (PySem.W.findIn K (.ref (He.ga K "NoDate")) "__getattribute__" = some (some (.builtin "BaseException.__getattribute__"))),
  decide (PySem.W.findIn K (.ref (He.ga K "NoDate")) "__getattr__" = some none),
  PySem.W.hasDictIn K (He.ga K "NoDate"),
  decide (PySem.W.findIn K (.ref (He.ga K "NoDate")) "__class__" = some (some (.builtin "object.__class__"))),
  decide (PySem.W.mroIn K (He.ga K "NoDate") (.type "object") = some true),
  MM.clsB K (He.ga K "NoDate") bmL true "LookupError.__new__",
  decide (PySem.W.findIn K (.ref (He.ga K "NoDate")) "__setattr__" = some (some (.builtin "object.__setattr__"))),
  PySem.W.keepIn K (.ref (He.ga K "NoDate")),
  decide (PySem.W.findIn K (.ref (He.ga K "NoDate")) "date" = some none),
  decide (PySem.W.findIn K (.ref (He.ga K "NoDate")) "why" = some none),
  MM.valC (PySem.W.findCls K (.type "LookupError") (.type "type") "__init__") (.builtin "LookupError.__init__"),
  decide (PySem.W.findIn K (.ref (He.ga K "NoDate")) "__init__" = some (some (.ref (He.fAd K ("NoDate", some "__init__"))))),
  decide (PySem.W.typeIn K (.ref (He.fAd K ("NoDate", some "__init__"))) = some (.type "function")),
  decide (PySem.W.subIn K (.ref (He.ga K "NoNote")) (.ref (He.ga K "NoShare")) = some false),
  decide (PySem.W.subIn K (.ref (He.ga K "NoNote")) (.ref (He.ga K "NoCalendar")) = some false),
  decide (PySem.W.subIn K (.ref (He.ga K "NoNote")) (.ref (He.ga K "NoDate")) = some false),
  decide (PySem.W.subIn K (.ref (He.ga K "NoNote")) (.ref (He.ga K "NoWheel")) = some false),
  decide (PySem.W.subIn K (.ref (He.ga K "NoNote")) (.ref (He.ga K "NoName")) = some false),
  decide (PySem.W.subIn K (.ref (He.ga K "NoNote")) (.ref (He.ga K "NoDay")) = some false),
  decide (PySem.W.subIn K (.ref (He.ga K "NoNote")) (.ref (He.ga K "Taken")) = some false),
  decide (PySem.W.subIn K (.ref (He.ga K "NoNote")) (.ref (He.ga K "NoText")) = some false),
  decide (PySem.W.subIn K (.ref (He.ga K "NoNote")) (.ref (He.ga K "NoNote")) = some true),
  decide (PySem.W.subIn K (.ref (He.ga K "NoNote")) (.ref (He.ga K "NoDeed")) = some false),
  decide ((He.ga K "NoNote") ≠ (He.ga K "NoShare")),
  decide ((He.ga K "NoNote") ≠ (He.ga K "NoCalendar")),
  decide ((He.ga K "NoNote") ≠ (He.ga K "NoDate")),
  decide ((He.ga K "NoNote") ≠ (He.ga K "NoWheel")),
  decide ((He.ga K "NoNote") ≠ (He.ga K "NoName")),
  decide ((He.ga K "NoNote") ≠ (He.ga K "NoDay")),
  decide ((He.ga K "NoNote") ≠ (He.ga K "Taken")),
  decide ((He.ga K "NoNote") ≠ (He.ga K "NoText")),
  decide ((He.ga K "NoNote") ≠ (He.ga K "NoDeed")),
  decide (PySem.W.subIn K (.ref (He.ga K "NoNote")) (.type "ZeroDivisionError") = some false),
  decide (PySem.W.subIn K (.ref (He.ga K "NoNote")) (.type "LookupError") = some true),
  decide (PySem.W.subIn K (.ref (He.ga K "NoNote")) (.type "ValueError") = some false),
  decide (PySem.W.subIn K (.ref (He.ga K "NoNote")) (.type "KeyError") = some false),
  decide (PySem.W.subIn K (.ref (He.ga K "NoNote")) (.type "IndexError") = some true),
  decide (PySem.W.subIn K (.ref (He.ga K "NoNote")) (.type "RuntimeError") = some false),
  decide (PySem.W.findIn K (.ref (He.ga K "NoNote")) "__getattribute__" = some (some (.builtin "BaseException.__getattribute__"))),
  decide (PySem.W.findIn K (.ref (He.ga K "NoNote")) "__getattr__" = some none),
  PySem.W.hasDictIn K (He.ga K "NoNote"),
  decide (PySem.W.findIn K (.ref (He.ga K "NoNote")) "__class__" = some (some (.builtin "object.__class__"))),
  decide (PySem.W.mroIn K (He.ga K "NoNote") (.type "object") = some true),
  MM.clsB K (He.ga K "NoNote") bmI true "IndexError.__new__",
  decide (PySem.W.findIn K (.ref (He.ga K "NoNote")) "__setattr__" = some (some (.builtin "object.__setattr__"))),
  PySem.W.keepIn K (.ref (He.ga K "NoNote")),
  decide (PySem.W.findIn K (.ref (He.ga K "NoNote")) "at" = some none),
  MM.valC (PySem.W.findCls K (.type "IndexError") (.type "type") "__init__") (.builtin "IndexError.__init__"),
  decide (PySem.W.findIn K (.ref (He.ga K "NoNote")) "__init__" = some (some (.ref (He.fAd K ("NoNote", some "__init__"))))),
  decide (PySem.W.typeIn K (.ref (He.fAd K ("NoNote", some "__init__"))) = some (.type "function")),
  decide (PySem.W.subIn K (.ref (He.ga K "NoDeed")) (.ref (He.ga K "NoShare")) = some false),
  decide (PySem.W.subIn K (.ref (He.ga K "NoDeed")) (.ref (He.ga K "NoCalendar")) = some false),
  decide (PySem.W.subIn K (.ref (He.ga K "NoDeed")) (.ref (He.ga K "NoDate")) = some false),
  decide (PySem.W.subIn K (.ref (He.ga K "NoDeed")) (.ref (He.ga K "NoWheel")) = some false),
  decide (PySem.W.subIn K (.ref (He.ga K "NoDeed")) (.ref (He.ga K "NoName")) = some false),
  decide (PySem.W.subIn K (.ref (He.ga K "NoDeed")) (.ref (He.ga K "NoDay")) = some false),
  decide (PySem.W.subIn K (.ref (He.ga K "NoDeed")) (.ref (He.ga K "Taken")) = some false),
  decide (PySem.W.subIn K (.ref (He.ga K "NoDeed")) (.ref (He.ga K "NoText")) = some false),
  decide (PySem.W.subIn K (.ref (He.ga K "NoDeed")) (.ref (He.ga K "NoNote")) = some false),
  decide (PySem.W.subIn K (.ref (He.ga K "NoDeed")) (.ref (He.ga K "NoDeed")) = some true),
  decide ((He.ga K "NoDeed") ≠ (He.ga K "NoShare")),
  decide ((He.ga K "NoDeed") ≠ (He.ga K "NoCalendar")),
  decide ((He.ga K "NoDeed") ≠ (He.ga K "NoDate")),
  decide ((He.ga K "NoDeed") ≠ (He.ga K "NoWheel")),
  decide ((He.ga K "NoDeed") ≠ (He.ga K "NoName")),
  decide ((He.ga K "NoDeed") ≠ (He.ga K "NoDay")),
  decide ((He.ga K "NoDeed") ≠ (He.ga K "Taken")),
  decide ((He.ga K "NoDeed") ≠ (He.ga K "NoText")),
  decide ((He.ga K "NoDeed") ≠ (He.ga K "NoNote")),
  decide (PySem.W.subIn K (.ref (He.ga K "NoDeed")) (.type "ZeroDivisionError") = some false),
  decide (PySem.W.subIn K (.ref (He.ga K "NoDeed")) (.type "LookupError") = some false),
  decide (PySem.W.subIn K (.ref (He.ga K "NoDeed")) (.type "ValueError") = some false),
  decide (PySem.W.subIn K (.ref (He.ga K "NoDeed")) (.type "KeyError") = some false),
  decide (PySem.W.subIn K (.ref (He.ga K "NoDeed")) (.type "IndexError") = some false),
  decide (PySem.W.subIn K (.ref (He.ga K "NoDeed")) (.type "RuntimeError") = some true),
  decide (PySem.W.findIn K (.ref (He.ga K "NoDeed")) "__getattribute__" = some (some (.builtin "BaseException.__getattribute__"))),
  decide (PySem.W.findIn K (.ref (He.ga K "NoDeed")) "__getattr__" = some none),
  PySem.W.hasDictIn K (He.ga K "NoDeed"),
  decide (PySem.W.findIn K (.ref (He.ga K "NoDeed")) "__class__" = some (some (.builtin "object.__class__"))),
  decide (PySem.W.mroIn K (He.ga K "NoDeed") (.type "object") = some true),
  MM.clsB K (He.ga K "NoDeed") bmR true "RuntimeError.__new__",
  decide (PySem.W.findIn K (.ref (He.ga K "NoDeed")) "__setattr__" = some (some (.builtin "object.__setattr__"))),
  PySem.W.keepIn K (.ref (He.ga K "NoDeed")),
  MM.valC (PySem.W.findCls K (.type "RuntimeError") (.type "type") "__init__") (.builtin "RuntimeError.__init__"),
  decide (PySem.W.findIn K (.ref (He.ga K "NoDeed")) "__init__" = some (some (.ref (He.fAd K ("NoDeed", some "__init__"))))),
  decide (PySem.W.typeIn K (.ref (He.fAd K ("NoDeed", some "__init__"))) = some (.type "function")),
  (He.Fa.str "FIGURES" FIG).ok K,
  decide (PySem.W.nsIn K mainGlobals "abs" = some none),
  decide (PySem.W.nsIn K mainGlobals "range" = some none),
  decide (PySem.W.nsIn K mainGlobals "isinstance" = some none),
  decide (PySem.W.nsIn K mainGlobals "int" = some none),
  decide (PySem.W.nsIn K mainGlobals "str" = some none),
  decide (PySem.W.nsIn K mainGlobals "len" = some none),
  decide (PySem.W.nsIn K mainGlobals "list" = some none),
  decide (PySem.W.nsIn K mainGlobals "sorted" = some none),
  decide (PySem.W.nsIn K mainGlobals "set" = some none),
  decide (PySem.W.nsIn K mainGlobals "sum" = some none),
  decide (PySem.W.nsIn K mainGlobals "reversed" = some none),
  decide (PySem.W.nsIn K mainGlobals "ValueError" = some none),
  decide (PySem.W.nsIn K mainGlobals "LookupError" = some none),
  decide (PySem.W.nsIn K mainGlobals "IndexError" = some none),
  decide (PySem.W.nsIn K mainGlobals "RuntimeError" = some none),
  decide (PySem.W.nsIn K mainGlobals "numeral" = some (some (.ref (He.fAd K ("numeral", none))))),
  decide (PySem.W.nsIn K mainGlobals "number_in" = some (some (.ref (He.fAd K ("number_in", none))))),
  decide (PySem.W.nsIn K mainGlobals "common_divisor" = some (some (.ref (He.fAd K ("common_divisor", none))))),
  decide (PySem.W.nsIn K mainGlobals "as_share" = some (some (.ref (He.fAd K ("as_share", none))))),
  decide (PySem.W.nsIn K mainGlobals "plus" = some (some (.ref (He.fAd K ("plus", none))))),
  decide (PySem.W.nsIn K mainGlobals "minus" = some (some (.ref (He.fAd K ("minus", none))))),
  decide (PySem.W.nsIn K mainGlobals "times" = some (some (.ref (He.fAd K ("times", none))))),
  decide (PySem.W.nsIn K mainGlobals "over" = some (some (.ref (He.fAd K ("over", none))))),
  decide (PySem.W.nsIn K mainGlobals "before" = some (some (.ref (He.fAd K ("before", none))))),
  decide (PySem.W.nsIn K mainGlobals "whole" = some (some (.ref (He.fAd K ("whole", none))))),
  decide (PySem.W.nsIn K mainGlobals "rounded_up" = some (some (.ref (He.fAd K ("rounded_up", none))))),
  decide (PySem.W.nsIn K mainGlobals "refuse_unfit" = some (some (.ref (He.fAd K ("refuse_unfit", none))))),
  decide (PySem.W.nsIn K mainGlobals "moment_or_nought" = some (some (.ref (He.fAd K ("moment_or_nought", none))))),
  decide (PySem.W.nsIn K mainGlobals "twelfth" = some (some (.ref (He.fAd K ("twelfth", none))))),
  decide (PySem.W.nsIn K mainGlobals "nth_day" = some (some (.ref (He.fAd K ("nth_day", none))))),
  decide (PySem.W.nsIn K mainGlobals "first_from" = some (some (.ref (He.fAd K ("first_from", none))))),
  decide (PySem.W.nsIn K mainGlobals "two_figures" = some (some (.ref (He.fAd K ("two_figures", none))))),
  decide (PySem.W.nsIn K mainGlobals "odd_sign" = some (some (.ref (He.fAd K ("odd_sign", none))))),
  decide (PySem.W.nsIn K mainGlobals "read_date" = some (some (.ref (He.fAd K ("read_date", none))))),
  decide (PySem.W.nsIn K mainGlobals "days_of" = some (some (.ref (He.fAd K ("days_of", none))))),
  decide (PySem.W.nsIn K mainGlobals "plain_month" = some (some (.ref (He.fAd K ("plain_month", none))))),
  decide (PySem.W.nsIn K mainGlobals "odd_month" = some (some (.ref (He.fAd K ("odd_month", none))))),
  decide (PySem.W.nsIn K mainGlobals "month_of" = some (some (.ref (He.fAd K ("month_of", none))))),
  decide (PySem.W.nsIn K mainGlobals "date_of" = some (some (.ref (He.fAd K ("date_of", none))))),
  decide (PySem.W.nsIn K mainGlobals "day_of" = some (some (.ref (He.fAd K ("day_of", none))))),
  decide (PySem.W.nsIn K mainGlobals "day_in" = some (some (.ref (He.fAd K ("day_in", none))))),
  decide (PySem.W.nsIn K mainGlobals "year_with" = some (some (.ref (He.fAd K ("year_with", none))))),
  decide (PySem.W.nsIn K mainGlobals "_law_draws" = some (some (.ref (He.fAd K ("_law_draws", none))))),
  decide (PySem.W.nsIn K mainGlobals "_law_next" = some (some (.ref (He.fAd K ("_law_next", none))))),
  decide (PySem.W.nsIn K mainGlobals "_law_low" = some (some (.ref (He.fAd K ("_law_low", none))))),
  decide (PySem.W.nsIn K mainGlobals "_law_plus" = some (some (.ref (He.fAd K ("_law_plus", none))))),
  decide (PySem.W.nsIn K mainGlobals "_law_by" = some (some (.ref (He.fAd K ("_law_by", none))))),
  decide (PySem.W.nsIn K mainGlobals "_law_part" = some (some (.ref (He.fAd K ("_law_part", none))))),
  decide (PySem.W.nsIn K mainGlobals "_law_moment" = some (some (.ref (He.fAd K ("_law_moment", none))))),
  decide (PySem.W.nsIn K mainGlobals "_law_four" = some (some (.ref (He.fAd K ("_law_four", none))))),
  decide (PySem.W.nsIn K mainGlobals "_law_floor" = some (some (.ref (He.fAd K ("_law_floor", none))))),
  decide (PySem.W.nsIn K mainGlobals "_law_start" = some (some (.ref (He.fAd K ("_law_start", none))))),
  decide (PySem.W.nsIn K mainGlobals "_law_mark_day" = some (some (.ref (He.fAd K ("_law_mark_day", none))))),
  decide (PySem.W.nsIn K mainGlobals "_law_month_at" = some (some (.ref (He.fAd K ("_law_month_at", none))))),
  decide (PySem.W.nsIn K mainGlobals "_law_mark_in" = some (some (.ref (He.fAd K ("_law_mark_in", none))))),
  decide (PySem.W.nsIn K mainGlobals "_law_name" = some (some (.ref (He.fAd K ("_law_name", none))))),
  decide (PySem.W.nsIn K mainGlobals "_law_date" = some (some (.ref (He.fAd K ("_law_date", none))))),
  decide (PySem.W.nsIn K mainGlobals "_law_cal" = some (some (.ref (He.fAd K ("_law_cal", none))))),
  decide (PySem.W.nsIn K mainGlobals "_law_month_with" = some (some (.ref (He.fAd K ("_law_month_with", none))))),
  decide (PySem.W.nsIn K mainGlobals "_law_long" = some (some (.ref (He.fAd K ("_law_long", none))))),
  decide (PySem.W.nsIn K mainGlobals "_law_kinds" = some (some (.ref (He.fAd K ("_law_kinds", none))))),
  decide (PySem.W.nsIn K mainGlobals "_law_date_text" = some (some (.ref (He.fAd K ("_law_date_text", none))))),
  decide (PySem.W.nsIn K mainGlobals "_law_text" = some (some (.ref (He.fAd K ("_law_text", none))))),
  decide (PySem.W.nsIn K mainGlobals "_law_why" = some (some (.ref (He.fAd K ("_law_why", none))))),
  decide (PySem.W.nsIn K mainGlobals "_law_drawn" = some (some (.ref (He.fAd K ("_law_drawn", none))))),
  decide (PySem.W.nsIn K mainGlobals "_law_due" = some (some (.ref (He.fAd K ("_law_due", none))))),
  decide (PySem.W.nsIn K mainGlobals "_law_ask" = some (some (.ref (He.fAd K ("_law_ask", none))))),
  decide (PySem.W.nsIn K mainGlobals "_law_asked" = some (some (.ref (He.fAd K ("_law_asked", none))))),
  decide (PySem.W.nsIn K mainGlobals "_law_looks" = some (some (.ref (He.fAd K ("_law_looks", none))))),
  decide (PySem.W.nsIn K mainGlobals "_law_fault" = some (some (.ref (He.fAd K ("_law_fault", none))))),
  decide (PySem.W.nsIn K mainGlobals "_law_right" = some (some (.ref (He.fAd K ("_law_right", none))))),
  decide (PySem.W.nsIn K mainGlobals "law" = some (some (.ref (He.fAd K ("law", none)))))]
def chk (K : PySem.W.Frag) : List Bool := chk1 K ++ chk2 K
def fn1 : List He.DefD := [
  ⟨("Share", some "__init__"), "__init__", "Share.__init__", defArgs s_Share_init, defBody s_Share_init, defScope s_Share_init, [.int 1], []⟩,
  ⟨("Calendar", some "__init__"), "__init__", "Calendar.__init__", defArgs s_Calendar_init, defBody s_Calendar_init, defScope s_Calendar_init, [.non, .non], []⟩,
  ⟨("Date", some "__init__"), "__init__", "Date.__init__", defArgs s_Date_init, defBody s_Date_init, defScope s_Date_init, [.bl false], []⟩,
  ⟨("Date", some "__eq__"), "__eq__", "Date.__eq__", defArgs s_Date_eq, defBody s_Date_eq, defScope s_Date_eq, [], []⟩,
  ⟨("Date", some "__str__"), "__str__", "Date.__str__", defArgs s_Date_str, defBody s_Date_str, defScope s_Date_str, [], []⟩,
  ⟨("Diary", some "__init__"), "__init__", "Diary.__init__", defArgs s_Diary_init, defBody s_Diary_init, defScope s_Diary_init, [], []⟩,
  ⟨("Calendar", some "start"), "start", "Calendar.start", defArgs s_Calendar_start, defBody s_Calendar_start, defScope s_Calendar_start, [], []⟩,
  ⟨("Calendar", some "month_at"), "month_at", "Calendar.month_at", defArgs s_Calendar_month_at, defBody s_Calendar_month_at, defScope s_Calendar_month_at, [], []⟩,
  ⟨("Calendar", some "mark_day"), "mark_day", "Calendar.mark_day", defArgs s_Calendar_mark_day, defBody s_Calendar_mark_day, defScope s_Calendar_mark_day, [], []⟩,
  ⟨("Calendar", some "month_with"), "month_with", "Calendar.month_with", defArgs s_Calendar_month_with, defBody s_Calendar_month_with, defScope s_Calendar_month_with, [], []⟩,
  ⟨("Calendar", some "mark_in"), "mark_in", "Calendar.mark_in", defArgs s_Calendar_mark_in, defBody s_Calendar_mark_in, defScope s_Calendar_mark_in, [], []⟩,
  ⟨("Calendar", some "name_of"), "name_of", "Calendar.name_of", defArgs s_Calendar_name_of, defBody s_Calendar_name_of, defScope s_Calendar_name_of, [], []⟩,
  ⟨("Diary", some "note"), "note", "Diary.note", defArgs s_Diary_note, defBody s_Diary_note, defScope s_Diary_note, [], []⟩,
  ⟨("Diary", some "strike"), "strike", "Diary.strike", defArgs s_Diary_strike, defBody s_Diary_strike, defScope s_Diary_strike, [], []⟩,
  ⟨("Diary", some "moved"), "moved", "Diary.moved", defArgs s_Diary_moved, defBody s_Diary_moved, defScope s_Diary_moved, [], []⟩,
  ⟨("Diary", some "undo"), "undo", "Diary.undo", defArgs s_Diary_undo, defBody s_Diary_undo, defScope s_Diary_undo, [], []⟩,
  ⟨("Diary", some "notes_on"), "notes_on", "Diary.notes_on", defArgs s_Diary_notes_on, defBody s_Diary_notes_on, defScope s_Diary_notes_on, [], []⟩,
  ⟨("Diary", some "noted"), "noted", "Diary.noted", defArgs s_Diary_noted, defBody s_Diary_noted, defScope s_Diary_noted, [], []⟩,
  ⟨("Diary", some "in_all"), "in_all", "Diary.in_all", defArgs s_Diary_in_all, defBody s_Diary_in_all, defScope s_Diary_in_all, [], []⟩,
  ⟨("Diary", some "day_written"), "day_written", "Diary.day_written", defArgs s_Diary_day_written, defBody s_Diary_day_written, defScope s_Diary_day_written, [], []⟩,
  ⟨("Diary", some "texts_of"), "texts_of", "Diary.texts_of", defArgs s_Diary_texts_of, defBody s_Diary_texts_of, defScope s_Diary_texts_of, [], []⟩,
  ⟨("Diary", some "remember"), "remember", "Diary.remember", defArgs s_Diary_remember, defBody s_Diary_remember, defScope s_Diary_remember, [], []⟩,
  ⟨("NoText", some "__init__"), "__init__", "NoText.__init__", defArgs s_NoText_init, defBody s_NoText_init, defScope s_NoText_init, [], []⟩,
  ⟨("NoDate", some "__init__"), "__init__", "NoDate.__init__", defArgs s_NoDate_init, defBody s_NoDate_init, defScope s_NoDate_init, [], []⟩,
  ⟨("NoNote", some "__init__"), "__init__", "NoNote.__init__", defArgs s_NoNote_init, defBody s_NoNote_init, defScope s_NoNote_init, [], []⟩,
  ⟨("NoDeed", some "__init__"), "__init__", "NoDeed.__init__", defArgs s_NoDeed_init, defBody s_NoDeed_init, defScope s_NoDeed_init, [], []⟩,
  ⟨("numeral", none), "numeral", "numeral", defArgs s_numeral, defBody s_numeral, defScope s_numeral, [.int 10], []⟩,
  ⟨("number_in", none), "number_in", "number_in", defArgs s_number_in, defBody s_number_in, defScope s_number_in, [.int 10], []⟩,
  ⟨("common_divisor", none), "common_divisor", "common_divisor", defArgs s_common_divisor, defBody s_common_divisor, defScope s_common_divisor, [], []⟩,
  ⟨("as_share", none), "as_share", "as_share", defArgs s_as_share, defBody s_as_share, defScope s_as_share, [], []⟩,
  ⟨("plus", none), "plus", "plus", defArgs s_plus, defBody s_plus, defScope s_plus, [], []⟩,
  ⟨("minus", none), "minus", "minus", defArgs s_minus, defBody s_minus, defScope s_minus, [], []⟩,
  ⟨("times", none), "times", "times", defArgs s_times, defBody s_times, defScope s_times, [], []⟩,
  ⟨("over", none), "over", "over", defArgs s_over, defBody s_over, defScope s_over, [], []⟩,
  ⟨("before", none), "before", "before", defArgs s_before, defBody s_before, defScope s_before, [], []⟩,
  ⟨("whole", none), "whole", "whole", defArgs s_whole, defBody s_whole, defScope s_whole, [], []⟩,
  ⟨("rounded_up", none), "rounded_up", "rounded_up", defArgs s_rounded_up, defBody s_rounded_up, defScope s_rounded_up, [], []⟩,
  ⟨("refuse_unfit", none), "refuse_unfit", "refuse_unfit", defArgs s_refuse_unfit, defBody s_refuse_unfit, defScope s_refuse_unfit, [], []⟩,
  ⟨("moment_or_nought", none), "moment_or_nought", "moment_or_nought", defArgs s_moment_or_nought, defBody s_moment_or_nought, defScope s_moment_or_nought, [], []⟩,
  ⟨("twelfth", none), "twelfth", "twelfth", defArgs s_twelfth, defBody s_twelfth, defScope s_twelfth, [], []⟩,
  ⟨("nth_day", none), "nth_day", "nth_day", defArgs s_nth_day, defBody s_nth_day, defScope s_nth_day, [], []⟩]
def fn2 : List He.DefD := [
  ⟨("first_from", none), "first_from", "first_from", defArgs s_first_from, defBody s_first_from, defScope s_first_from, [], []⟩,
  ⟨("two_figures", none), "two_figures", "two_figures", defArgs s_two_figures, defBody s_two_figures, defScope s_two_figures, [], []⟩,
  ⟨("odd_sign", none), "odd_sign", "odd_sign", defArgs s_odd_sign, defBody s_odd_sign, defScope s_odd_sign, [], []⟩,
  ⟨("read_date", none), "read_date", "read_date", defArgs s_read_date, defBody s_read_date, defScope s_read_date, [], []⟩,
  ⟨("days_of", none), "days_of", "days_of", defArgs s_days_of, defBody s_days_of, defScope s_days_of, [], []⟩,
  ⟨("plain_month", none), "plain_month", "plain_month", defArgs s_plain_month, defBody s_plain_month, defScope s_plain_month, [], []⟩,
  ⟨("odd_month", none), "odd_month", "odd_month", defArgs s_odd_month, defBody s_odd_month, defScope s_odd_month, [], []⟩,
  ⟨("month_of", none), "month_of", "month_of", defArgs s_month_of, defBody s_month_of, defScope s_month_of, [], []⟩,
  ⟨("date_of", none), "date_of", "date_of", defArgs s_date_of, defBody s_date_of, defScope s_date_of, [], []⟩,
  ⟨("day_of", none), "day_of", "day_of", defArgs s_day_of, defBody s_day_of, defScope s_day_of, [], []⟩,
  ⟨("day_in", none), "day_in", "day_in", defArgs s_day_in, defBody s_day_in, defScope s_day_in, [], []⟩,
  ⟨("year_with", none), "year_with", "year_with", defArgs s_year_with, defBody s_year_with, defScope s_year_with, [], []⟩,
  ⟨("_law_draws", none), "_law_draws", "_law_draws", defArgs s_l_draws, defBody s_l_draws, defScope s_l_draws, [], []⟩,
  ⟨("_law_next", none), "_law_next", "_law_next", defArgs s_l_next, defBody s_l_next, defScope s_l_next, [], []⟩,
  ⟨("_law_low", none), "_law_low", "_law_low", defArgs s_l_low, defBody s_l_low, defScope s_l_low, [], []⟩,
  ⟨("_law_plus", none), "_law_plus", "_law_plus", defArgs s_l_plus, defBody s_l_plus, defScope s_l_plus, [], []⟩,
  ⟨("_law_by", none), "_law_by", "_law_by", defArgs s_l_by, defBody s_l_by, defScope s_l_by, [], []⟩,
  ⟨("_law_part", none), "_law_part", "_law_part", defArgs s_l_part, defBody s_l_part, defScope s_l_part, [], []⟩,
  ⟨("_law_moment", none), "_law_moment", "_law_moment", defArgs s_l_moment, defBody s_l_moment, defScope s_l_moment, [], []⟩,
  ⟨("_law_four", none), "_law_four", "_law_four", defArgs s_l_four, defBody s_l_four, defScope s_l_four, [], []⟩,
  ⟨("_law_floor", none), "_law_floor", "_law_floor", defArgs s_l_floor, defBody s_l_floor, defScope s_l_floor, [], []⟩,
  ⟨("_law_start", none), "_law_start", "_law_start", defArgs s_l_start, defBody s_l_start, defScope s_l_start, [], []⟩,
  ⟨("_law_mark_day", none), "_law_mark_day", "_law_mark_day", defArgs s_l_mark_day, defBody s_l_mark_day, defScope s_l_mark_day, [], []⟩,
  ⟨("_law_month_at", none), "_law_month_at", "_law_month_at", defArgs s_l_month_at, defBody s_l_month_at, defScope s_l_month_at, [], []⟩,
  ⟨("_law_mark_in", none), "_law_mark_in", "_law_mark_in", defArgs s_l_mark_in, defBody s_l_mark_in, defScope s_l_mark_in, [], []⟩,
  ⟨("_law_name", none), "_law_name", "_law_name", defArgs s_l_name, defBody s_l_name, defScope s_l_name, [], []⟩,
  ⟨("_law_date", none), "_law_date", "_law_date", defArgs s_l_date, defBody s_l_date, defScope s_l_date, [], []⟩,
  ⟨("_law_cal", none), "_law_cal", "_law_cal", defArgs s_l_cal, defBody s_l_cal, defScope s_l_cal, [], []⟩,
  ⟨("_law_month_with", none), "_law_month_with", "_law_month_with", defArgs s_l_month_with, defBody s_l_month_with, defScope s_l_month_with, [], []⟩,
  ⟨("_law_long", none), "_law_long", "_law_long", defArgs s_l_long, defBody s_l_long, defScope s_l_long, [], []⟩,
  ⟨("_law_kinds", none), "_law_kinds", "_law_kinds", defArgs s_l_kinds, defBody s_l_kinds, defScope s_l_kinds, [], []⟩,
  ⟨("_law_date_text", none), "_law_date_text", "_law_date_text", defArgs s_l_date_text, defBody s_l_date_text, defScope s_l_date_text, [], []⟩,
  ⟨("_law_text", none), "_law_text", "_law_text", defArgs s_l_text, defBody s_l_text, defScope s_l_text, [], []⟩,
  ⟨("_law_why", none), "_law_why", "_law_why", defArgs s_l_why, defBody s_l_why, defScope s_l_why, [], []⟩,
  ⟨("_law_drawn", none), "_law_drawn", "_law_drawn", defArgs s_l_drawn, defBody s_l_drawn, defScope s_l_drawn, [], []⟩,
  ⟨("_law_due", none), "_law_due", "_law_due", defArgs s_l_due, defBody s_l_due, defScope s_l_due, [], []⟩,
  ⟨("_law_ask", none), "_law_ask", "_law_ask", defArgs s_l_ask, defBody s_l_ask, defScope s_l_ask, [], []⟩,
  ⟨("_law_asked", none), "_law_asked", "_law_asked", defArgs s_l_asked, defBody s_l_asked, defScope s_l_asked, [], []⟩,
  ⟨("_law_looks", none), "_law_looks", "_law_looks", defArgs s_l_looks, defBody s_l_looks, defScope s_l_looks, [], []⟩,
  ⟨("_law_fault", none), "_law_fault", "_law_fault", defArgs s_l_fault, defBody s_l_fault, defScope s_l_fault, [], []⟩,
  ⟨("_law_right", none), "_law_right", "_law_right", defArgs s_l_right, defBody s_l_right, defScope s_l_right, [], []⟩,
  ⟨("law", none), "law", "law", defArgs s_law, defBody s_law, defScope s_law, [], []⟩]
def fnB : List He.DefD := fn1 ++ fn2
abbrev hk : PySem.W.Hook := hookB 1000 chk fnB
noncomputable def sT (w : World) (os : OsState) : Option PySem.W.SharedT := HandSHeadRun.endF (HandSHeadRun.stepQ (HandSHeadRun.denQ HandSHeadRun.tabQ) Rw.prog w) 9000 Rw.prog w os
def obC (c : PySem.W.Frag → List Bool) (s : PySem.W.SharedT) : Bool := (c (frB 1000 (HandSHeadRun.getT s))).all (fun b => b)
def obF (l : List He.DefD) (s : PySem.W.SharedT) : Bool × List He.FnW := (l.all fun d => d.ok (frB 1000 (HandSHeadRun.getT s)), l.map fun d => He.fnW (frB 1000 (HandSHeadRun.getT s)) d.at_)
def ob (s : PySem.W.SharedT) : AlB := (obC chk s, obF fnB s)
theorem ob_eq (s : PySem.W.SharedT) : ob s = hk.obs s.abs := obsB_eq (HandSHeadRun.getT_eq s)
set_option maxHeartbeats 0 in
theorem run0 (w : World) (os : OsState) : (sT w os).map (fun s => (HandSHeadRun.looksF Rw.prog (PySem.W.boot_heap w.params) s.abs, HandSHeadRun.seenQ (PySem.W.view Rw.prog [84]) namesA (importedModules Rw.prog.main.body) (fun s => PySem.W.xlAt (PySem.W.view Rw.prog [84]) [] s && PySem.W.recOk Rw.toRowW.records s) s.abs)) = some (true, PySem.W.openGood (PySem.W.view Rw.prog [84]) namesA) := by
  kernel_rfl
set_option maxHeartbeats 0 in
theorem run1 (w : World) (os : OsState) : (sT w os).map (obC chk1) = some true := by
  kernel_rfl
set_option maxHeartbeats 0 in
theorem run2 (w : World) (os : OsState) : (sT w os).map (obC chk2) = some true := by
  kernel_rfl
set_option maxHeartbeats 0 in
theorem run3 (w : World) (os : OsState) : (sT w os).map (obF fn1) = some (true, fn1.map He.DefD.val) := by
  kernel_rfl
set_option maxHeartbeats 0 in
theorem run4 (w : World) (os : OsState) : (sT w os).map (obF fn2) = some (true, fn2.map He.DefD.val) := by
  kernel_rfl
theorem run (w : World) : HandSHeadRun.RunEq Rw (PySem.W.view Rw.prog [84]) hk ob 9000 namesA w := fun os => by
  have e := run_join (h := obC chk) (i := obF fnB) (run0 w os) (run1 w os) (run2 w os) (run3 w os) (run4 w os) (fun s => by unfold obC chk; rw [List.all_append]) (fun s => by unfold obF fnB; rw [List.all_append, List.map_append])
  rw [← List.map_append] at e
  exact e
theorem facts {P : Program} {w : World} {K : PySem.W.Frag} {h : Heap} {mg : Str → Option Value} {f : Addr} (KX : K.In h) (G : h.Ns mainGlobals mg) (hfa : mg ("law" : Str) = some (.ref f)) (c : SaysB chk fnB K) :
    ∃ fd : FuncData, (∀ (s : Shared) (u : Value), BindsTo s fd ⟨[u], []⟩ [("_law_script", u)]) ∧ ∀ base : Heap, K.In base → base.Ns mainGlobals mg → FnOk P w K mg base CX0 19 f fd ["_law_script"] (spLaw K) := by
  obtain ⟨tMARKS, hMARKS⟩ := He.int_ok KX G (x := "MARKS") (i := 12) (c.fact 27 rfl)
  obtain ⟨tFIGURES, hFIGURES⟩ := He.str_ok KX G (x := "FIGURES") (z := FIG) (c.fact 284 rfl)
  exact fin hfa
    ⟨(c.fact 0 rfl), (c.fact 1 rfl), (c.fact 2 rfl), (c.dec 3 rfl)⟩
    (c.dec 4 rfl)
    (c.dec 5 rfl)
    (c.dec 6 rfl)
    (c.dec 7 rfl)
    (c.dec 8 rfl)
    (c.dec 9 rfl)
    (c.fact 10 rfl)
    (c.dec 11 rfl)
    (c.dec 12 rfl)
    (PySem.W.mg_of KX G (c.dec 13 rfl))
    (MM.diB (PySem.W.mg_of KX G (c.dec 13 rfl)) (c.def_ 0 rfl) (c.dec 14 rfl) (c.fact 15 rfl) (c.fact 16 rfl) (c.fact 17 rfl))
    ⟨(c.fact 18 rfl), (c.fact 19 rfl), (c.fact 20 rfl), (c.dec 21 rfl)⟩
    (c.dec 22 rfl)
    (c.dec 23 rfl)
    (c.dec 24 rfl)
    (c.dec 25 rfl)
    (c.dec 26 rfl)
    hMARKS
    ⟨_, rfl⟩
    (MM.diB (PySem.W.mg_of KX G (c.dec 28 rfl)) (c.def_ 1 rfl) (c.dec 29 rfl) (c.fact 30 rfl) (c.fact 31 rfl) (c.fact 32 rfl))
    ⟨(c.fact 33 rfl), (c.fact 34 rfl), (c.fact 35 rfl), (c.dec 36 rfl)⟩
    (c.dec 37 rfl)
    (c.dec 38 rfl)
    (c.dec 39 rfl)
    (c.dec 40 rfl)
    (c.dec 41 rfl)
    (c.dec 42 rfl)
    (PySem.W.mg_of KX G (c.dec 43 rfl))
    (MM.diB (PySem.W.mg_of KX G (c.dec 43 rfl)) (c.def_ 2 rfl) (c.dec 44 rfl) (c.fact 45 rfl) (c.fact 46 rfl) (c.fact 47 rfl))
    (MM.dmB ⟨(c.fact 33 rfl), (c.fact 34 rfl), (c.fact 35 rfl), (c.dec 36 rfl)⟩ (c.def_ 3 rfl) (c.dec 48 rfl) (c.fact 49 rfl))
    (MM.dmB ⟨(c.fact 33 rfl), (c.fact 34 rfl), (c.fact 35 rfl), (c.dec 36 rfl)⟩ (c.def_ 4 rfl) (c.dec 50 rfl) (c.fact 51 rfl))
    ⟨(c.fact 52 rfl), (c.fact 53 rfl), (c.fact 54 rfl), (c.dec 55 rfl)⟩
    (c.dec 56 rfl)
    (c.dec 57 rfl)
    (c.dec 58 rfl)
    (MM.diB (PySem.W.mg_of KX G (c.dec 59 rfl)) (c.def_ 5 rfl) (c.dec 60 rfl) (c.fact 61 rfl) (c.fact 62 rfl) (c.fact 63 rfl))
    (MM.dmB ⟨(c.fact 18 rfl), (c.fact 19 rfl), (c.fact 20 rfl), (c.dec 21 rfl)⟩ (c.def_ 6 rfl) (c.dec 64 rfl) (c.fact 65 rfl))
    (MM.dmB ⟨(c.fact 18 rfl), (c.fact 19 rfl), (c.fact 20 rfl), (c.dec 21 rfl)⟩ (c.def_ 7 rfl) (c.dec 66 rfl) (c.fact 67 rfl))
    (MM.dmB ⟨(c.fact 18 rfl), (c.fact 19 rfl), (c.fact 20 rfl), (c.dec 21 rfl)⟩ (c.def_ 8 rfl) (c.dec 68 rfl) (c.fact 69 rfl))
    (MM.dmB ⟨(c.fact 18 rfl), (c.fact 19 rfl), (c.fact 20 rfl), (c.dec 21 rfl)⟩ (c.def_ 9 rfl) (c.dec 70 rfl) (c.fact 71 rfl))
    (MM.dmB ⟨(c.fact 18 rfl), (c.fact 19 rfl), (c.fact 20 rfl), (c.dec 21 rfl)⟩ (c.def_ 10 rfl) (c.dec 72 rfl) (c.fact 73 rfl))
    (MM.dmB ⟨(c.fact 18 rfl), (c.fact 19 rfl), (c.fact 20 rfl), (c.dec 21 rfl)⟩ (c.def_ 11 rfl) (c.dec 74 rfl) (c.fact 75 rfl))
    (MM.dmB ⟨(c.fact 52 rfl), (c.fact 53 rfl), (c.fact 54 rfl), (c.dec 55 rfl)⟩ (c.def_ 12 rfl) (c.dec 76 rfl) (c.fact 77 rfl))
    (MM.dmB ⟨(c.fact 52 rfl), (c.fact 53 rfl), (c.fact 54 rfl), (c.dec 55 rfl)⟩ (c.def_ 13 rfl) (c.dec 78 rfl) (c.fact 79 rfl))
    (MM.dmB ⟨(c.fact 52 rfl), (c.fact 53 rfl), (c.fact 54 rfl), (c.dec 55 rfl)⟩ (c.def_ 14 rfl) (c.dec 80 rfl) (c.fact 81 rfl))
    (MM.dmB ⟨(c.fact 52 rfl), (c.fact 53 rfl), (c.fact 54 rfl), (c.dec 55 rfl)⟩ (c.def_ 15 rfl) (c.dec 82 rfl) (c.fact 83 rfl))
    (MM.dmB ⟨(c.fact 52 rfl), (c.fact 53 rfl), (c.fact 54 rfl), (c.dec 55 rfl)⟩ (c.def_ 16 rfl) (c.dec 84 rfl) (c.fact 85 rfl))
    (MM.dmB ⟨(c.fact 52 rfl), (c.fact 53 rfl), (c.fact 54 rfl), (c.dec 55 rfl)⟩ (c.def_ 17 rfl) (c.dec 86 rfl) (c.fact 87 rfl))
    (MM.dmB ⟨(c.fact 52 rfl), (c.fact 53 rfl), (c.fact 54 rfl), (c.dec 55 rfl)⟩ (c.def_ 18 rfl) (c.dec 88 rfl) (c.fact 89 rfl))
    (MM.dmB ⟨(c.fact 52 rfl), (c.fact 53 rfl), (c.fact 54 rfl), (c.dec 55 rfl)⟩ (c.def_ 19 rfl) (c.dec 90 rfl) (c.fact 91 rfl))
    (MM.dmB ⟨(c.fact 52 rfl), (c.fact 53 rfl), (c.fact 54 rfl), (c.dec 55 rfl)⟩ (c.def_ 20 rfl) (c.dec 92 rfl) (c.fact 93 rfl))
    (MM.dmB ⟨(c.fact 52 rfl), (c.fact 53 rfl), (c.fact 54 rfl), (c.dec 55 rfl)⟩ (c.def_ 21 rfl) (c.dec 94 rfl) (c.fact 95 rfl))
    ⟨(PySem.W.mg_of KX G (c.dec 96 rfl)), (c.fact 97 rfl), (c.dec 98 rfl), (c.dec 99 rfl), (c.dec 100 rfl)⟩
    ⟨(PySem.W.mg_of KX G (c.dec 101 rfl)), (c.fact 102 rfl), (c.dec 103 rfl), (c.dec 104 rfl), (c.dec 105 rfl)⟩
    ⟨(PySem.W.mg_of KX G (c.dec 106 rfl)), (c.fact 107 rfl), (c.dec 108 rfl), (c.dec 109 rfl), (c.dec 110 rfl)⟩
    ⟨(PySem.W.mg_of KX G (c.dec 111 rfl)), (c.fact 112 rfl), (c.dec 113 rfl), (c.dec 114 rfl), (c.dec 115 rfl)⟩
    ⟨(PySem.W.mg_of KX G (c.dec 116 rfl)), (c.fact 117 rfl), (c.dec 118 rfl), (c.dec 119 rfl), (c.dec 120 rfl)⟩
    ⟨(PySem.W.mg_of KX G (c.dec 121 rfl)), (c.fact 122 rfl), (c.dec 123 rfl), (c.dec 124 rfl), (c.dec 125 rfl)⟩
    ⟨(PySem.W.mg_of KX G (c.dec 126 rfl)), (c.fact 127 rfl), (c.dec 128 rfl), (c.dec 129 rfl), (c.dec 130 rfl)⟩
    ⟨(PySem.W.mg_of KX G (c.dec 131 rfl)), (c.fact 132 rfl), (c.dec 133 rfl), (c.dec 134 rfl), (c.dec 135 rfl)⟩
    ⟨(PySem.W.mg_of KX G (c.dec 136 rfl)), (c.fact 137 rfl), (c.dec 138 rfl), (c.dec 139 rfl), (c.dec 140 rfl)⟩
    ⟨(PySem.W.mg_of KX G (c.dec 141 rfl)), (c.fact 142 rfl), (c.dec 143 rfl), (c.dec 144 rfl), (c.dec 145 rfl)⟩
    (c.dec 146 rfl)
    (c.dec 147 rfl)
    (c.dec 148 rfl)
    (c.dec 149 rfl)
    (c.dec 150 rfl)
    (c.dec 151 rfl)
    (c.dec 152 rfl)
    (c.dec 153 rfl)
    (c.dec 154 rfl)
    (c.dec 155 rfl)
    (c.dec 156 rfl)
    (c.dec 157 rfl)
    (c.dec 158 rfl)
    (c.dec 159 rfl)
    (c.dec 160 rfl)
    ⟨(c.dec 161 rfl), (c.dec 162 rfl), (c.dec 134 rfl), (c.fact 163 rfl), (c.dec 164 rfl), (c.dec 7 rfl), (c.dec 8 rfl), (c.dec 165 rfl)⟩
    (let ⟨_, _, _, _, _, _, _, _, _, _, _, _, _, _, l⟩ := MM.clsB_ok (c.fact 166 rfl); MM.oxv_mk l (c.dec 167 rfl) (c.dec 134 rfl) (c.dec 133 rfl) (c.fact 168 rfl))
    (c.dec 169 rfl)
    (MM.valC_ok (c.fact 170 rfl))
    (let ⟨fd, F⟩ := (c.def_ 22 rfl); ⟨_, fd, F, (c.dec 171 rfl), (c.dec 172 rfl)⟩)
    ⟨(PySem.W.mg_of KX G (c.dec 96 rfl)), (c.fact 97 rfl), (c.dec 98 rfl), (c.dec 99 rfl), (c.dec 173 rfl)⟩
    ⟨(PySem.W.mg_of KX G (c.dec 101 rfl)), (c.fact 102 rfl), (c.dec 103 rfl), (c.dec 104 rfl), (c.dec 174 rfl)⟩
    ⟨(PySem.W.mg_of KX G (c.dec 106 rfl)), (c.fact 107 rfl), (c.dec 108 rfl), (c.dec 109 rfl), (c.dec 175 rfl)⟩
    ⟨(PySem.W.mg_of KX G (c.dec 111 rfl)), (c.fact 112 rfl), (c.dec 113 rfl), (c.dec 114 rfl), (c.dec 176 rfl)⟩
    ⟨(PySem.W.mg_of KX G (c.dec 116 rfl)), (c.fact 117 rfl), (c.dec 118 rfl), (c.dec 119 rfl), (c.dec 177 rfl)⟩
    ⟨(PySem.W.mg_of KX G (c.dec 121 rfl)), (c.fact 122 rfl), (c.dec 123 rfl), (c.dec 124 rfl), (c.dec 178 rfl)⟩
    ⟨(PySem.W.mg_of KX G (c.dec 126 rfl)), (c.fact 127 rfl), (c.dec 128 rfl), (c.dec 129 rfl), (c.dec 179 rfl)⟩
    ⟨(PySem.W.mg_of KX G (c.dec 131 rfl)), (c.fact 132 rfl), (c.dec 133 rfl), (c.dec 134 rfl), (c.dec 180 rfl)⟩
    ⟨(PySem.W.mg_of KX G (c.dec 136 rfl)), (c.fact 137 rfl), (c.dec 138 rfl), (c.dec 139 rfl), (c.dec 181 rfl)⟩
    ⟨(PySem.W.mg_of KX G (c.dec 141 rfl)), (c.fact 142 rfl), (c.dec 143 rfl), (c.dec 144 rfl), (c.dec 182 rfl)⟩
    (c.dec 183 rfl)
    (c.dec 184 rfl)
    (c.dec 185 rfl)
    (c.dec 186 rfl)
    (c.dec 187 rfl)
    (c.dec 188 rfl)
    (c.dec 189 rfl)
    (c.dec 190 rfl)
    (c.dec 191 rfl)
    (c.dec 192 rfl)
    (c.dec 193 rfl)
    (c.dec 194 rfl)
    (c.dec 195 rfl)
    (c.dec 196 rfl)
    (c.dec 197 rfl)
    ⟨(c.dec 198 rfl), (c.dec 199 rfl), (c.dec 109 rfl), (c.fact 200 rfl), (c.dec 201 rfl), (c.dec 7 rfl), (c.dec 8 rfl), (c.dec 202 rfl)⟩
    (let ⟨_, _, _, _, _, _, _, _, _, _, _, _, _, _, l⟩ := MM.clsB_ok (c.fact 203 rfl); MM.oxl_mk l (c.dec 204 rfl) (c.dec 109 rfl) (c.dec 108 rfl) (c.fact 205 rfl))
    (c.dec 206 rfl)
    (c.dec 207 rfl)
    (MM.valC_ok (c.fact 208 rfl))
    (let ⟨fd, F⟩ := (c.def_ 23 rfl); ⟨_, fd, F, (c.dec 209 rfl), (c.dec 210 rfl)⟩)
    ⟨(PySem.W.mg_of KX G (c.dec 96 rfl)), (c.fact 97 rfl), (c.dec 98 rfl), (c.dec 99 rfl), (c.dec 211 rfl)⟩
    ⟨(PySem.W.mg_of KX G (c.dec 101 rfl)), (c.fact 102 rfl), (c.dec 103 rfl), (c.dec 104 rfl), (c.dec 212 rfl)⟩
    ⟨(PySem.W.mg_of KX G (c.dec 106 rfl)), (c.fact 107 rfl), (c.dec 108 rfl), (c.dec 109 rfl), (c.dec 213 rfl)⟩
    ⟨(PySem.W.mg_of KX G (c.dec 111 rfl)), (c.fact 112 rfl), (c.dec 113 rfl), (c.dec 114 rfl), (c.dec 214 rfl)⟩
    ⟨(PySem.W.mg_of KX G (c.dec 116 rfl)), (c.fact 117 rfl), (c.dec 118 rfl), (c.dec 119 rfl), (c.dec 215 rfl)⟩
    ⟨(PySem.W.mg_of KX G (c.dec 121 rfl)), (c.fact 122 rfl), (c.dec 123 rfl), (c.dec 124 rfl), (c.dec 216 rfl)⟩
    ⟨(PySem.W.mg_of KX G (c.dec 126 rfl)), (c.fact 127 rfl), (c.dec 128 rfl), (c.dec 129 rfl), (c.dec 217 rfl)⟩
    ⟨(PySem.W.mg_of KX G (c.dec 131 rfl)), (c.fact 132 rfl), (c.dec 133 rfl), (c.dec 134 rfl), (c.dec 218 rfl)⟩
    ⟨(PySem.W.mg_of KX G (c.dec 136 rfl)), (c.fact 137 rfl), (c.dec 138 rfl), (c.dec 139 rfl), (c.dec 219 rfl)⟩
    ⟨(PySem.W.mg_of KX G (c.dec 141 rfl)), (c.fact 142 rfl), (c.dec 143 rfl), (c.dec 144 rfl), (c.dec 220 rfl)⟩
    (c.dec 221 rfl)
    (c.dec 222 rfl)
    (c.dec 223 rfl)
    (c.dec 224 rfl)
    (c.dec 225 rfl)
    (c.dec 226 rfl)
    (c.dec 227 rfl)
    (c.dec 228 rfl)
    (c.dec 229 rfl)
    (c.dec 230 rfl)
    (c.dec 231 rfl)
    (c.dec 232 rfl)
    (c.dec 233 rfl)
    (c.dec 234 rfl)
    (c.dec 235 rfl)
    ⟨(c.dec 236 rfl), (c.dec 237 rfl), (c.dec 139 rfl), (c.fact 238 rfl), (c.dec 239 rfl), (c.dec 7 rfl), (c.dec 8 rfl), (c.dec 240 rfl)⟩
    (let ⟨_, _, _, _, _, _, _, _, _, _, _, _, _, _, l⟩ := MM.clsB_ok (c.fact 241 rfl); MM.oxi_mk l (c.dec 242 rfl) (c.dec 139 rfl) (c.dec 138 rfl) (c.fact 243 rfl))
    (c.dec 244 rfl)
    (MM.valC_ok (c.fact 245 rfl))
    (let ⟨fd, F⟩ := (c.def_ 24 rfl); ⟨_, fd, F, (c.dec 246 rfl), (c.dec 247 rfl)⟩)
    ⟨(PySem.W.mg_of KX G (c.dec 96 rfl)), (c.fact 97 rfl), (c.dec 98 rfl), (c.dec 99 rfl), (c.dec 248 rfl)⟩
    ⟨(PySem.W.mg_of KX G (c.dec 101 rfl)), (c.fact 102 rfl), (c.dec 103 rfl), (c.dec 104 rfl), (c.dec 249 rfl)⟩
    ⟨(PySem.W.mg_of KX G (c.dec 106 rfl)), (c.fact 107 rfl), (c.dec 108 rfl), (c.dec 109 rfl), (c.dec 250 rfl)⟩
    ⟨(PySem.W.mg_of KX G (c.dec 111 rfl)), (c.fact 112 rfl), (c.dec 113 rfl), (c.dec 114 rfl), (c.dec 251 rfl)⟩
    ⟨(PySem.W.mg_of KX G (c.dec 116 rfl)), (c.fact 117 rfl), (c.dec 118 rfl), (c.dec 119 rfl), (c.dec 252 rfl)⟩
    ⟨(PySem.W.mg_of KX G (c.dec 121 rfl)), (c.fact 122 rfl), (c.dec 123 rfl), (c.dec 124 rfl), (c.dec 253 rfl)⟩
    ⟨(PySem.W.mg_of KX G (c.dec 126 rfl)), (c.fact 127 rfl), (c.dec 128 rfl), (c.dec 129 rfl), (c.dec 254 rfl)⟩
    ⟨(PySem.W.mg_of KX G (c.dec 131 rfl)), (c.fact 132 rfl), (c.dec 133 rfl), (c.dec 134 rfl), (c.dec 255 rfl)⟩
    ⟨(PySem.W.mg_of KX G (c.dec 136 rfl)), (c.fact 137 rfl), (c.dec 138 rfl), (c.dec 139 rfl), (c.dec 256 rfl)⟩
    ⟨(PySem.W.mg_of KX G (c.dec 141 rfl)), (c.fact 142 rfl), (c.dec 143 rfl), (c.dec 144 rfl), (c.dec 257 rfl)⟩
    (c.dec 258 rfl)
    (c.dec 259 rfl)
    (c.dec 260 rfl)
    (c.dec 261 rfl)
    (c.dec 262 rfl)
    (c.dec 263 rfl)
    (c.dec 264 rfl)
    (c.dec 265 rfl)
    (c.dec 266 rfl)
    (c.dec 267 rfl)
    (c.dec 268 rfl)
    (c.dec 269 rfl)
    (c.dec 270 rfl)
    (c.dec 271 rfl)
    (c.dec 272 rfl)
    ⟨(c.dec 273 rfl), (c.dec 274 rfl), (c.dec 144 rfl), (c.fact 275 rfl), (c.dec 276 rfl), (c.dec 7 rfl), (c.dec 8 rfl), (c.dec 277 rfl)⟩
    (let ⟨_, _, _, _, _, _, _, _, _, _, _, _, _, _, l⟩ := MM.clsB_ok (c.fact 278 rfl); MM.oxr_mk l (c.dec 279 rfl) (c.dec 144 rfl) (c.dec 143 rfl) (c.fact 280 rfl))
    (MM.valC_ok (c.fact 281 rfl))
    (let ⟨fd, F⟩ := (c.def_ 25 rfl); ⟨_, fd, F, (c.dec 282 rfl), (c.dec 283 rfl)⟩)
    hFIGURES
    ⟨_, rfl⟩
    (PySem.W.mg_none_of KX G (c.dec 285 rfl))
    (PySem.W.mg_none_of KX G (c.dec 286 rfl))
    (PySem.W.mg_none_of KX G (c.dec 287 rfl))
    (PySem.W.mg_none_of KX G (c.dec 288 rfl))
    (PySem.W.mg_none_of KX G (c.dec 289 rfl))
    (PySem.W.mg_none_of KX G (c.dec 290 rfl))
    (PySem.W.mg_none_of KX G (c.dec 291 rfl))
    (PySem.W.mg_none_of KX G (c.dec 292 rfl))
    (PySem.W.mg_none_of KX G (c.dec 293 rfl))
    (PySem.W.mg_none_of KX G (c.dec 294 rfl))
    (PySem.W.mg_none_of KX G (c.dec 295 rfl))
    (PySem.W.mg_none_of KX G (c.dec 296 rfl))
    (PySem.W.mg_none_of KX G (c.dec 297 rfl))
    (PySem.W.mg_none_of KX G (c.dec 298 rfl))
    (PySem.W.mg_none_of KX G (c.dec 299 rfl))
    (MM.dfB KX G (c.def_ 26 rfl) (c.dec 300 rfl))
    (MM.dfB KX G (c.def_ 27 rfl) (c.dec 301 rfl))
    (MM.dfB KX G (c.def_ 28 rfl) (c.dec 302 rfl))
    (MM.dfB KX G (c.def_ 29 rfl) (c.dec 303 rfl))
    (MM.dfB KX G (c.def_ 30 rfl) (c.dec 304 rfl))
    (MM.dfB KX G (c.def_ 31 rfl) (c.dec 305 rfl))
    (MM.dfB KX G (c.def_ 32 rfl) (c.dec 306 rfl))
    (MM.dfB KX G (c.def_ 33 rfl) (c.dec 307 rfl))
    (MM.dfB KX G (c.def_ 34 rfl) (c.dec 308 rfl))
    (MM.dfB KX G (c.def_ 35 rfl) (c.dec 309 rfl))
    (MM.dfB KX G (c.def_ 36 rfl) (c.dec 310 rfl))
    (MM.dfB KX G (c.def_ 37 rfl) (c.dec 311 rfl))
    (MM.dfB KX G (c.def_ 38 rfl) (c.dec 312 rfl))
    (MM.dfB KX G (c.def_ 39 rfl) (c.dec 313 rfl))
    (MM.dfB KX G (c.def_ 40 rfl) (c.dec 314 rfl))
    (MM.dfB KX G (c.def_ 41 rfl) (c.dec 315 rfl))
    (MM.dfB KX G (c.def_ 42 rfl) (c.dec 316 rfl))
    (MM.dfB KX G (c.def_ 43 rfl) (c.dec 317 rfl))
    (MM.dfB KX G (c.def_ 44 rfl) (c.dec 318 rfl))
    (MM.dfB KX G (c.def_ 45 rfl) (c.dec 319 rfl))
    (MM.dfB KX G (c.def_ 46 rfl) (c.dec 320 rfl))
    (MM.dfB KX G (c.def_ 47 rfl) (c.dec 321 rfl))
    (MM.dfB KX G (c.def_ 48 rfl) (c.dec 322 rfl))
    (MM.dfB KX G (c.def_ 49 rfl) (c.dec 323 rfl))
    (MM.dfB KX G (c.def_ 50 rfl) (c.dec 324 rfl))
    (MM.dfB KX G (c.def_ 51 rfl) (c.dec 325 rfl))
    (MM.dfB KX G (c.def_ 52 rfl) (c.dec 326 rfl))
    (MM.dfB KX G (c.def_ 53 rfl) (c.dec 327 rfl))
    (MM.dfB KX G (c.def_ 54 rfl) (c.dec 328 rfl))
    (MM.dfB KX G (c.def_ 55 rfl) (c.dec 329 rfl))
    (MM.dfB KX G (c.def_ 56 rfl) (c.dec 330 rfl))
    (MM.dfB KX G (c.def_ 57 rfl) (c.dec 331 rfl))
    (MM.dfB KX G (c.def_ 58 rfl) (c.dec 332 rfl))
    (MM.dfB KX G (c.def_ 59 rfl) (c.dec 333 rfl))
    (MM.dfB KX G (c.def_ 60 rfl) (c.dec 334 rfl))
    (MM.dfB KX G (c.def_ 61 rfl) (c.dec 335 rfl))
    (MM.dfB KX G (c.def_ 62 rfl) (c.dec 336 rfl))
    (MM.dfB KX G (c.def_ 63 rfl) (c.dec 337 rfl))
    (MM.dfB KX G (c.def_ 64 rfl) (c.dec 338 rfl))
    (MM.dfB KX G (c.def_ 65 rfl) (c.dec 339 rfl))
    (MM.dfB KX G (c.def_ 66 rfl) (c.dec 340 rfl))
    (MM.dfB KX G (c.def_ 67 rfl) (c.dec 341 rfl))
    (MM.dfB KX G (c.def_ 68 rfl) (c.dec 342 rfl))
    (MM.dfB KX G (c.def_ 69 rfl) (c.dec 343 rfl))
    (MM.dfB KX G (c.def_ 70 rfl) (c.dec 344 rfl))
    (MM.dfB KX G (c.def_ 71 rfl) (c.dec 345 rfl))
    (MM.dfB KX G (c.def_ 72 rfl) (c.dec 346 rfl))
    (MM.dfB KX G (c.def_ 73 rfl) (c.dec 347 rfl))
    (MM.dfB KX G (c.def_ 74 rfl) (c.dec 348 rfl))
    (MM.dfB KX G (c.def_ 75 rfl) (c.dec 349 rfl))
    (MM.dfB KX G (c.def_ 76 rfl) (c.dec 350 rfl))
    (MM.dfB KX G (c.def_ 77 rfl) (c.dec 351 rfl))
    (MM.dfB KX G (c.def_ 78 rfl) (c.dec 352 rfl))
    (MM.dfB KX G (c.def_ 79 rfl) (c.dec 353 rfl))
    (MM.dfB KX G (c.def_ 80 rfl) (c.dec 354 rfl))
    (MM.dfB KX G (c.def_ 81 rfl) (c.dec 355 rfl))
    (MM.dfB KX G (c.def_ 82 rfl) (c.dec 356 rfl))
end MM
open PySem PySem.W PyProof.Rows in
set_option maxRecDepth 100000 in
set_option maxHeartbeats 0 in
theorem PySem.Challenge.cw_meanmoon_k82_diaries_refuse_holds : PySem.Challenge.rw_meanmoon_k82_diaries_refuse.Holds := by
  w_on; o_law
  refine HandSHeadRun.head_any (r := OpenLaw.row PySem.Challenge.rw_meanmoon_k82_diaries_refuse) (q := view (OpenLaw.row PySem.Challenge.rw_meanmoon_k82_diaries_refuse).prog [84]) (H := MM.hk) (ob := MM.ob) (M := 9000) (loose := MM.namesA) (d := HandSHeadRun.topDef (OpenLaw.row PySem.Challenge.rw_meanmoon_k82_diaries_refuse).prog 84) (kwd := []) MM.ob_eq
    (by kernel_rfl) (fun s => by kernel_rfl) MM.run (by kernel_rfl) (by kernel_rfl) (by kernel_rfl) (by rfl) (by first | assumption | decide +kernel) (by decide +kernel) ⟨rfl, rfl, rfl, rfl, rfl, by decide +kernel⟩ ?hw ?hc
  case hw => w_witness2
  case hc =>
    refine L2.walk_ofE (l := PySem.Challenge.rw_meanmoon_k82_diaries_refuse) (n := 63) (k := 19) (x := "_law_script") (CX := L2.CX0) rfl (by decide) (by kernel_rfl) ⟨rfl, by decide, by decide⟩ ?F (fun _ _ _ _ z => z)
    intro w mg fa h Y G hmg0
    obtain ⟨K, KX, c⟩ := Y
    have hm1 : mg ("law" : PySem.Str) = some (Value.ref fa) := by
      have e : (HandSHeadRun.topDef (OpenLaw.row PySem.Challenge.rw_meanmoon_k82_diaries_refuse).prog 84).name = ("law" : PySem.Str) := by kernel_rfl
      rw [← e]
      exact hmg0
    obtain ⟨fd, hb, hF⟩ := MM.facts (P := (PySem.Challenge.rw_meanmoon_k82_diaries_refuse).prog) (w := w) KX G hm1 c
    exact ⟨K, fd, MM.spLaw K, KX, hb, fun H a ns hl _ hS => ⟨a, ns, rfl, hS, hl, fun _ => rfl⟩, hF⟩
#print axioms PySem.Challenge.cw_meanmoon_k82_diaries_refuse_holds
