import PyProof.Rows.All
import Wide.All
import OpenK.AllK
import Wide.FinOn
import PyProof.NoPylong
import HandS.ForMost
import HandS.Wide
import HandS.Defaults
import HandS.MakeKw
import HandS.MakeKwOnly
import HandS.Exc
import HandS.WordsExc
import HandS.IsInst
import HandS.FStr
import HandS.Style
import HandS.Codes
import HandS.NoneIn
import PyProof.LongRange
import KE.KTryMore
import KE.KIsAll
import HandS.ExcIs
import HandS.ExcField
import HandS.ExcInit
import KE.KExcInit
import HandS.ExcBuiltin
import KE.KCallOwn
import HandS.OwnEq
import HandS.MapJoin
import HandS.Rev
import HandS.RevTup
import HandS.Walk
import HandS.Zip
import PyProof.P3Eq
import PyProof.EqLayable
import PyProof.InstNe
import KE.KTupSum
import HandS.SortInts
import HandS.Deep
import HandS.StrMore
import HandS.Text
import HandS.Call
import OpenK.KOps
import PyProof.EqAt
import PyProof.EqKinds
import PyProof.FString2
import KE.KFmtOwn
import PyProof.Rows.StrPins2
import HandS.SortRule
import HandS.Conv
import PyProof.FactsLen
import PyProof.InstSpecial
import HandS.Strs
import PyProof.ReprRoads
import PyProof.ReprText
import HandS.TupAny
import PyProof.StrLawsRepr
import PyProof.ReprLen
import HandS.Iter
import HandS.More
import PySem.Challenge.RW_meanmoon_k61_wheels
set_option Elab.async false
set_option linter.all false
set_option maxRecDepth 100000
set_option maxHeartbeats 4000000
namespace MM
/-! fractions as Rat: the program's and the law's lowest terms are num and den -/
theorem gcd_fmod (a b : Int) : Int.gcd b (a.fmod b) = Int.gcd a b := by
  have h : a.fmod b = a - b * a.fdiv b := by have := Int.mul_fdiv_add_fmod a b; omega
  rw [h, Int.gcd_comm a b]
  rw [Int.sub_eq_add_neg, ← Int.mul_neg, Int.gcd_add_mul_left_right]
theorem gcd_emod' (a b : Int) : Int.gcd b (a % b) = Int.gcd a b := by
  have h : a % b = a - b * (a / b) := by have := Int.mul_ediv_add_emod a b; omega
  rw [h, Int.gcd_comm a b]
  rw [Int.sub_eq_add_neg, ← Int.mul_neg, Int.gcd_add_mul_left_right]
theorem fmod_lt (a : Int) {b : Int} (h : b ≠ 0) : (a.fmod b).natAbs < b.natAbs := by
  rcases Int.lt_or_gt_of_ne h with hb | hb
  · have e : a.fmod b = -((-a).fmod (-b)) := by rw [Int.neg_fmod_neg, Int.neg_neg]
    have h1 := Int.fmod_nonneg_of_pos (-a) (show (0 : Int) < -b by omega)
    have h2 := Int.fmod_lt_of_pos (-a) (show (0 : Int) < -b by omega)
    rw [e]
    omega
  · have h1 := Int.fmod_nonneg_of_pos a hb
    have h2 := Int.fmod_lt_of_pos a hb
    omega
theorem gcd_pos {t b : Int} (h : b ≠ 0) : 0 < Int.gcd t b := Int.gcd_pos_of_ne_zero_right t h
/-- the divisor that makes lowest terms -/
def gs (t b : Int) : Int := if b < 0 then -(Int.gcd t b : Int) else (Int.gcd t b : Int)
theorem gs_ne {t b : Int} (h : b ≠ 0) : gs t b ≠ 0 := by
  have := gcd_pos (t := t) h
  unfold gs
  split <;> omega
theorem low_num {t b : Int} (h : b ≠ 0) : t.fdiv (gs t b) = (Rat.divInt t b).num := by
  have hg := gcd_pos (t := t) h
  rw [Rat.num_divInt, Int.gcd_comm b t]
  unfold gs
  split
  · rename_i hb
    rw [Int.sign_eq_neg_one_of_neg hb, Int.neg_one_mul]
    rw [← Int.neg_fdiv_neg, Int.neg_neg, Int.fdiv_eq_ediv_of_nonneg _ (by omega)]
  · rw [Int.sign_eq_one_of_pos (by omega), Int.one_mul, Int.fdiv_eq_ediv_of_nonneg _ (by omega)]
theorem low_den {t b : Int} (h : b ≠ 0) : b.fdiv (gs t b) = ((Rat.divInt t b).den : Int) := by
  have hg := gcd_pos (t := t) h
  rw [Rat.den_divInt, if_neg h, Int.gcd_comm b t, Int.natCast_ediv]
  unfold gs
  split
  · rename_i hb
    rw [← Int.neg_fdiv_neg, Int.neg_neg, Int.fdiv_eq_ediv_of_nonneg _ (by omega)]
    congr 1
    omega
  · rw [Int.fdiv_eq_ediv_of_nonneg _ (by omega)]
    congr 1
    omega
theorem den_pos (q : Rat) : (0 : Int) < (q.den : Int) := by
  have := q.den_pos
  omega
/-- sizes -/
def Sz (n : Nat) (i : Int) : Prop := i.natAbs < 2 ^ n
def Rz (n : Nat) (q : Rat) : Prop := Sz n q.num ∧ Sz n q.den
theorem Sz.mono {n m : Nat} {i : Int} (h : Sz n i) (l : n ≤ m) : Sz m i := Nat.lt_of_lt_of_le h (Nat.pow_le_pow_right (by decide) l)
theorem Rz.mono {n m : Nat} {q : Rat} (h : Rz n q) (l : n ≤ m) : Rz m q := ⟨h.1.mono l, h.2.mono l⟩
theorem Sz.mul {n m : Nat} {i j : Int} (h : Sz n i) (k : Sz m j) : Sz (n + m) (i * j) := by
  unfold Sz
  rw [Int.natAbs_mul, Nat.pow_add]
  exact Nat.mul_lt_mul'' h k
theorem Sz.add {n m : Nat} {i j : Int} (h : Sz n i) (k : Sz n j) (l : n < m) : Sz m (i + j) := by
  have h' : i.natAbs < 2 ^ n := h
  have k' : j.natAbs < 2 ^ n := k
  have e : 2 ^ (n + 1) ≤ 2 ^ m := Nat.pow_le_pow_right (by decide) l
  rw [Nat.pow_succ] at e
  have z := Int.natAbs_add_le i j
  unfold Sz
  omega
theorem Sz.neg {n : Nat} {i : Int} (h : Sz n i) : Sz n (-i) := by
  unfold Sz
  rw [Int.natAbs_neg]
  exact h
theorem Sz.sub {n m : Nat} {i j : Int} (h : Sz n i) (k : Sz n j) (l : n < m) : Sz m (i - j) := by
  rw [Int.sub_eq_add_neg]
  exact h.add k.neg l
theorem natAbs_ediv_le (a : Int) {b : Nat} : (a / (b : Int)).natAbs ≤ a.natAbs := Int.natAbs_ediv_le_natAbs _ _
theorem Rz.divInt {n : Nat} {t b : Int} (h : Sz n t) (k : Sz n b) (h0 : 0 < n) : Rz n (Rat.divInt t b) := by
  refine ⟨?_, ?_⟩
  · unfold Sz
    rw [Rat.num_divInt]
    refine Nat.lt_of_le_of_lt (Int.natAbs_ediv_le_natAbs _ _) ?_
    rw [Int.natAbs_mul]
    refine Nat.lt_of_le_of_lt ?_ h
    have : b.sign.natAbs ≤ 1 := by
      rcases Int.lt_trichotomy b 0 with z | z | z
      · rw [Int.sign_eq_neg_one_of_neg z]; decide
      · rw [z]; decide
      · rw [Int.sign_eq_one_of_pos z]; decide
    calc b.sign.natAbs * t.natAbs ≤ 1 * t.natAbs := Nat.mul_le_mul_right _ this
      _ = t.natAbs := Nat.one_mul _
  · unfold Sz
    rw [Rat.den_divInt]
    split
    · show 1 < 2 ^ n
      exact Nat.one_lt_two_pow (by omega)
    · rw [Int.natAbs_natCast]
      exact Nat.lt_of_le_of_lt (Nat.div_le_self _ _) k
theorem add_eq (p q : Rat) : p + q = Rat.divInt (p.num * q.den + q.num * p.den) ((p.den : Int) * q.den) := by
  have := Rat.divInt_add_divInt p.num q.num (d₁ := p.den) (d₂ := q.den) (by have := den_pos p; omega) (by have := den_pos q; omega)
  rw [Rat.num_divInt_den, Rat.num_divInt_den] at this
  exact this
theorem sub_eq (p q : Rat) : p - q = Rat.divInt (p.num * q.den - q.num * p.den) ((p.den : Int) * q.den) := by
  rw [Rat.sub_eq_add_neg, add_eq]
  rw [Rat.neg_num, Rat.neg_den, Int.neg_mul, ← Int.sub_eq_add_neg]
theorem mul_eq (p q : Rat) : p * q = Rat.divInt (p.num * q.num) ((p.den : Int) * q.den) := by
  have := Rat.divInt_mul_divInt p.num q.num (d₁ := p.den) (d₂ := q.den)
  rw [Rat.num_divInt_den, Rat.num_divInt_den] at this
  exact this
theorem div_eq (p q : Rat) (h : q ≠ 0) : p / q = Rat.divInt (p.num * q.den) ((p.den : Int) * q.num) := by
  rw [Rat.div_def, mul_eq]
  have hq : q.num ≠ 0 := fun z => h (Rat.num_eq_zero.mp z)
  have e : q⁻¹ = Rat.divInt q.den q.num := by
    have := Rat.inv_divInt q.num q.den
    rw [Rat.num_divInt_den] at this
    exact this
  rw [← mul_eq, e]
  have := Rat.divInt_mul_divInt p.num q.den (d₁ := p.den) (d₂ := q.num)
  rw [Rat.num_divInt_den] at this
  exact this
theorem lt_iff' (p q : Rat) : p < q ↔ p.num * q.den < q.num * p.den := Rat.lt_iff p q
theorem Rz.add {n l m : Nat} {p q : Rat} (h : Rz n p) (k : Rz l q) (hl : n + l < m) : Rz m (p + q) := by
  rw [add_eq]
  exact Rz.divInt (Sz.add (n := n + l) ((h.1.mul k.2).mono (by omega)) ((k.1.mul h.2).mono (by omega)) hl) ((h.2.mul k.2).mono (by omega)) (by omega)
theorem Rz.sub {n l m : Nat} {p q : Rat} (h : Rz n p) (k : Rz l q) (hl : n + l < m) : Rz m (p - q) := by
  rw [sub_eq]
  exact Rz.divInt (Sz.sub (n := n + l) ((h.1.mul k.2).mono (by omega)) ((k.1.mul h.2).mono (by omega)) hl) ((h.2.mul k.2).mono (by omega)) (by omega)
theorem Rz.mul {n l m : Nat} {p q : Rat} (h : Rz n p) (k : Rz l q) (hl : n + l < m) : Rz m (p * q) := by
  rw [mul_eq]
  exact Rz.divInt ((h.1.mul k.1).mono (by omega)) ((h.2.mul k.2).mono (by omega)) (by omega)
theorem Rz.div {n l m : Nat} {p q : Rat} (h : Rz n p) (k : Rz l q) (z : q ≠ 0) (hl : n + l < m) : Rz m (p / q) := by
  rw [div_eq p q z]
  exact Rz.divInt ((h.1.mul k.2).mono (by omega)) ((h.2.mul k.1).mono (by omega)) (by omega)
theorem Rz.int {n : Nat} {i : Int} (h : Sz n i) (h0 : 0 < n) : Rz n (i : Rat) := ⟨h, (by show 1 < 2 ^ n; exact Nat.one_lt_two_pow (by omega))⟩
theorem Sz.floor {n : Nat} {q : Rat} (h : Rz n q) : Sz n q.floor := by
  unfold Sz
  rw [Rat.floor_def]
  exact Nat.lt_of_le_of_lt (Int.natAbs_ediv_le_natAbs _ _) h.1
theorem neg_div_ceil (q : Rat) : -(-q.num / (q.den : Int)) = q.ceil := by
  have := Rat.ceil_eq_neg_floor_neg q
  rw [this, Rat.floor_def, Rat.neg_num, Rat.neg_den]
theorem Rz.neg {n : Nat} {q : Rat} (h : Rz n q) : Rz n (-q) := ⟨by rw [Rat.neg_num]; exact h.1.neg, by rw [Rat.neg_den]; exact h.2⟩
theorem Sz.ceil {n : Nat} {q : Rat} (h : Rz n q) : Sz n q.ceil := by
  rw [Rat.ceil_eq_neg_floor_neg]
  exact (Sz.floor h.neg).neg
theorem Sz.of {n : Nat} {i : Int} (h1 : -(2 ^ n) < i) (h2 : i < 2 ^ n) : Sz n i := by
  unfold Sz
  have e : ((2 ^ n : Nat) : Int) = (2 : Int) ^ n := by simp
  omega
end MM
namespace MM
/-! the calendar's mathematics: floor, ceil, and the steps of months and marks -/
structure Fit (m y : Rat) : Prop where
  one : 1 ≤ m
  between : (m.ceil : Rat) ≤ y / 12
  thirteen : y + 1 ≤ 13 * m
theorem Fit.pos {m y : Rat} (f : Fit m y) : 0 < m := by
  have := f.one
  grind
theorem Fit.ypos {m y : Rat} (f : Fit m y) : 0 < y / 12 := by
  have h1 := f.one
  have h2 := f.between
  have h3 : m ≤ (m.ceil : Rat) := Rat.le_ceil
  grind
def stF (m o : Rat) (k : Int) : Int := (o + k * m).floor
def mdF (y k : Rat) (j : Int) : Int := (k + j * (y / 12)).floor
def maF (m o : Rat) (d : Int) : Int := ((((d + 1 : Int) : Rat) - o) / m).ceil - 1
def jF (y k : Rat) (d : Int) : Int := (((d : Rat) - k) / (y / 12)).ceil
theorem lt_ceil_iff {q : Rat} {i : Int} : i < q.ceil ↔ (i : Rat) < q := by
  have h : q.ceil ≤ i ↔ q ≤ (i : Rat) := Rat.ceil_le_iff
  constructor
  · intro hi
    have : ¬ q.ceil ≤ i := by omega
    rw [h] at this
    exact Rat.not_le.mp this
  · intro hi
    have : ¬ q ≤ (i : Rat) := Rat.not_le.mpr hi
    rw [← h] at this
    omega
theorem floor_le_iff {q : Rat} {i : Int} : q.floor ≤ i ↔ q < ((i + 1 : Int) : Rat) := by
  have h := Rat.floor_lt_iff (a := q) (x := i + 1)
  rw [← h]
  omega
/-- the months up to K begin by the day d -/
theorem st_le {m o : Rat} (hm : 0 < m) {k d : Int} : stF m o k ≤ d ↔ k ≤ maF m o d := by
  unfold stF maF
  rw [floor_le_iff]
  have e : k ≤ ((((d + 1 : Int) : Rat) - o) / m).ceil - 1 ↔ k < ((((d + 1 : Int) : Rat) - o) / m).ceil := by omega
  rw [e, lt_ceil_iff, Rat.lt_div_iff hm]
  constructor <;> intro h <;> grind
theorem ma_of {m o : Rat} (hm : 0 < m) {k d : Int} (h1 : stF m o k ≤ d) (h2 : d < stF m o (k + 1)) : maF m o d = k := by
  have a := (st_le hm).mp h1
  have b : ¬ k + 1 ≤ maF m o d := fun z => by
    have := (st_le hm).mpr z
    omega
  omega
theorem st_ma {m o : Rat} (hm : 0 < m) (d : Int) : stF m o (maF m o d) ≤ d := (st_le hm).mpr (Int.le_refl _)
theorem ma_st {m o : Rat} (hm : 0 < m) (d : Int) : d < stF m o (maF m o d + 1) := by
  have : ¬ stF m o (maF m o d + 1) ≤ d := fun z => by
    have := (st_le hm).mp z
    omega
  omega
theorem cast_add1 (k : Int) : ((k + 1 : Int) : Rat) = (k : Rat) + 1 := by
  rw [Rat.intCast_add]
  rfl
theorem st_step {m o : Rat} (hm : 1 ≤ m) (k : Int) : stF m o k + 1 ≤ stF m o (k + 1) := by
  unfold stF
  rw [Rat.le_floor_iff, cast_add1, cast_add1]
  have h := Rat.floor_le (o + (k : Rat) * m)
  grind
theorem md_lt {y k : Rat} (hy : 0 < y / 12) {j d : Int} : mdF y k j < d ↔ j < jF y k d := by
  unfold mdF jF
  rw [Rat.floor_lt_iff, lt_ceil_iff, Rat.lt_div_iff hy]
  constructor <;> intro h <;> grind
theorem md_ge {y k : Rat} (hy : 0 < y / 12) (d : Int) : d ≤ mdF y k (jF y k d) := by
  have : ¬ mdF y k (jF y k d) < d := fun z => by
    have := (md_lt hy).mp z
    omega
  omega
/-- of two months in a row one has a mark -/
theorem two_months {m y o k : Rat} (f : Fit m y) (i : Int) : mdF y k (jF y k (stF m o (i - 1))) < stF m o (i + 1) := by
  have hy := f.ypos
  have h1 : mdF y k (jF y k (stF m o (i - 1)) - 1) < stF m o (i - 1) := (md_lt hy).mpr (by omega)
  unfold mdF at h1 ⊢
  rw [Rat.floor_lt_iff] at h1 ⊢
  have e1 : ((jF y k (stF m o (i - 1)) - 1 : Int) : Rat) = (jF y k (stF m o (i - 1)) : Rat) - 1 := by rw [Rat.intCast_sub]; rfl
  rw [e1] at h1
  have h2 : ((stF m o (i - 1) : Int) : Rat) ≤ o + ((i - 1 : Int) : Rat) * m := Rat.floor_le _
  have h3 : o + ((i + 1 : Int) : Rat) * m - 1 < ((stF m o (i + 1) : Int) : Rat) := Rat.lt_floor
  have e2 : ((i - 1 : Int) : Rat) = (i : Rat) - 1 := by rw [Rat.intCast_sub]; rfl
  rw [e2] at h2
  rw [cast_add1] at h3
  have a := f.one
  have b := f.thirteen
  have c : y / 12 ≤ 2 * m - 1 := by grind
  grind
theorem k0_le {m o : Rat} (hm : 0 < m) (d : Int) : (((d : Rat) - o) / m).floor - 1 ≤ maF m o d := by
  have h : ((((d : Rat) - o) / m).floor - 1) < ((((d + 1 : Int) : Rat) - o) / m).ceil := by
    rw [lt_ceil_iff, Rat.intCast_sub]
    have h1 := Rat.floor_le (((d : Rat) - o) / m)
    have h2 : ((d : Rat) - o) / m < (((d + 1 : Int) : Rat) - o) / m := by
      rw [cast_add1, Rat.lt_div_iff hm, Rat.div_mul_cancel (by grind)]
      grind
    have h3 : ((1 : Int) : Rat) = 1 := rfl
    grind
  unfold maF
  omega
theorem j0_le {y k : Rat} (d : Int) : (((d : Rat) - k) / (y / 12)).floor - 1 ≤ jF y k d := by
  have h : (((d : Rat) - k) / (y / 12)).floor ≤ (((d : Rat) - k) / (y / 12)).ceil := Rat.intCast_le_intCast.mp (Rat.le_trans (Rat.floor_le _) Rat.le_ceil)
  unfold jF
  omega
end MM
namespace MM
theorem floor_divInt {t b : Int} (hb : 0 < b) : (Rat.divInt t b).floor = t / b := by
  rw [Rat.floor_def]
  have h := Rat.num_divInt_den (Rat.divInt t b)
  have hd := den_pos (Rat.divInt t b)
  rw [Rat.divInt_eq_divInt_iff (by omega) (by omega)] at h
  have e1 : t / b = (t * ((Rat.divInt t b).den : Int)) / (b * ((Rat.divInt t b).den : Int)) := (Int.mul_ediv_mul_of_pos_left _ _ hd).symm
  rw [e1, ← h, Int.mul_comm b, Int.mul_ediv_mul_of_pos_left _ _ hb]
theorem inv_eq (q : Rat) : q⁻¹ = Rat.divInt q.den q.num := by
  have := Rat.inv_divInt q.num q.den
  rw [Rat.num_divInt_den] at this
  exact this
theorem div12 (x y : Rat) (hy : y ≠ 0) : Rat.divInt (x.num * 12 * y.den) ((x.den : Int) * y.num) = x / (y / 12) := by
  have e : x / (y / 12) = x * 12 * y⁻¹ := by grind
  rw [e, inv_eq]
  have h1 : x * 12 = Rat.divInt (x.num * 12) ((x.den : Int) * 1) := by
    have h := Rat.divInt_mul_divInt x.num 12 (d₁ := x.den) (d₂ := 1)
    rw [Rat.num_divInt_den] at h
    exact h
  rw [h1, Rat.divInt_mul_divInt, Int.mul_one]
theorem Sz.between {n : Nat} {a x b : Int} (ha : Sz n a) (hb : Sz n b) (h1 : a ≤ x) (h2 : x ≤ b) : Sz n x := by
  unfold Sz at *
  omega
theorem Fit.ypos' {m y : Rat} (f : Fit m y) : 0 < y := by
  have := f.ypos
  grind
theorem num_pos {q : Rat} (h : 0 < q) : 0 < q.num := by
  have := (lt_iff' 0 q).mp h
  rw [show (0 : Rat).num = 0 from rfl, show (0 : Rat).den = 1 from rfl] at this
  omega
end MM
namespace MM
theorem unit_divInt {t b : Int} (h0 : 0 ≤ t) (h1 : t ≤ b) (hb : 0 < b) : 0 ≤ Rat.divInt t b ∧ Rat.divInt t b ≤ 1 := by
  have hb' : (0 : Rat) < (b : Rat) := Rat.intCast_lt_intCast.mpr hb
  have h0' : (0 : Rat) ≤ (t : Rat) := Rat.intCast_le_intCast.mpr h0
  have h1' : (t : Rat) ≤ (b : Rat) := Rat.intCast_le_intCast.mpr h1
  rw [Rat.divInt_eq_div]
  have e : (t : Rat) / (b : Rat) * (b : Rat) = t := Rat.div_mul_cancel (by grind)
  refine ⟨?_, ?_⟩
  · apply Rat.not_lt.mp
    intro z
    have := Rat.mul_lt_mul_of_pos_right z hb'
    grind
  · apply Rat.not_lt.mp
    intro z
    have := Rat.mul_lt_mul_of_pos_right z hb'
    grind
theorem cast_sub1 (w : Int) : ((w - 1 : Int) : Rat) = (w : Rat) - 1 := by
  rw [Rat.intCast_sub]
  rfl
theorem cast_12 (w : Int) : ((12 * w : Int) : Rat) = 12 * (w : Rat) := by
  rw [Rat.intCast_mul]
  rfl
/-- the law's drawn month and year make a calendar -/
theorem fit_drawn {w : Int} (hw : 1 ≤ w) {s r : Rat} (s0 : 0 ≤ s) (s1 : s ≤ 1) (r0 : 0 ≤ r) (r1 : r ≤ 1) :
    Fit ((((12 * w + 1 : Int) : Rat) + s * ((w - 1 : Int) : Rat)) * Rat.divInt 1 13) (((12 * w : Int) : Rat) + r * s * ((w - 1 : Int) : Rat)) := by
  have hW : (1 : Rat) ≤ (w : Rat) := Rat.intCast_le_intCast.mpr hw
  rw [cast_add1, cast_12, cast_sub1, Rat.divInt_eq_div]
  have a0 : 0 ≤ s * ((w : Rat) - 1) := Rat.mul_nonneg s0 (by grind)
  have a1 : s * ((w : Rat) - 1) ≤ 1 * ((w : Rat) - 1) := Rat.mul_le_mul_of_nonneg_right s1 (by grind)
  have b0 : 0 ≤ r * (s * ((w : Rat) - 1)) := Rat.mul_nonneg r0 a0
  have b1 : r * (s * ((w : Rat) - 1)) ≤ 1 * (s * ((w : Rat) - 1)) := Rat.mul_le_mul_of_nonneg_right r1 a0
  have e : r * s * ((w : Rat) - 1) = r * (s * ((w : Rat) - 1)) := Rat.mul_assoc _ _ _
  rw [e]
  have c1 : ((1 : Int) : Rat) = 1 := rfl
  have c13 : ((13 : Int) : Rat) = 13 := rfl
  rw [c1, c13]
  generalize s * ((w : Rat) - 1) = z at *
  generalize r * z = u at *
  refine ⟨by grind, ?_, by grind⟩
  have h : ((12 * (w : Rat) + 1 + z) * (1 / 13)).ceil ≤ w := Rat.ceil_le_iff.mpr (by grind)
  have h' : (((12 * (w : Rat) + 1 + z) * (1 / 13)).ceil : Rat) ≤ (w : Rat) := Rat.intCast_le_intCast.mpr h
  grind
end MM
namespace MM
open PySem PySem.Spec PyProof.Rows L2
/-! ### defs and their calls -/
/-- a def of the module under its name, with its defaults -/
structure Df (K : PySem.W.Frag) (mg : Str → Option Value) (x : Str) (st : Stmt) (dvs : List V) : Prop where
  ex : ∃ (f : Addr) (fd : FuncData), FunD K x x (defArgs st) (defBody st) (defScope st) dvs [] f fd ∧ mg x = some (.ref f)
/-- what is known of a def that is called: its promise, how it is bound -/
structure Ca (P : Program) (w : World) (K : PySem.W.Frag) (mg : Str → Option Value) (base : Heap) (CX : CXT) (k : Nat) (x : Str) (st : Stmt) (dvs : List V) (ps : List Str) (sp : Sp) : Prop where
  ex : ∃ (f : Addr) (fd : FuncData), FunD K x x (defArgs st) (defBody st) (defScope st) dvs [] f fd ∧ mg x = some (.ref f) ∧ FnOk P w K mg base CX k f fd ps sp
/-- the parameters of a def, all given by place -/
def Bd (x qual : Str) (st : Stmt) (ps : List Str) : Prop := ∀ (kV doc pm : Value) (an : Option Addr) (cdv ct : Value) (us : List Value), us.length = ps.length →
  bindArgs (PySem.W.fnOf x qual (defArgs st) (defBody st) (defScope st) .none kV doc pm an cdv ct) ⟨us, []⟩ = pure (ps.zip us)
section
variable {P : Program} {w : World} {K : PySem.W.Frag} {mg : Str → Option Value} {base : Heap} {x : Str} {st : Stmt} {dvs : List V} {N ps : List Str} {k : Nat} {sp : Sp}
theorem ca0 (D : Df K mg x st dvs) (S : FnScope N ps (defScope st)) (len : ∀ vs H Q E, sp vs H Q E → vs.length = ps.length)
    (body : ∀ (f : Addr) (cdv : Value) (A : Around) (outer : List Env) (s : Shared) (H : Hp) (vs : List V) (Q : VK) (E : XK), Room k (A.deeper (envOfC x (defScope st) s.heap.objs.size f cdv)) → sp vs H Q E →
      ∃ t, PSs (cxOf CX0 P w K mg base N x (defScope st) f cdv A outer s H E).nox (defBody st) t ∧ t { nx := fun _ H' => Q .non H', rt := Q } (start N vs) H) : Ca P w K mg base CX0 (k + 1) x st dvs ps sp := by
  obtain ⟨f, fd, F, hm⟩ := D.ex
  refine ⟨f, fd, F, hm, F.ok S len fun cdv A outer s H vs Q E hr h => ?_⟩
  obtain ⟨t, h1, h2⟩ := body f cdv A outer s H vs Q E hr h
  exact ⟨t, h1.nox, h2⟩
theorem caX (D : Df K mg x st dvs) (S : FnScope N ps (defScope st)) (len : ∀ vs H Q E, sp vs H Q E → vs.length = ps.length)
    (body : ∀ (f : Addr) (cdv : Value) (A : Around) (outer : List Env) (s : Shared) (H : Hp) (vs : List V) (Q : VK) (E : XK), Room k (A.deeper (envOfC x (defScope st) s.heap.objs.size f cdv)) → sp vs H Q E →
      ∃ t, PSs (cxOf (L2.CX P w) P w K mg base N x (defScope st) f cdv A outer s H E) (defBody st) t ∧ t { nx := fun _ H' => Q .non H', rt := Q } (start N vs) H) : Ca P w K mg base (L2.CX P w) (k + 1) x st dvs ps sp := by
  obtain ⟨f, fd, F, hm⟩ := D.ex
  exact ⟨f, fd, F, hm, F.ok S len fun cdv A outer s H vs Q E hr h => body f cdv A outer s H vs Q E hr h⟩
theorem FunD.none {qual : Str} {params : Arguments} {bodyS : List Stmt} {scope : Scope} {f : Addr} {fd : FuncData} (F : FunD K x qual params bodyS scope [] [] f fd) :
    ∃ (kV doc pm : Value) (an : Option Addr) (cdv ct : Value), fd = PySem.W.fnOf x qual params bodyS scope .none kV doc pm an cdv ct := by
  obtain ⟨oc, od, dV, kV, doc, pm, an, cdv, ct, osl, rfl, lk, hcd, hD, hK⟩ := F.ex
  rcases hD with ⟨_, rfl⟩ | ⟨e, _⟩
  · exact ⟨kV, doc, pm, an, cdv, ct, rfl⟩
  · exact absurd rfl e
end
section
variable {X : Cx} {CX : CXT} {k j n : Nat} {C : Addr} {x m : Str} {st : Stmt} {sp : Sp} {ps ks : List Str} {dvs : List V} {E : XK} {p pos apos : Pos} {e o : Expr} {es : List Expr} {kws : List Keyword} {ta : TE} {t tk : TA}
/-- f(e, ..), all parameters by place -/
theorem pe_ca (c : Ca X.prog X.w X.K X.mg X.base CX k x st [] ps sp) (b : Bd x x st ps) (hr : Room j X.A) (hk : k ≤ j) (hx : Passes CX X E) (hg : Gl X x) (ha : PA X (e :: es) t)
    (hdb : (x == ("__debug__" : Str)) = false := by decide) (he : starEach (e :: es) X.env = (false, eval e X.env) :: starEach es X.env := by rfl) (hpl : (backTo pos (starEach es X.env)).any (·.1) = false := by rfl) :
    PE X (.Call (.Name x p) (e :: es) [] pos) (tCall sp [] E t) := by
  obtain ⟨f, fd, F, hm, G⟩ := c.ex
  exact pe_call G (hr.mono hk) hg hm F.kp (F.bindsN b) .nil hx ha hdb he hpl
/-- how keywords bind where there is no default: g puts the places' values and the keywords' in order -/
structure Kb (x : Str) (st : Stmt) (n : Nat) (ks ps : List Str) (g : {α : Type} → List α → List α → List α) : Prop where
  bind : ∀ (kV doc pm : Value) (an : Option Addr) (cdv ct : Value) (us ws : List Value), us.length = n → ws.length = ks.length →
    bindArgs (PySem.W.fnOf x x (defArgs st) (defBody st) (defScope st) .none kV doc pm an cdv ct) ⟨us, ks.zip ws⟩ = pure (ps.zip (g us ws))
  rel : ∀ {vs zs : List V} {us ws : List Value}, vs.length = n → zs.length = ks.length → Vals vs us → Vals zs ws → Vals (g vs zs) (g us ws)
/-- f(k = v, ..) of a def without defaults -/
theorem pe_caK {g : {α : Type} → List α → List α → List α} (c : Ca X.prog X.w X.K X.mg X.base CX k x st [] ps sp) (b : Kb x st 0 ks ps g) (hr : Room j X.A) (hk : k ≤ j) (hx : Passes CX X E) (hg : Gl X x) (hkw : PK X kws tk)
    (hall : (backToKw pos (keywordEach kws X.env)).all (·.1.isSome) = true := by rfl) (hks : (backToKw pos (keywordEach kws X.env)).filterMap (·.1) = ks := by rfl) (hdb : (x == ("__debug__" : Str)) = false := by decide)
    (hpl : ((backTo pos (starEach [] X.env)).any (·.1) || (backToKw pos (keywordEach kws X.env)).any (·.1.isNone)) = false := by rfl) :
    PE X (.Call (.Name x p) [] kws pos) (fun σ H Q => tk σ H fun zs H2 => zs.length = ks.length ∧ sp (g [] zs) H2 Q E) := by
  obtain ⟨f, fd, F, hm, G⟩ := c.ex
  obtain ⟨kV, doc, pm, an, cdv, ct, rfl⟩ := FunD.none F
  refine ⟨fun pins s σ H Q I h => ?_⟩
  refine wpAny_Call_Name_kw (ld_glob I hg hm ?_ hdb)
  refine PySem.W.callWith_KW0 (h₀ := X.base) I.ok.mod.kin F.kp hall ?_ hpl
  refine thn (hkw.run pos pins s σ H _ I h) fun ws s2 ⟨zs, H2, I2, rz, l2, q2⟩ => ⟨I2.kIn, ?_⟩
  rw [hks]
  have r2 : Vals (g [] zs) (g [] ws) := b.rel rfl l2 .nil rz
  refine wpAny_call (codeAny_mono (G.run X.A X.stack s2 H2 ⟨[], ks.zip ws⟩ (g [] ws) (g [] zs) Q E (hr.mono hk) I2.env0 (.of_eq (b.bind kV doc pm an cdv ct [] ws rfl (rz.length.symm.trans l2))) r2 q2) fun r s' hq => ?_)
  match r, hq with
  | .error e, hq => exact hx pins σ H2 s2 e s' I2 hq
  | .ok (.ret u), hq => exact I2.after hq
  | .ok .next, hq => exact False.elim hq
  | .ok .brk, hq => exact False.elim hq
  | .ok .cont, hq => exact False.elim hq
end
/-! ### whole numbers -/
section
variable {X : Cx}
/-- // by any divisor but 0 -/
def CDivA (_ j : Int) : Prop := j ≠ 0 ∧ Sz 8900 j
theorem op_fdivA : OpR X (binaryOp .FloorDiv) (rI CDivA fun i j => .int (i.fdiv j)) := opI fun i j _ _ _ _ _ hc q =>
  PyProof.Rows.floordiv_int hc.1 q (.inl (PyProof.noPylong_of_log2 (Nat.lt_of_lt_of_le (PySem.Flt.log2_lt_of (by decide) hc.2) (by decide))))
/-- * of two numbers of some thousand bits -/
def CMulA (i j : Int) : Prop := Sz 100000 i ∧ Sz 100000 j
theorem op_mulA : OpR X (binaryOp .Mult) (rI CMulA fun i j => .int (i * j)) := opI fun i j _ _ _ _ _ hc q =>
  PyProof.Rows.mul_int q (CMulW.ok (wide_mul hc.1 hc.2 (by decide) (by decide) (by decide)))
end
/-! ### a pick out of a written list -/
theorem pick {α : Type} {xs : List α} {z : Int} {P : α → Prop} (h0 : 0 ≤ z) (h1 : z < xs.length) (h : ∀ x ∈ xs, P x) : ∃ v, atI xs z = some v ∧ P v := by
  have hl : z.toNat < xs.length := by omega
  refine ⟨xs[z.toNat], ?_, h _ (List.getElem_mem hl)⟩
  unfold atI ixN
  rw [if_pos h0, if_pos h1]
  exact List.getElem?_eq_getElem hl
end MM
namespace MM
open PySem PySem.Spec PyProof.Rows L2
/-- what binds where some parameters have defaults: n given by place, the defaults from the j-th on fill up -/
def Bd1 (x qual : Str) (st : Stmt) (ps : List Str) (n j m : Nat) : Prop := ∀ (T : Addr) (kV doc pm : Value) (an : Option Addr) (cdv ct : Value) (us its : List Value), us.length = n → its.length = m →
  ∃ k, bindArgs (PySem.W.fnOf x qual (defArgs st) (defBody st) (defScope st) (.ref T) kV doc pm an cdv ct) ⟨us, []⟩ = seqItems? (.ref T) >>= k ∧ k (some its.toArray) = pure (ps.zip (us ++ its.drop j))
/-- the __init__ of a class -/
structure Di (K : PySem.W.Frag) (mg : Str → Option Value) (x : Str) (C : Addr) (qual : Str) (st : Stmt) (dvs : List V) : Prop where
  ex : ∃ (f : Addr) (fd : FuncData), FunD K "__init__" qual (defArgs st) (defBody st) (defScope st) dvs [] f fd ∧ Mk K C f ∧ mg x = some (.ref C)
structure Ci (P : Program) (w : World) (K : PySem.W.Frag) (mg : Str → Option Value) (base : Heap) (CX : CXT) (k : Nat) (x : Str) (C : Addr) (qual : Str) (st : Stmt) (dvs : List V) (ps : List Str) (sp : Sp) : Prop where
  ex : ∃ (f : Addr) (fd : FuncData), FunD K "__init__" qual (defArgs st) (defBody st) (defScope st) dvs [] f fd ∧ Mk K C f ∧ mg x = some (.ref C) ∧ FnOk P w K mg base CX k f fd ps sp
/-- a method of a class -/
structure Dm (K : PySem.W.Frag) (C : Addr) (m qual : Str) (st : Stmt) : Prop where
  ex : ∃ (f : Addr) (fd : FuncData), FunD K m qual (defArgs st) (defBody st) (defScope st) [] [] f fd ∧ Meth K C m f ∧ Cls K C
structure Cm (P : Program) (w : World) (K : PySem.W.Frag) (mg : Str → Option Value) (base : Heap) (CX : CXT) (k : Nat) (C : Addr) (m qual : Str) (st : Stmt) (ps : List Str) (sp : Sp) : Prop where
  ex : ∃ (f : Addr) (fd : FuncData), FunD K m qual (defArgs st) (defBody st) (defScope st) [] [] f fd ∧ Meth K C m f ∧ Cls K C ∧ FnOk P w K mg base CX k f fd ps sp
section
variable {P : Program} {w : World} {K : PySem.W.Frag} {mg : Str → Option Value} {base : Heap} {x m qual : Str} {C : Addr} {st : Stmt} {dvs : List V} {N ps : List Str} {k : Nat} {sp : Sp}
theorem ci0 (D : Di K mg x C qual st dvs) (S : FnScope N ps (defScope st)) (len : ∀ vs H Q E, sp vs H Q E → vs.length = ps.length)
    (body : ∀ (f : Addr) (cdv : Value) (A : Around) (outer : List Env) (s : Shared) (H : Hp) (vs : List V) (Q : VK) (E : XK), Room k (A.deeper (envOfC qual (defScope st) s.heap.objs.size f cdv)) → sp vs H Q E →
      ∃ t, PSs (cxOf CX0 P w K mg base N qual (defScope st) f cdv A outer s H E).nox (defBody st) t ∧ t { nx := fun _ H' => Q .non H', rt := Q } (start N vs) H) : Ci P w K mg base CX0 (k + 1) x C qual st dvs ps sp := by
  obtain ⟨f, fd, F, M, hm⟩ := D.ex
  refine ⟨f, fd, F, M, hm, F.ok S len fun cdv A outer s H vs Q E hr h => ?_⟩
  obtain ⟨t, h1, h2⟩ := body f cdv A outer s H vs Q E hr h
  exact ⟨t, h1.nox, h2⟩
theorem ciX (D : Di K mg x C qual st dvs) (S : FnScope N ps (defScope st)) (len : ∀ vs H Q E, sp vs H Q E → vs.length = ps.length)
    (body : ∀ (f : Addr) (cdv : Value) (A : Around) (outer : List Env) (s : Shared) (H : Hp) (vs : List V) (Q : VK) (E : XK), Room k (A.deeper (envOfC qual (defScope st) s.heap.objs.size f cdv)) → sp vs H Q E →
      ∃ t, PSs (cxOf (L2.CX P w) P w K mg base N qual (defScope st) f cdv A outer s H E) (defBody st) t ∧ t { nx := fun _ H' => Q .non H', rt := Q } (start N vs) H) : Ci P w K mg base (L2.CX P w) (k + 1) x C qual st dvs ps sp := by
  obtain ⟨f, fd, F, M, hm⟩ := D.ex
  exact ⟨f, fd, F, M, hm, F.ok S len fun cdv A outer s H vs Q E hr h => body f cdv A outer s H vs Q E hr h⟩
theorem cm0 (D : Dm K C m qual st) (S : FnScope N ps (defScope st)) (len : ∀ vs H Q E, sp vs H Q E → vs.length = ps.length)
    (body : ∀ (f : Addr) (cdv : Value) (A : Around) (outer : List Env) (s : Shared) (H : Hp) (vs : List V) (Q : VK) (E : XK), Room k (A.deeper (envOfC qual (defScope st) s.heap.objs.size f cdv)) → sp vs H Q E →
      ∃ t, PSs (cxOf CX0 P w K mg base N qual (defScope st) f cdv A outer s H E).nox (defBody st) t ∧ t { nx := fun _ H' => Q .non H', rt := Q } (start N vs) H) : Cm P w K mg base CX0 (k + 1) C m qual st ps sp := by
  obtain ⟨f, fd, F, M, hc⟩ := D.ex
  refine ⟨f, fd, F, M, hc, F.ok S len fun cdv A outer s H vs Q E hr h => ?_⟩
  obtain ⟨t, h1, h2⟩ := body f cdv A outer s H vs Q E hr h
  exact ⟨t, h1.nox, h2⟩
end
section
variable {X : Cx} {CX : CXT} {k j n d : Nat} {C : Addr} {x m qual : Str} {st : Stmt} {sp : Sp} {ps ks : List Str} {dvs : List V} {E : XK} {p pos apos : Pos} {e o : Expr} {es : List Expr} {kws : List Keyword} {ta : TE} {t tk : TA}
/-- C(e, ..): n values, then the defaults from the d-th on; n counts self too -/
theorem pe_ci (c : Ci X.prog X.w X.K X.mg X.base CX k x C qual st dvs ps sp) (b : Bd1 "__init__" qual st ps n d dvs.length) (hd : dvs ≠ []) (hn : n + (dvs.length - d) = ps.length) (hr : Room j X.A) (hk : k + 1 ≤ j) (hx : Passes CX X E) (hg : Gl X x) (ha : PA X (e :: es) t)
    (hdb : (x == ("__debug__" : Str)) = false := by decide) (he : starEach (e :: es) X.env = (false, eval e X.env) :: starEach es X.env := by rfl) (hpl : (backTo pos (starEach es X.env)).any (·.1) = false := by rfl) :
    PE X (.Call (.Name x p) (e :: es) [] pos) (tMake C sp (dvs.drop d) E t) := by
  obtain ⟨f, fd, F, M, hm, G⟩ := c.ex
  obtain ⟨ds, r, bb⟩ := F.binds1 n d hd hn b
  exact pe_make M G (hr.mono hk) hg hm bb r hx ha hdb he hpl
/-- o.m(e, ..) -/
theorem pe_cm {pl : Sem Bool} (c : Cm X.prog X.w X.K X.mg X.base CX k C m qual st ps sp) (b : Bd m qual st ps) (hr : Room j X.A) (hk : k ≤ j) (hx : Passes CX X E) (he : PE X o ta) (ha : PA X (e :: es) t)
    (hst : starEach (e :: es) X.env = (false, eval e X.env) :: starEach es X.env := by rfl) (hpl : (backTo pos (starEach es X.env)).any (·.1) = false := by rfl)
    (ht : eval (.Call (.Attribute o m apos) (e :: es) [] pos) X.env = (eval o X.env >>= fun ov => standAt apos.atName >>= fun _ => holding [ov] (getMethod ov m pl) >>= fun q => callWith pos q.1 q.2 (backTo pos (starEach (e :: es) X.env)) (backToKw pos (keywordEach [] X.env))) := by rfl) :
    PE X (.Call (.Attribute o m apos) (e :: es) [] pos) (tMeth C m sp [] E ta t) := by
  obtain ⟨f, fd, F, M, hc, G⟩ := c.ex
  exact pe_meth (pl := pl) he hc M G (hr.mono hk) (F.bindsN b) .nil hx ha hst hpl ht
/-- how keywords bind in a method, or a def, without defaults -/
structure Kbm (x qual : Str) (st : Stmt) (n : Nat) (ks ps : List Str) (g : {α : Type} → List α → List α → List α) : Prop where
  bind : ∀ (kV doc pm : Value) (an : Option Addr) (cdv ct : Value) (us ws : List Value), us.length = n → ws.length = ks.length →
    bindArgs (PySem.W.fnOf x qual (defArgs st) (defBody st) (defScope st) .none kV doc pm an cdv ct) ⟨us, ks.zip ws⟩ = pure (ps.zip (g us ws))
  rel : ∀ {vs zs : List V} {us ws : List Value}, vs.length = n → zs.length = ks.length → Vals vs us → Vals zs ws → Vals (g vs zs) (g us ws)
/-- o.m(k = v, ..) -/
theorem pe_cmK {pl : Sem Bool} {g : {α : Type} → List α → List α → List α} (c : Cm X.prog X.w X.K X.mg X.base CX k C m qual st ps sp) (b : Kbm m qual st 1 ks ps g) (hr : Room j X.A) (hk : k ≤ j) (hx : Passes CX X E) (he : PE X o ta) (hkw : PK X kws tk)
    (hall : (backToKw pos (keywordEach kws X.env)).all (·.1.isSome) = true := by rfl) (hks : (backToKw pos (keywordEach kws X.env)).filterMap (·.1) = ks := by rfl)
    (hpl : ((backTo pos (starEach [] X.env)).any (·.1) || (backToKw pos (keywordEach kws X.env)).any (·.1.isNone)) = false := by rfl)
    (ht : eval (.Call (.Attribute o m apos) [] kws pos) X.env = (eval o X.env >>= fun ov => standAt apos.atName >>= fun _ => holding [ov] (getMethod ov m pl) >>= fun q => callWith pos q.1 q.2 (backTo pos (starEach [] X.env)) (backToKw pos (keywordEach kws X.env))) := by rfl) :
    PE X (.Call (.Attribute o m apos) [] kws pos) (fun σ H Q => ta σ H fun x H1 => ∃ a dx fs, x = .ref a ∧ H1 a = some (.ins C dx fs) ∧ fs.lookup m = none ∧ tk σ H1 fun zs H2 => zs.length = ks.length ∧ sp (g [.ref a] zs) H2 Q E) := by
  obtain ⟨f, fd, F, M, hc, G⟩ := c.ex
  obtain ⟨kV, doc, pm, an, cdv, ct, rfl⟩ := FunD.none F
  refine ⟨fun pins s σ H Q I h => ?_⟩
  refine PySem.W.methodCall_KW (pl := pl) (thn (he.run pins s σ H _ I h) fun u s1 ⟨y, H1, I1, ry, a, dx, fs, ey, ea, l, q⟩ => ?_) ht
  subst ey
  obtain rfl : u = Value.ref a := ry
  refine getmeth_ok I1 ea hc M l ?_
  refine PySem.W.callWith_KW0 (first := [.ref a]) (h₀ := X.base) I.ok.mod.kin M.kp hall ?_ hpl
  refine thn (hkw.run pos pins s1 σ H1 _ I1 q) fun ws s2 ⟨zs, H2, I2, rz, l2, q2⟩ => ⟨I2.kIn, ?_⟩
  rw [hks]
  have r2 : Vals (g [V.ref a] zs) (g [Value.ref a] ws) := b.rel rfl l2 (.cons rfl .nil) rz
  refine wpAny_call (codeAny_mono (G.run X.A X.stack s2 H2 ⟨[.ref a], ks.zip ws⟩ (g [.ref a] ws) (g [.ref a] zs) Q E (hr.mono hk) I2.env0 (.of_eq (b.bind kV doc pm an cdv ct [.ref a] ws rfl (rz.length.symm.trans l2))) r2 q2) fun r s' hq => ?_)
  match r, hq with
  | .error e, hq => exact hx pins σ H2 s2 e s' I2 hq
  | .ok (.ret u), hq => exact I2.after hq
  | .ok .next, hq => exact False.elim hq
  | .ok .brk, hq => exact False.elim hq
  | .ok .cont, hq => exact False.elim hq
end
/-- the keywords take their places: one self, the keywords in the parameters' order -/
def g1 {α : Type} : List α → List α → List α := fun us ws => us ++ ws
theorem g1_rel {n m : Nat} {vs zs : List V} {us ws : List Value} (_ : vs.length = n) (_ : zs.length = m) (h : Vals vs us) (k : Vals zs ws) : Vals (g1 vs zs) (g1 us ws) := h.append k
/-- how C(.., k = v, ..) binds where __init__ has defaults -/
structure Kd (qual : Str) (st : Stmt) (dn n : Nat) (ks ps : List Str) (g : {α : Type} → List α → List α → List α → List α) : Prop where
  bind : ∀ (T : Addr) (kV doc pm : Value) (an : Option Addr) (cdv ct : Value) (us its ws : List Value), us.length = n → its.length = dn → ws.length = ks.length →
    ∃ k, bindArgs (PySem.W.fnOf "__init__" qual (defArgs st) (defBody st) (defScope st) (.ref T) kV doc pm an cdv ct) ⟨us, ks.zip ws⟩ = seqItems? (.ref T) >>= k ∧ k (some its.toArray) = pure (ps.zip (g us its ws))
  rel : ∀ {vs ds zs : List V} {us its ws : List Value}, Vals vs us → Vals ds its → Vals zs ws → Vals (g vs ds zs) (g us its ws)
section
variable {X : Cx} {CX : CXT} {k j n d : Nat} {C : Addr} {x m qual : Str} {st : Stmt} {sp : Sp} {ps ks : List Str} {dvs : List V} {E : XK} {p pos apos : Pos} {e o : Expr} {es : List Expr} {kws : List Keyword} {ta : TE} {t tk : TA}
theorem pe_ciK0 {g : {α : Type} → List α → List α → List α → List α} (c : Ci X.prog X.w X.K X.mg X.base CX k x C qual st dvs ps sp) (b : Kd qual st dvs.length 1 ks ps g) (hd : dvs ≠ []) (hr : Room j X.A) (hk : k + 1 ≤ j) (hx : Passes CX X E) (hg : Gl X x) (hkw : PK X kws tk)
    (hall : (backToKw pos (keywordEach kws X.env)).all (·.1.isSome) = true := by rfl) (hks : (backToKw pos (keywordEach kws X.env)).filterMap (·.1) = ks := by rfl) (hdb : (x == ("__debug__" : Str)) = false := by decide)
    (hpl : ((backTo pos (starEach [] X.env)).any (·.1) || (backToKw pos (keywordEach kws X.env)).any (·.1.isNone)) = false := by rfl) :
    PE X (.Call (.Name x p) [] kws pos) (tMakeK C 0 ks.length sp (fun vs zs => g vs dvs zs) E tNil tk) := by
  obtain ⟨f, fd, F, M, hm, G⟩ := c.ex
  obtain ⟨its, hb⟩ := F.kbindsD 1 ks g hd b.rel b.bind
  exact pe_makeK0 M G (hr.mono hk) hg hm hb hx hkw hall hks hdb hpl
theorem pe_ciK {g : {α : Type} → List α → List α → List α → List α} (c : Ci X.prog X.w X.K X.mg X.base CX k x C qual st dvs ps sp) (b : Kd qual st dvs.length (n + 1) ks ps g) (hd : dvs ≠ []) (hr : Room j X.A) (hk : k + 1 ≤ j) (hx : Passes CX X E) (hg : Gl X x) (ha : PA X (e :: es) t) (hkw : PK X kws tk)
    (hall : (backToKw pos (keywordEach kws X.env)).all (·.1.isSome) = true := by rfl) (hks : (backToKw pos (keywordEach kws X.env)).filterMap (·.1) = ks := by rfl) (hdb : (x == ("__debug__" : Str)) = false := by decide)
    (he : starEach (e :: es) X.env = (false, eval e X.env) :: starEach es X.env := by rfl) (hpl : ((backTo pos (starEach (e :: es) X.env)).any (·.1) || (backToKw pos (keywordEach kws X.env)).any (·.1.isNone)) = false := by rfl) :
    PE X (.Call (.Name x p) (e :: es) kws pos) (tMakeK C n ks.length sp (fun vs zs => g vs dvs zs) E t tk) := by
  obtain ⟨f, fd, F, M, hm, G⟩ := c.ex
  obtain ⟨its, hb⟩ := F.kbindsD (n + 1) ks g hd b.rel b.bind
  exact pe_makeK M G (hr.mono hk) hg hm hb hx ha hkw hall hks hdb he hpl
end
end MM
namespace MM
open PySem PySem.Spec PyProof.Rows L2
/-! ### range(a, b) of numbers of any size -/
theorem turn_long {P : Program} {w : World} {K : PySem.W.Frag} {tg : Expr} (it : Addr) (lo : Int) (n : Nat) : Turn P w K tg (Itr lo n) [it] it (fun i h => IsLongIter h it (lo + (i : Nat) * 1) ((n : Int) - (i : Nat)) 1) := by
  refine { mem := List.mem_singleton.mpr rfl, obj := fun i h st b hb => ?_, keep := fun i h h' st k => k it (List.mem_singleton.mpr rfl) _ st, item := ?_, done := ?_, self := fun _ _ _ _ _ st h => wpAny_pyIter_longiter st h }
  · cases List.mem_singleton.mp hb
    exact ⟨_, st, fun v z => nomatch (show Data.fields _ = Data.cell v from z)⟩
  · intro X hP hw hK hc i pins s σ H E I hf st hg
    subst hP; subst hw; subst hK
    obtain ⟨f0, f1, f2, f3, f4, f5⟩ := hf it (List.mem_singleton.mpr rfl)
    refine (Walks.longrange (prog := X.prog) (w := X.w) (I.ok.hd hc) it lo 1 n).item i s _ _ hg st fun v h' tk hv st' kk => ?_
    obtain ⟨t, rfl⟩ := hv
    have J : Inv X pins σ H { s with heap := h', toks := tk } := I.turned (fun b o hb e => kk b o (fun z => hb (List.mem_singleton.mp z)) e) f0 f1 f3 f4 f5
    refine ⟨_, rfl, go_of (s := { s with heap := h', toks := tk }) (n := "longrange_iterator") st' rfl rfl (by decide) ⟨.int (lo + i), H, J, ⟨t, ?_⟩, ⟨rfl, rfl⟩, st', fun b hb => (hf b hb).1⟩⟩
    rw [Int.mul_one]
  · intro X hP hw hK hc i pins s σ H E I hf st hg
    subst hP; subst hw; subst hK
    obtain ⟨f0, f1, f2, f3, f4, f5⟩ := hf it (List.mem_singleton.mpr rfl)
    have hl : n ≤ i := hg
    exact wpAny_pyNext_long_end (I.ok.hd hc) st (by omega) fun h' eb => ⟨rfl, I.turned (t' := s.toks) (fun b o hb e => eb b o hb e) f0 f1 f3 f4 f5⟩
section
variable {X : Cx} {tg : Expr}
theorem long_it {pins : List (Addr × Obj)} {σ : L2.St} {H : Hp} {s : Shared} {R : It → Hp → Prop} {E : Value → Shared → Prop} {lo hi : Int} {t u v : Tok} {tk : Nat} (I : Inv X pins σ H s) (q : R (Itr lo (hi - lo).toNat) H) :
    wpAny (model X.prog X.w) X.A (pyIter (.ref s.heap.objs.size)) (PIE X pins σ tg R) E { s with heap := s.heap.push { cls := .type "range", data := .fields #[.int lo t, .int hi u, .int 1 v] }, toks := tk } := by
  have J : Inv X pins σ H { s with heap := s.heap.push { cls := .type "range", data := .fields #[.int lo t, .int hi u, .int 1 v] }, toks := tk } := I.kept fun b o e => Heap.get?_push_of_some _ e
  have e0 : lo + ((0 : Nat) : Int) * 1 = lo := by simp
  have e1 : (((hi - lo).toNat : Nat) : Int) - ((0 : Nat) : Int) = Builtin.Range.rangeSize lo hi 1 := by
    rw [rangeSize_one]
    split <;> omega
  cases hsm : Builtin.Range.small lo hi 1 with
  | true =>
    refine wpAny_pyIter_range (IsRange.new ..) hsm ⟨_, [_], _, _, H, rfl, J.kept (t' := tk) fun b o e => Heap.get?_push_of_some _ e, turn_range _ lo (hi - lo).toNat, ?_, fun b hb => ?_, q⟩
    · show IsRangeIter _ _ (lo + ((0 : Nat) : Int) * 1) ((((hi - lo).toNat : Nat) : Int) - ((0 : Nat) : Int)) 1
      rw [e0, e1]
      exact Heap.get?_push_size _ rfl
    · cases List.mem_singleton.mp hb
      exact J.fpOk (Nat.le_refl _) (J.hok.fresh (Nat.le_refl _))
  | false =>
    refine wpAny_pyIter_longrange (IsRange.new ..) hsm ⟨_, [_], _, _, H, rfl, J.kept (t' := tk) fun b o e => Heap.get?_push_of_some _ e, turn_long _ lo (hi - lo).toNat, ?_, fun b hb => ?_, q⟩
    · show IsLongIter _ _ (lo + ((0 : Nat) : Int) * 1) ((((hi - lo).toNat : Nat) : Int) - ((0 : Nat) : Int)) 1
      rw [e0, e1]
      exact Heap.get?_push_size _ rfl
    · cases List.mem_singleton.mp hb
      exact J.fpOk (Nat.le_refl _) (J.hok.fresh (Nat.le_refl _))
def iRngA (ta : TA) : TI := fun σ H R => ta σ H fun vs H1 => ∃ i j : Int, vs = [.int i, .int j] ∧ R (Itr i (j - i).toNat) H1
theorem pi_rangeA {a b : Expr} {ta : TA} {p pos : Pos} (hg : Gl X "range") (hm : X.mg "range" = none) (ha : PA X [a, b] ta) (hs : starEach [a, b] X.env = [(false, eval a X.env), (false, eval b X.env)] := by rfl) (hs2 : starEach [b] X.env = [(false, eval b X.env)] := by rfl) :
    PI X tg (.Call (.Name "range" p) [a, b] [] pos) (iRngA ta) := by
  refine ⟨fun pins s σ H R I h => Call_ (ld_blt I hg hm boot_range (PyProof.Rows.callWith_type1 (thn (ha.run pos pins s σ H _ I h) fun us s1 ⟨vs, H1, I1, r1, q1⟩ => ?_) (by rw [hs, hs2]) (by rw [hs2]; rfl)))⟩
  obtain ⟨i, j, e, q⟩ := q1
  subst e
  obtain ⟨u1, u2, rfl, ⟨t, rfl⟩, ⟨t', rfl⟩⟩ := vals2 r1
  exact call_range_2 (long_it I1 q)
end
end MM
namespace MM
open PySem PySem.Spec PyProof.Rows L2
section
variable {K : PySem.W.Frag} {h : Heap} {mg : Str → Option Value} {x m qual : Str} {st : Stmt} {f C T : Addr} {oc kV doc pm cdv ct cT : Value} {od an dT : Option Addr} {osl sT : Array (Option Value)} {nT : Nat}
theorem df_mk (X : K.In h) (G : h.Ns mainGlobals mg) (a : PySem.W.nsIn K mainGlobals x = some (some (.ref f))) (l : K.lookup f = some ⟨oc, od, .func (PySem.W.fnOf x x (defArgs st) (defBody st) (defScope st) .none kV doc pm an cdv ct), osl⟩)
    (c : PySem.W.codeIn K cdv x = true) (k : PySem.W.keepIn K (.ref f) = true) : Df K mg x st [] :=
  ⟨f, _, ⟨⟨oc, od, .none, kV, doc, pm, an, cdv, ct, osl, rfl, l, c, .inl ⟨rfl, rfl⟩, .inl rfl⟩, k⟩, PySem.W.mg_of X G a⟩
theorem dm_mk (cl : Cls K C) (a : PySem.W.findIn K (.ref C) m = some (some (.ref f))) (i : PySem.W.isFn K (.ref f) = true) (l : K.lookup f = some ⟨oc, od, .func (PySem.W.fnOf m qual (defArgs st) (defBody st) (defScope st) .none kV doc pm an cdv ct), osl⟩)
    (c : PySem.W.codeIn K cdv qual = true) (k : PySem.W.keepIn K (.ref f) = true) : Dm K C m qual st :=
  ⟨f, _, ⟨⟨oc, od, .none, kV, doc, pm, an, cdv, ct, osl, rfl, l, c, .inl ⟨rfl, rfl⟩, .inl rfl⟩, k⟩, ⟨a, i, k⟩, cl⟩
theorem di_mk {its : List Value} {dvs : List V} (hC : mg x = some (.ref C)) (a : PySem.W.findIn K (.ref C) "__init__" = some (some (.ref f))) (i : PySem.W.isFn K (.ref f) = true)
    (l : K.lookup f = some ⟨oc, od, .func (PySem.W.fnOf "__init__" qual (defArgs st) (defBody st) (defScope st) (.ref T) kV doc pm an cdv ct), osl⟩) (c : PySem.W.codeIn K cdv qual = true) (k : PySem.W.keepIn K (.ref f) = true)
    (mk : PySem.W.makesIn K C = true) (kc : PySem.W.keepIn K (.ref C) = true) {oT : Obj} (lT : K.lookup T = some oT) (eT : oT.data = .seq its.toArray nT) (r : Vals dvs its) (ne : dvs ≠ []) : Di K mg x C qual st dvs :=
  ⟨f, _, ⟨⟨oc, od, .ref T, kV, doc, pm, an, cdv, ct, osl, rfl, l, c, .inr ⟨ne, T, _, its, nT, rfl, lT, eT, r⟩, .inl rfl⟩, k⟩, ⟨mk, a, i, kc⟩, hC⟩
theorem kit_no {t : Value} (iC : PySem.W.isClsIn K C = true) (tC : PySem.W.typeIn K (.ref C) = some (.type "type")) (ht : (t == Value.ref C) = false) (sI : PySem.W.subIn K t (.ref C) = some false) : PySem.W.kitOne K t (.ref C) = some false := by
  unfold PySem.W.kitOne PySem.W.kitCls
  have iC' : (PySem.W.clsIn K C).isSome = true := iC
  rw [ht, if_neg Bool.false_ne_true]
  show (if ((PySem.W.clsIn K C).isSome && PySem.W.typeIn K (.ref C) == some (.type "type")) = true then PySem.W.subIn K t (.ref C) else none) = some false
  rw [iC', tC, if_pos (by simp)]
  exact sI
theorem fund_inj {params : Arguments} {body : List Stmt} {scope : Scope} {dvs : List V} {kws : List (Str × V)} {fd fd' : FuncData} (F : FunD K x qual params body scope dvs kws f fd) (F' : FunD K x qual params body scope dvs kws f fd') : fd = fd' := by
  obtain ⟨oc, od, dV, kV, doc, pm, an, cdv, ct, osl, e, lk, _⟩ := F.ex
  obtain ⟨oc', od', dV', kV', doc', pm', an', cdv', ct', osl', e', lk', _⟩ := F'.ex
  rw [lk] at lk'
  injection lk' with z
  injection z with z1 z2 z3 z4
  injection z3
end
/-- from the law's promise to what the end of the walk asks -/
theorem fin_of {P : Program} {w : World} {K : PySem.W.Frag} {mg : Str → Option Value} {st : Stmt} {k : Nat} {x : Str} {sp : Sp} {fa : Addr} (hfa : mg "law" = some (.ref fa)) (D : Df K mg "law" st []) (b : Bd "law" "law" st [x])
    (h : ∀ base : Heap, Ca P w K mg base CX0 k "law" st [] [x] sp) :
    ∃ fd : FuncData, (∀ (s : Shared) (u : Value), BindsTo s fd ⟨[u], []⟩ [(x, u)]) ∧ ∀ base : Heap, K.In base → base.Ns mainGlobals mg → FnOk P w K mg base CX0 k fa fd [x] sp := by
  obtain ⟨f, fd, F, hm⟩ := D.ex
  have e := hfa.symm.trans hm
  cases e
  refine ⟨fd, fun s u => ?_, fun base _ _ => ?_⟩
  · obtain ⟨kV, doc, pm, an, cdv, ct, rfl⟩ := FunD.none F
    exact .of_eq (b kV doc pm an cdv ct [u] rfl)
  · obtain ⟨f', fd', F', hm', G⟩ := (h base).ex
    have e' := hm.symm.trans hm'
    cases e'
    have e2 := fund_inj F F'
    subst e2
    exact G
end MM
namespace MM
open PySem PySem.Spec PyProof.Rows L2
/-! ### an except clause with a tuple of classes -/
theorem for_true {M : Model} {A : Around} {E : Value → Shared → Prop} {s : Shared} {Q : PUnit → Shared → Prop} {f : Value → PUnit → Sem (ForInStep PUnit)} : ∀ (cs : List Value),
    (∀ c ∈ cs, ∀ Q' : ForInStep PUnit → Shared → Prop, Q' (.yield .unit) s → wpAny M A (f c .unit) Q' E s) → Q .unit s → wpAny M A (forIn cs PUnit.unit f) Q E s
  | [], _, q => by
    rw [List.forIn_nil]
    exact wpAny_pure q
  | c :: cs, h, q => by
    rw [List.forIn_cons]
    exact wpAny_bind (h c List.mem_cons_self _ (for_true cs (fun d hd => h d (List.mem_cons_of_mem _ hd)) q))
theorem for_first {M : Model} {A : Around} {E : Value → Shared → Prop} {s : Shared} {Q : Option Bool × Unit → Shared → Prop} {f : Value → Option Bool × Unit → Sem (ForInStep (Option Bool × Unit))} {B : Value → Bool} : ∀ (cs : List Value),
    (∀ c ∈ cs, ∀ Q' : ForInStep (Option Bool × Unit) → Shared → Prop, Q' (if B c then .done (some true, ()) else .yield (none, ())) s → wpAny M A (f c (none, ())) Q' E s) →
    Q (if cs.any B then (some true, ()) else (none, ())) s → wpAny M A (forIn cs ((none, ()) : Option Bool × Unit) f) Q E s
  | [], _, q => by
    rw [List.forIn_nil]
    exact wpAny_pure q
  | c :: cs, h, q => by
    rw [List.forIn_cons]
    refine wpAny_bind (h c List.mem_cons_self _ ?_)
    cases hb : B c with
    | true =>
      rw [List.any_cons, hb, Bool.true_or] at q
      exact wpAny_pure q
    | false =>
      rw [List.any_cons, hb, Bool.false_or] at q
      exact for_first cs (fun d hd => h d (List.mem_cons_of_mem _ hd)) q
theorem exm_tups {M : Model} {K : PySem.W.Frag} {cls : Value} {cs : List Value} {tp e : Addr} {h : Heap} {o : Obj} {n : Nat} {B : Value → Bool} (X : K.In h) (LT : PySem.W.Looks M h (typeOf (.ref e)) cls) (hp : h.get? tp = some o) (hc : o.cls = .type "tuple") (hd : o.data = .seq cs.toArray n)
    (hx : ∀ c ∈ cs, PySem.W.exmOne K cls c = some (B c)) : PySem.W.Looks M h (excMatches (.ref e) (.ref tp)) (cs.any B) := by
  intro A Q E s k q
  have LT0 : PySem.W.Looks M h (isInstance (.ref tp) (.type "tuple")) true := by
    refine PySem.W.Looks.andThen (a := .type "tuple") (fun A Q E s k q => wpAny_typeOf_ref (k _ _ hp) (by rw [hc]; exact q)) (PySem.W.Looks.of_pure isSubtype_tuple_tuple)
  unfold excMatches
  refine wpAny_bind ((LT0.keeps k).here ?_)
  dsimp only
  rw [if_pos rfl]
  refine wpAny_bind (wpAny_seqItems (k _ _ hp) hd (wpAny_bind (wpAny_pure ?_)))
  show wpAny M A (forIn cs PUnit.unit _ >>= _) _ _ _
  refine wpAny_bind (for_true cs (fun c hcm Q' q' => ?_) ?_)
  · refine wpAny_bind (((PySem.W.exm_cls (M := M) X (hx c hcm)).1.keeps k).here ?_)
    rw [if_neg (by decide)]
    exact wpAny_pure q'
  · refine wpAny_bind ((LT.keeps k).here (wpAny_bind (for_first (B := B) cs (fun c hcm Q' q' => ?_) ?_)))
    · refine wpAny_bind (((PySem.W.exm_cls (M := M) X (hx c hcm)).2.keeps k).here ?_)
      cases hb : B c with
      | true =>
        rw [hb] at q'
        rw [if_pos rfl]
        exact wpAny_pure q'
      | false =>
        rw [hb] at q'
        rw [if_neg (by decide)]
        exact wpAny_pure q'
    · cases hb : cs.any B with
      | true =>
        rw [hb] at q
        exact wpAny_pure q
      | false =>
        rw [hb] at q
        exact wpAny_pure q
/-! ### a caught exception that is kept -/
/-- at a: an exception of the class cls, its own dict at d -/
def KX (a : Addr) (cls : Value) (d : Option Addr) : HO := .ext fun h => ∃ (oe : Obj) (vs : Array Value), h.get? a = some oe ∧ Zc cls d oe ∧ oe.data = .fields vs
theorem kx_ok {P : Program} {w : World} {H : Hp} {h : Heap} {a : Addr} {cls : Value} {d : Option Addr} {oe : Obj} {vs : Array Value} (e : h.get? a = some oe) (z : Zc cls d oe) (hd : oe.data = .fields vs) : ObjOk P w H h a (KX a cls d) :=
  ⟨⟨oe, vs, e, z, hd⟩, ⟨oe, e⟩, fun h1 h2 ⟨o, v, e1, z1, d1⟩ k => ⟨o, v, k _ e1, z1, d1⟩⟩
section
variable {X : Cx} {pins : List (Addr × Obj)} {σ : L2.St} {H : Hp} {s : Shared} {a : Addr} {oe : Obj} {vs : Array Value} {cls : Value} {d : Option Addr}
theorem Inv.track (I : Inv X pins σ H s) (ha : s.heap.get? a = some oe) (hz : Zc cls d oe) (hd : oe.data = .fields vs) (na : H a = none) (n0 : X.s_0.heap.get? a = none) (nL : a ≠ X.env.locals) (nC : ∀ x c, X.env.cells.lookup x = some c → c ≠ a)
    (nP : ∀ p ∈ X.pn ++ pins, p.1 ≠ a) : Inv X pins σ (L2.upd H a (KX a cls d)) s := by
  have neA : ∀ {b : Addr} {o : HO}, H b = some o → b ≠ a := fun e => ne_of_none e na
  have ne0 : ∀ {b : Addr} {o : Obj}, X.s_0.heap.get? b = some o → b ≠ a := fun e z => by
    rw [z, n0] at e
    cases e
  refine ⟨I.ok, I.os, I.bare, ⟨I.base.keep, I.base.slot, fun b o e n hx => ?_, I.base.there, fun b xs e => ?_, fun b o u e => ?_, fun b ps e => ?_⟩, I.loc, I.cell, ?_, fun x c e => ?_, fun p hp => ?_, fun b u e => ?_, I.len⟩
  · rw [upd_ne (ne0 e)]
    exact I.base.free b o e n hx
  · have q := I.base.tups b xs e
    rw [upd_ne (neA q)]
    exact q
  · have q := I.base.frzs b o u e
    rw [upd_ne (neA q)]
    exact q
  · obtain ⟨m, q⟩ := I.base.tbls b ps e
    exact ⟨m, by rw [upd_ne (neA q)]; exact q⟩
  · rw [upd_ne nL.symm]
    exact I.free
  · rw [upd_ne (nC x c e)]
    exact I.freeC x c e
  · obtain ⟨q1, q2, q3⟩ := I.pin p hp
    exact ⟨q1, by rw [upd_ne (nP p hp)]; exact q2, q3⟩
  · by_cases hb : b = a
    · subst hb
      rw [upd_same] at e
      cases e
      exact kx_ok ha hz hd
    · rw [upd_ne hb] at e
      exact (I.hok b u e).stay (fun c v _ q => q) (fun c q => by rw [upd_ne (neA q)]; exact q) fun c xs q => by rw [upd_ne (neA q)]; exact q
end
theorem flying_more {B h h' : Heap} {l : List Env} {e : Addr} {Z : Obj → Prop} (x : HandSPX.FlyingZ B l e Z h) (k : ∀ b o, h.get? b = some o → h'.get? b = some o) : HandSPX.FlyingZ B l e Z h' := by
  obtain ⟨f1, f2, f3, oe, vs, T, oT, ts, he, hz, hd, h1, hnT, hTe, hT, hdT, h3⟩ := x
  exact ⟨fun b o q => k b o (f1 b o q), f2, f3.of_keeps fun b o hb _ => ⟨o, k b o hb, rfl⟩, oe, vs, T, oT, ts, k _ _ he, hz, hd, h1, hnT, hTe, k _ _ hT, hdT, h3⟩
/-- the names of a tuple of classes -/
inductive Nms (X : Cx) : List Expr → List Value → Prop
  | nil : Nms X [] []
  | cons {x : Str} {p : Pos} {c : Value} {es : List Expr} {cs : List Value} (g : Gl X x) (d : (x == ("__debug__" : Str)) = false) (m : X.mg x = some c) (r : Nms X es cs) : Nms X (.Name x p :: es) (c :: cs)
/-- what try .. except (..) as n: m = n wishes of an exception of the body: i is n's slot, j m's -/
def wKeep (K : PySem.W.Frag) (cs : List Value) (i j : Nat) (D : Ends) : WX := fun cls d σ H =>
  (∃ B : Value → Bool, (∀ c ∈ cs, PySem.W.exmOne K cls c = some (B c)) ∧ cs.any B = true) ∧ ∀ a, H a = none → D.nx (((σ.set i (some (.ref a))).set j (some (.ref a))).set i none) (L2.upd H a (KX a cls d))
section
variable {X : Cx} {cs : List Value} {es : List Expr} {n m : Str} {i j : Nat} {body : List Stmt} {kt : Nat} {tpos np mp apos pos pos' : Pos} {tb : WX → TS}
theorem nms_run {Y : Cx} {pins : List (Addr × Obj)} {σ : L2.St} {H : Hp} {s : Shared} (I : Inv Y pins σ H s) {es : List Expr} {cs : List Value} (h : Nms Y es cs) : ∀ {Q : List Value → Shared → Prop} {E : Value → Shared → Prop} {pos : Pos}, Q cs s →
    wpAny (model Y.prog Y.w) Y.A (spliced (backTo pos (starEach es Y.env))) Q E s := by
  induction h with
  | nil => exact fun q => wpAny_items_nil q
  | cons g d m r ih => exact fun q => wpAny_items_cons (ld_glob I g m (ih q) d)
theorem Nms.to {X Y : Cx} (he : Y.env = X.env) (hm : Y.mg = X.mg) {es : List Expr} {cs : List Value} (h : Nms X es cs) : Nms Y es cs := by
  induction h with
  | nil => exact .nil
  | cons g d m r ih => exact .cons (by unfold Gl; rw [he]; exact g) d (by rw [hm]; exact m) ih
/-- try: body / except (..) as n: m = n; nothing else leaves the body -/
theorem ps_try_keep (hs : X.stack = X.env :: X.outer) (hf : X.env.frame = some X.env.locals) (hex : X.ex = []) (hN : X.N.Nodup) (hi : X.N[i]? = some n) (hln : X.env.kindOf n = some .local) (hj : X.N[j]? = some m) (hlm : X.env.kindOf m = some .local) (hc : Nms X es cs) (hz : cs.length ≤ 100)
    (hdb : (n == ("__debug__" : Str)) = false := by decide) (hcd : (n == ("__classdict__" : Str)) = false := by decide)
    (hb : ∀ (W : WX) (pn : List (Addr × Obj)) (xe : Value → Shared → Prop), Takes (X.tr pn xe) W → PassesOwn (model X.prog X.w) X.A X.env xe → PSs (X.tr pn xe) body (tb W))
    (hsw : swapsWith (.Name n np) (some (.Name m mp)) apos.line X.env = pure false := by rfl) :
    PS X (.Try body [.ExceptHandler (some (.Tuple es kt tpos)) (some n) [.Assign [.Name m mp] (.Name n np) apos] pos'] [] [] pos) (fun D σ H => tb (wKeep X.K cs i j D) D σ H) := by
  refine ⟨fun pins s σ H D I h => ?_⟩
  have ok := I.ok
  have hfr : X.A.frames = some (X.env :: X.outer) := by rw [ok.frames, hs]
  refine wpAny_Try_except ?_
  refine wpAny_mono ((hb (wKeep X.K cs i j D) (X.pn ++ pins) (fun e s₁ => wpAny (model X.prog X.w) X.A (noteFrame e X.env) (fun _ s₂ => wpAny (model X.prog X.w) X.A (setFlight e none) (fun _ s₃ =>
    wpAny (model X.prog X.w) X.A (handleBy e X.env [.ExceptHandler (some (.Tuple es kt tpos)) (some n) [.Assign [.Name m mp] (.Name n np) apos] pos']) (SP X pins D) X.xe s₃) X.xe s₂) X.xe s₁) (fun u s' xx => ?_) PassesOwn.looking).run [] s σ H D (I.toTry _) h) (fun f s1 hsp => ?_) (fun e s1 he => he)
  · obtain ⟨a, B, sI, pins', σ', H', cls, d, rfl, J', nb, up, sky, na, os, ag, ⟨Bc, hB, hany⟩, wish⟩ := xx
    have J : Inv X pins σ' H' sI := J'.ofTry ok
    have sky' : Sky B (X.env :: X.outer) a (Zc cls d) X.env.locals s'.heap := by rw [← hs]; exact sky
    show wpAny (model X.prog X.w) X.A (noteFrame (.ref a) X.env) _ _ _
    refine Sky.land Zc.steady hfr hf sky' fun h3 fl3 up3 => ?_
    have J3 : Inv X pins σ' H' { s' with heap := h3 } := J.landed nb fl3.1 (up.trans up3) os ag
    obtain ⟨oe3, vs3, he3, hz3, hd3⟩ := fl3.there
    have nfr : a ∉ frs (X.env :: X.outer) := fun hm => by
      obtain ⟨_, o', e', hnf⟩ := fl3.2.2.1.mem hm
      rw [he3] at e'
      cases e'
      exact hnf _ hd3
    have nL : a ≠ X.env.locals := fun z => nfr (List.mem_filterMap.mpr ⟨X.env, List.mem_cons_self, by rw [hf, z]⟩)
    have nF : a ∉ X.fs := fun hm => by
      obtain ⟨e, he, q⟩ := List.mem_filterMap.mp hm
      exact nfr (List.mem_filterMap.mpr ⟨e, List.mem_cons_of_mem _ he, q⟩)
    have nI : sI.heap.get? a = none := by
      cases q : sI.heap.get? a with
      | none => rfl
      | some o =>
        have z := nb a o q (by rw [hs]; exact nfr)
        rw [fl3.2.1] at z
        cases z
    have n0 : X.s_0.heap.get? a = none := by
      cases q : X.s_0.heap.get? a with
      | none => rfl
      | some o =>
        obtain ⟨o', z⟩ := J.base.there a o q (by rw [hex]; exact fun y => nomatch y)
        rw [nI] at z
        cases z
    have nC : ∀ x c, X.env.cells.lookup x = some c → c ≠ a := fun x c e z => by
      obtain ⟨v, o, ho, _⟩ := J.cell x c e
      rw [z, nI] at ho
      cases ho
    have nP : ∀ p ∈ X.pn ++ pins, p.1 ≠ a := fun p hp z => by
      have q := (J.pin p hp).1
      rw [z, nI] at q
      cases q
    have S3 := J3.suite he3 hd3 na nL nF
    refine wpAny_handleBy_cons (codeAny_handlers_test ?_) (by intro q; cases q)
    refine wpAny_Tuple (nms_run (Y := X.suite a ((a, oe3) :: (X.pn ++ pins))) S3 (Nms.to (X := X) (Y := X.suite a ((a, oe3) :: (X.pn ++ pins))) rfl rfl hc) ⟨Nat.le_trans hz (by decide), ?_⟩)
    have kp : ∀ b o, h3.get? b = some o → (h3.push { cls := .type "tuple", data := .seq cs.toArray }).get? b = some o := fun b o e => Heap.get?_push_of_some _ e
    have LT : PySem.W.Looks (model X.prog X.w) (h3.push { cls := .type "tuple", data := .seq cs.toArray }) (typeOf (.ref a)) cls := fun A Q E s k q => wpAny_typeOf_ref (k _ _ (kp _ _ he3)) (by rw [hz3.1]; exact q)
    have LM := exm_tups (M := model X.prog X.w) (J3.kIn.keeps kp) LT (Heap.get?_push_size h3 rfl) rfl rfl hB
    rw [hany] at LM
    refine LM.here ?_
    refine codeAny_handlers_suite_as ?_
    have fl3' := flying_more fl3 kp
    refine HandSPX.lands_againZ fl3' fun h4 fl4 up4 => ?_
    have upp : h3.UpToSlots (h3.push { cls := .type "tuple", data := .seq cs.toArray }) := fun b o hb _ => ⟨o.slots, kp b o hb⟩
    have J4 : Inv X pins σ' H' { s' with heap := h4 } := J.landed nb fl4.1 (((up.trans up3).trans upp).trans up4) os ag
    obtain ⟨oe4, vs4, he4, hz4, hd4⟩ := fl4.there
    have S4 := J4.suite he4 hd4 na nL nF
    refine store_ok (X := X.suite a ((a, oe4) :: (X.pn ++ pins))) (v := .ref a) S4 hN hi (.inl hln) rfl (fun s5 S5 => ?_) (.inr hln)
    have rd : PSs (X.suite a ((a, oe4) :: (X.pn ++ pins))) [.Assign [.Name m mp] (.Name n np) apos] (tAsg (tVar i) (gName j)) := pss_one (ps_set hN hj (.inl hlm) (pe_var hi (.inl hln) hdb hcd) hsw (.inr hlm))
    refine wpAny_mono (rd.run [] s5 _ H' { nx := fun σ6 H6 => σ6 = (σ'.set i (some (.ref a))).set j (some (.ref a)) ∧ H6 = H', rt := fun _ _ => False } S5 ⟨_, ?_, rfl, rfl⟩) (fun f s6 hsp => ?_) (fun _ _ z => False.elim z)
    · exact List.getElem?_set_self (by rw [J.len]; exact (List.getElem?_eq_some_iff.mp hi).1)
    · cases f with
      | next =>
        obtain ⟨σ6, H6, S6, rfl, rfl⟩ := hsp
        obtain ⟨p1, p2, _⟩ := S6.pin (a, oe4) (List.mem_append_left _ List.mem_cons_self)
        have J6 := Inv.track (S6.unsuite ok) p1 hz4 hd4 na n0 nL nC nP
        exact gone_ok J6 hN hi hln fun s7 J7 => ⟨_, _, J7, wish a na⟩
      | brk =>
        obtain ⟨_, _, _, z⟩ := hsp
        exact z.elim
      | cont =>
        obtain ⟨_, _, _, z⟩ := hsp
        exact z.elim
      | ret u =>
        obtain ⟨_, _, _, _, _, z⟩ := hsp
        exact z.elim
  · cases f with
    | next =>
      obtain ⟨σ1, H1, J1, q⟩ := hsp
      exact wpAny_execs_nil ⟨σ1, H1, J1.ofTry ok, q⟩
    | brk =>
      obtain ⟨σ1, H1, J1, q⟩ := hsp
      exact ⟨σ1, H1, J1.ofTry ok, q⟩
    | cont =>
      obtain ⟨σ1, H1, J1, q⟩ := hsp
      exact ⟨σ1, H1, J1.ofTry ok, q⟩
    | ret u =>
      obtain ⟨v1, σ1, H1, J1, r1, q⟩ := hsp
      exact ⟨v1, σ1, H1, J1.ofTry ok, r1, q⟩
end
end MM
namespace MM
open PySem PySem.Spec PySem.Calls PyProof.Rows L2
/-! ### a kept exception is asked for its class -/
/-- what the class D says, so that its instances may be asked -/
structure XcF (K : PySem.W.Frag) (D : Addr) : Prop where
  ga : PySem.W.findIn K (.ref D) "__getattribute__" = some (some (.builtin "BaseException.__getattribute__"))
  gg : PySem.W.findIn K (.ref D) "__getattr__" = some none
  sub : PySem.W.subIn K (.ref D) (.type "BaseException") = some true
  hd : PySem.W.hasDictIn K D = true
  ca : PySem.W.findIn K (.ref D) "__class__" = some (some (.builtin "object.__class__"))
  gn : PySem.W.specialIn K (.builtin "object.__class__") "__get__" = some (some (.builtin "getset_descriptor.__get__"))
  tk : PySem.W.takesIn K (.builtin "object.__class__") = some true
  mo : PySem.W.mroIn K D (.type "object") = some true
section
open PySem.W
variable {prog : Program} {w : World} {A : Around} {E : Value → Shared → Prop} {s : Shared} {K : Frag} {x D : Addr} {ox : Obj} {od : Option Obj}
theorem found_class (C : XcF K D) : findObj K D od "__class__" = some (.bind (.builtin "getset_descriptor.__get__") (.builtin "object.__class__")) := by
  obtain ⟨cd, hc, _⟩ := any_some C.hd
  unfold findObj
  rw [hc, Option.bind_some, C.ca, Option.bind_some]
  simp [C.gn, C.tk]
theorem class_exc {Q : Option Value → Shared → Prop} (C : XcF K D) (X : K.In s.heap) (I : InstAt s.heap x ox D od) (h : Q (some (.ref D)) { s with toks := s.toks + 1 }) : wpAny (model prog w) A (getAttr? (.ref x) "__class__") Q E s := by
  obtain ⟨hp, g, d, t, os⟩ := s
  have l0 := I.type (M := model prog w)
  have l1 := looks_findIn (M := model prog w) X C.ga
  have l2 := looks_findIn (M := model prog w) X C.gg
  have l3 := looks_find (M := model prog w) X I (found_class C)
  have isB : Looks (model prog w) hp (isInstance (.ref x) (.type "BaseException")) true := l0.andThen (looks_subIn X C.sub)
  have n2 : (Value.builtin "BaseException.__getattribute__" == Value.builtin "object.__getattribute__") = false := by decide +kernel
  unfold getAttr? getAttrBy? getAttrBy
  refine wpAny_bind (wpAny_mkText (wpAny_bind (wpAny_attempt (wpAny_holding (wpAny_bind (l0.at (wpAny_bind (l1.at (?_ : wpAny _ _ (if (onTheHeap (Value.ref D) && Value.builtin "BaseException.__getattribute__" == Value.builtin "object.__getattribute__") = true then _ else _) _ _ _)))))))))
  rw [show (onTheHeap (Value.ref D) && Value.builtin "BaseException.__getattribute__" == Value.builtin "object.__getattribute__") = false by rw [n2]; rfl, if_neg Bool.false_ne_true]
  unfold getAttrByItsOwn hookBefore
  refine wpAny_bind ?_
  rw [if_pos (show onTheHeap (Value.ref D) = true from rfl)]
  refine l2.at (wpAny_bind (wpAny_attempt (wpAny_holding ?_)))
  unfold callGetattribute
  rw [show (false && onTheHeap (Value.builtin "BaseException.__getattribute__")) = false from rfl, if_neg Bool.false_ne_true]
  unfold boundAndCalled
  rw [PySem.F.excAttr_ValueError.ga.bind (.ref x)]
  refine wpAny_bind (wpAny_pure (?_ : wpAny _ _ (call (.builtin "BaseException.__getattribute__") [.ref x, .str "__class__" t]) _ _ _))
  refine wpAny_call (codeAny_call_builtin PySem.F.excAttr_ValueError.ga.plain PySem.F.entry_bexc_ga (@check_slot (model prog w) _ _ ⟨hp, g, d, t + 1, os⟩ "BaseException.__getattribute__" "BaseException" "__getattribute__" (.ref x) [.str "__class__" t] [] _ (by decide +kernel) (by decide +kernel) isB (PySem.F.args_bexc_ga (.ref x) (.str "__class__" t)) ?_))
  unfold Builtin.«object.__getattribute__»
  refine wpAny_bind (wpAny_of_eq (a := ((Value.ref x : Value), [Value.str "__class__" t])) (by first | rfl | (simp only [slotArgs]; rfl)) (wpAny_bind (wpAny_pure (wpAny_bind (l0.at (wpAny_bind (l3.at
    (?_ : wpAny _ _ (holding [Value.builtin "object.__class__"] (call (.builtin "getset_descriptor.__get__") [.builtin "object.__class__", .ref x, .ref D]) >>= ret) _ _ _))))))))
  refine wpAny_bind (wpAny_holding (wpAny_call (class_get (s := ⟨hp, g, d, t + 1, os⟩) (ox := ox) (od := od) X I C.mo (wpAny_pure (?_ : wpAny _ _ (handedOut (.ref D)) _ _ _)))))
  rw [handedOut_of (v := .ref D) rfl]
  first
    | exact wpAny_pure (wpAny_pure h)
    | exact wpAny_pure h
    | exact wpAny_pure (wpAny_bind (wpAny_pure (wpAny_pure h)))
theorem kitx_kept (C : XcF K D) : KitX K (.ref x) (.ref D) (fun h => ∃ (ox : Obj) (od : Option Obj), InstAt h x ox D od) := by
  obtain ⟨cd, hc, _⟩ := any_some C.hd
  unfold clsIn at hc
  split at hc
  · rename_i c' d' cd' sl' ho
    refine { ty := fun _ _ _ ⟨_, _, I⟩ => I.type, it := fun _ _ X _ A' Q' E' s' k q => ?_, ne := fun h tp dd its n sl X htp => Bool.eq_false_iff.mpr fun q => ?_, ca := fun X ⟨_, _, I⟩ k => class_exc C X I k }
    · unfold isType loadHead
      exact wpAny_bind (wpAny_loadPart (k _ _ (X _ _ ho)) (wpAny_pure q))
    · have e : D = tp := Value.ref.inj (beq_iff_eq.mp q)
      subst e
      cases (X _ _ ho).symm.trans htp
  · cases hc
end
section
variable {X : Cx} {a D : Addr} {d : Option Addr} {oD : Addr}
theorem kept_inst {pins : List (Addr × Obj)} {σ : L2.St} {H : Hp} {s : Shared} {fs : List (Str × V)} (I : Inv X pins σ H s) (ha : H a = some (KX a (.ref D) (some oD))) (hd : H oD = some (.xd fs)) :
    ∃ (ox : Obj) (od : Obj) (mA : Str → Option Value), PySem.W.InstAt s.heap a ox D (some od) ∧ s.heap.Ns1 oD mA ∧ (∀ f, RelO (fs.lookup f) (mA f)) ∧ ∀ n, PySem.W.lookIn n od = some (mA n) := by
  have x1 : ObjOk X.prog X.w H s.heap a (KX a (.ref D) (some oD)) := I.hok a _ ha
  obtain ⟨⟨ox, vs, e, z, dd⟩, _, _⟩ := x1
  have x2 : ObjOk X.prog X.w H s.heap oD (.xd fs) := I.hok oD _ hd
  obtain ⟨mA, hns, hr⟩ := x2
  obtain ⟨od, ho, hl⟩ := lookIn_ns hns
  exact ⟨ox, od, mA, ⟨e, z.1, by unfold PySem.W.notCls; rw [dd], by rw [z.2]; exact ho⟩, hns, hr, hl⟩
/-- isinstance(x, c), x a kept exception -/
def rIsK (K : PySem.W.Frag) (D : Addr) : List V → Hp → VK → Prop := fun xs H Q => ∃ (a oD : Addr) (fs : List (Str × V)) (c : V) (u : Value) (b : Bool), xs = [.ref a, c] ∧ H a = some (KX a (.ref D) (some oD)) ∧ H oD = some (.xd fs) ∧ ClsV c u ∧ PySem.W.kitOne K (.ref D) u = some b ∧ Q (.bl b) H
theorem call_isK (C : XcF X.K D) : CallR X (.builtin "isinstance") (rIsK X.K D) := by
  intro pins s σ H xs us Q I r h
  obtain ⟨a, oD, fs, c, u, b, rfl, ha, hd, hc, e, q⟩ := h
  obtain ⟨u1, u2, rfl, r1, r2⟩ := vals2 r
  cases (show u1 = Value.ref a from r1)
  have ec := hc.eq r2
  subst ec
  obtain ⟨ox, od, _, J, _⟩ := kept_inst I ha hd
  exact PySem.W.kia_one (kitx_kept C) I.kIn ⟨ox, _, J⟩ e (fun z => nomatch z) fun tk => ⟨.bl b, H, I.kept (t' := tk) fun _ _ z => z, rfl, q⟩
/-- x.f, x a kept exception -/
def tKf (D : Addr) (f : Str) (te : TE) : TE := fun σ H Q => te σ H fun x H1 => ∃ (a oD : Addr) (fs : List (Str × V)) (v : V), x = .ref a ∧ H1 a = some (KX a (.ref D) (some oD)) ∧ H1 oD = some (.xd fs) ∧ fs.lookup f = some v ∧ Q v H1
theorem pe_kf {e : Expr} {te : TE} {pos : Pos} {n : Str} (C : XcF X.K D) (hno : PySem.W.findIn X.K (.ref D) n = some none) (he : PE X e te) (hb : attributeBase e n X.env (eval e X.env) = eval e X.env := by rfl) : PE X (.Attribute e n pos) (tKf D n te) := by
  refine ⟨fun pins s σ H Q I h => attr_of hb (thn (he.run pins s σ H _ I h) fun u s1 hh => ?_)⟩
  obtain ⟨x, H1, I1, rx, a, oD, fs, v, rfl, ha, hd, l, q⟩ := hh
  cases (show u = Value.ref a from rx)
  obtain ⟨ox, od, mA, J, _, hr, hl⟩ := kept_inst I1 ha hd
  obtain ⟨u1, hu, ru⟩ := RelO.some_of (v := v) (o := mA n) (by rw [← l]; exact hr n)
  exact HandSPX.exc_get I1.kIn J C.ga C.gg C.sub (PySem.W.findObj_own C.hd hno rfl (by rw [hl, hu])) (handed_of ru) ⟨v, H1, I1.tok _, ru, q⟩
end
end MM
namespace MM
open PySem PySem.Spec PyProof.Rows L2
section
variable {K : PySem.W.Frag} {h : Heap} {mg : Str → Option Value} {x m qual : Str} {st : Stmt} {f C D CN : Addr} {b : Bool} {oc kV doc pm cdv ct : Value} {od an : Option Addr} {osl : Array (Option Value)}
/-- another class of errors, beside the class CN -/
structure Oc (K : PySem.W.Frag) (mg : Str → Option Value) (CN : Addr) (x : Str) (D : Addr) (b : Bool) : Prop where
  m : mg x = some (.ref D)
  i : PySem.W.isClsIn K D = true
  t : PySem.W.typeIn K (.ref D) = some (.type "type")
  e : PySem.W.subIn K (.ref D) (.type "BaseException") = some true
  s : PySem.W.subIn K (.ref CN) (.ref D) = some b
theorem Oc.cls (o : Oc K mg CN x D b) : PySem.W.kitCls K (.ref CN) (.ref D) = some b := by
  have iC' : (PySem.W.clsIn K D).isSome = true := o.i
  show (if ((PySem.W.clsIn K D).isSome && PySem.W.typeIn K (.ref D) == some (.type "type")) = true then PySem.W.subIn K (.ref CN) (.ref D) else none) = some b
  rw [iC', o.t, if_pos (by simp)]
  exact o.s
theorem Oc.kit (o : Oc K mg CN x D b) (hn : CN = D → b = true) : PySem.W.kitOne K (.ref CN) (.ref D) = some b := by
  unfold PySem.W.kitOne
  by_cases he : CN = D
  · rw [if_pos (by rw [he]; simp), hn he]
  · rw [if_neg (by simp [he])]
    exact o.cls
theorem Oc.exm (o : Oc K mg CN x D b) : PySem.W.exmOne K (.ref CN) (.ref D) = some b := by
  unfold PySem.W.exmOne
  rw [o.e, if_pos (by simp)]
  exact o.cls
theorem kit_typ {T : String} (m : PySem.W.kitMeta T = true) (s : PySem.W.subIn K (.ref CN) (.type T) = some b) : PySem.W.kitOne K (.ref CN) (.type T) = some b := by
  unfold PySem.W.kitOne
  rw [if_neg (by simp)]
  show (if PySem.W.kitMeta T = true then PySem.W.subIn K (.ref CN) (.type T) else none) = some b
  rw [if_pos m]
  exact s
end
end MM
namespace MM
open PySem PySem.Spec PySem.Calls PyProof.Rows L2
/-! ### own classes of errors right over a built-in one, their __init__ walked as a def -/
/-- what the written part says of the class at C, which stands right over the built-in B -/
structure OxG (K : PySem.W.Frag) (C : Addr) (B newId initId : String) (bm : List Value) : Prop where
  bf : ExcBaseFacts B newId initId bm
  sf : StoreFacts B bm "object.__setattr__" "object"
  tl : PySem.W.excTail bm bm = true
  cls : ∃ nm q N bs sn sub ab col dd k0 k1 k2 k3 k5, K.lookup C = some (excClassObj nm q C N bs bm true sn sub ab col dd k0 k1 k2 k3 k5 newId)
  sa : PySem.W.findIn K (.ref C) "__setattr__" = some (some (.builtin "object.__setattr__"))
  exC : PySem.W.subIn K (.ref C) (.type "BaseException") = some true
  tyC : PySem.W.typeIn K (.ref C) = some (.type "type")
  kC : PySem.W.keepIn K (.ref C) = true
section
variable {K : PySem.W.Frag} {C : Addr} {B newId initId : String} {bm : List Value}
theorem OxG.dat (T : OxG K C B newId initId bm) : ∃ cd, PySem.W.clsIn K C = some cd ∧ cd.mro = .ref C :: bm ∧ cd.hasDict = true := by
  obtain ⟨nm, q, N, bs, sn, sub, ab, col, dd, k0, k1, k2, k3, k5, hC⟩ := T.cls
  exact ⟨_, (by unfold PySem.W.clsIn; rw [hC] <;> rfl), rfl, rfl⟩
theorem OxG.over (T : OxG K C B newId initId bm) : PySem.W.excOver K C bm = true := by
  obtain ⟨cd, hc, hm, _⟩ := T.dat
  unfold PySem.W.excOver
  rw [hc]
  show (match cd.mro with | .ref C' :: b => C' == C && PySem.W.excTail bm b | _ => false) = true
  rw [hm]
  show (C == C && PySem.W.excTail bm bm) = true
  rw [T.tl]
  simp
theorem OxG.taker (T : OxG K C B newId initId bm) {f : Str} (hno : PySem.W.findIn K (.ref C) f = some none) : PySem.W.takerIn K C f = some none := by
  unfold PySem.W.takerIn
  rw [hno]
  rfl
end
section
variable {X : Cx} {pins : List (Addr × Obj)} {σ : L2.St} {H : Hp} {s : Shared} {a C dx : Addr} {f : Str} {y : V} {u : Value} {fs : List (Str × V)} {Q : Unit → Shared → Prop} {E : Value → Shared → Prop} {A : Around} {B newId initId : String} {bm : List Value}
/-- the first field -/
theorem gx_new (T : OxG X.K C B newId initId bm) (I : Inv X pins σ H s) (e : H a = some (exo a C none)) (hno : PySem.W.findIn X.K (.ref C) f = some none) (ry : RelV y u)
    (h : ∀ dx s', H dx = none → dx ≠ a → Inv X pins σ (L2.upd (L2.upd H dx (exd dx [(f, y)])) a (exo a C (some dx))) s' → Q () s') : wpAny (model X.prog X.w) A (setAttr (.ref a) f u) Q E s := by
  obtain ⟨cd, hcd, hmr, hhd⟩ := T.dat
  obtain ⟨t1, ho⟩ := exo_at I.hok e
  obtain ⟨hp, g, dn, t, os⟩ := s
  have key : ∀ (h' : Heap) (tk' : Nat), (∀ b o, b ≠ a → hp.get? b = some o → h'.get? b = some o) → h'.get? a = some ({ cls := .ref C, dict := some hp.objs.size, data := .fields #[.ref t1, .none, .none, .none, .bool false, .none] } : Obj) →
      h'.Ns1 hp.objs.size (fun z => if z = f then some u else none) → Q () ⟨h', g, dn, tk', os⟩ := by
    intro h' tk' k hx hn
    have nlt : ∀ {b : Addr} {o : Obj}, hp.get? b = some o → b ≠ hp.objs.size := fun q => Nat.ne_of_lt (Heap.lt_size q)
    have hnd : H hp.objs.size = none := I.hok.fresh (Nat.le_refl _)
    have dne : hp.objs.size ≠ a := (nlt ho).symm
    have na : ∀ {b : Addr}, H b = none → b ≠ a := fun n z => by
      subst z
      cases e.symm.trans n
    refine h hp.objs.size _ hnd dne (I.un (t' := tk') ⟨fun b o q n _ _ => k b o (na n) q, fun b o q n _ _ => ⟨o.slots, k b o (na n) q⟩, fun b o q n _ => ?_, fun b o q _ => ?_, fun b xs q => ?_, fun b o v q => ?_, fun b ps q => ⟨#[], ?_⟩⟩ fun b o q => ?_)
    · rw [upd_ne (na n), upd_ne (nlt q)]
      exact n
    · by_cases hb : b = a
      · exact ⟨_, by rw [hb]; exact hx⟩
      · exact ⟨o, k b o hb q⟩
    · rw [upd_ne (at_ne e q exo_tup), upd_ne (ne_of_none q hnd)]
      exact q
    · rw [upd_ne (at_ne e q exo_frz), upd_ne (ne_of_none q hnd)]
      exact q
    · rw [upd_ne (at_ne e q exo_tbl), upd_ne (ne_of_none q hnd), q]
      simp
    · by_cases hb : b = a
      · subst hb
        cases upd_same.symm.trans q
        exact exo_ok hx
      rw [upd_ne hb] at q
      by_cases hd : b = hp.objs.size
      · subst hd
        cases upd_same.symm.trans q
        exact exd_ok hn (relO_put (fs := []) ry fun g => True.intro)
      rw [upd_ne hd] at q
      refine (I.hok b o q).stay (fun c v hc z => k c v ?_ z) (fun c hc => ?_) (fun c xs hc => ?_)
      · rcases hc with hc | hc
        · exact fun z => hb (hc ▸ z)
        · exact at_ne e hc exo_own
      · rw [upd_ne (at_ne e hc exo_own), upd_ne (ne_of_none hc hnd)]
        exact hc
      · rw [upd_ne (at_ne e hc exo_tup), upd_ne (ne_of_none hc hnd)]
        exact hc
  have J : PySem.W.InstAt hp a ({ cls := .ref C, dict := none, data := .fields #[.ref t1, .none, .none, .none, .bool false, .none] } : Obj) C none := ⟨ho, rfl, rfl, trivial⟩
  refine PySem.W.set_plain I.kIn J T.sa (PySem.W.osa_openX T.sf I.kIn J T.over (T.taker hno) fun b => ?_)
  have hs : a ≠ hp.objs.size := Nat.ne_of_lt (Heap.lt_size ho)
  refine wpAny_bind (wpAny_pure (wpAny_bind (PySem.W.instanceDict_exc (t := t1) (c2 := .none) ho (PySem.W.looks_clsIn I.kIn hcd) hhd ?_)))
  refine PySem.HandSPX.store_in_new ?_ fun h' tk' hn' hsb => ?_
  · exact ⟨_, #[], _, (Heap.get?_update_ne _ _ _ _ hs.symm).trans (Heap.get?_push_at rfl rfl), rfl, fun e he => absurd he (by simp), fun _ => rfl⟩
  · refine key h' _ (fun b o hb hq => ?_) ?_ hn'
    · exact (hsb.2 b (Nat.ne_of_lt (Heap.lt_size hq))).trans ((Heap.get?_update_ne _ _ _ _ hb).trans (Heap.get?_push_of_some _ hq))
    · exact (hsb.2 a hs).trans (Heap.get?_update_self _ (Heap.get?_push_of_some _ ho) rfl)
/-- a further field -/
theorem gx_old (T : OxG X.K C B newId initId bm) (I : Inv X pins σ H s) (e : H a = some (exo a C (some dx))) (ed : H dx = some (exd dx fs)) (hl : fs.length ≤ 900) (hno : PySem.W.findIn X.K (.ref C) f = some none) (ry : RelV y u)
    (h : ∀ s', Inv X pins σ (L2.upd H dx (exd dx ((f, y) :: fs))) s' → Q () s') : wpAny (model X.prog X.w) A (setAttr (.ref a) f u) Q E s := by
  obtain ⟨t1, ho⟩ := exo_at I.hok e
  obtain ⟨mA, hns, rel⟩ := exd_at I.hok ed
  obtain ⟨hp, g, dn, t, os⟩ := s
  obtain ⟨oD, _, _, hoD, _, _⟩ := hns.count (within_of rel)
  have J : PySem.W.InstAt hp a ({ cls := .ref C, dict := some dx, data := .fields #[.ref t1, .none, .none, .none, .bool false, .none] } : Obj) C (some oD) := ⟨ho, rfl, rfl, hoD⟩
  refine PySem.W.set_plain I.kIn J T.sa (PySem.W.osa_openX T.sf I.kIn J T.over (T.taker hno) fun b => ?_)
  refine wpAny_bind (wpAny_pure (wpAny_bind ?_))
  show wpAny _ _ (instanceDict a true) _ _ _
  unfold instanceDict
  refine wpAny_bind (wpAny_loadPart ho ?_)
  obtain ⟨cd, hcd, hmr, hhd⟩ := T.dat
  dsimp only
  refine wpAny_bind ((PySem.W.looks_clsIn I.kIn hcd).at ?_)
  rw [hhd]
  refine wpAny_pure ?_
  refine PySem.OEX.store_in_old hns (within_of rel) (by rw [List.length_map]; omega) fun h' tk' hn hsb => ?_
  have hd : ∃ o, h'.get? dx = some o := by
    obtain ⟨o, _, _, e', _⟩ := hn
    exact ⟨o, e'⟩
  exact h _ (I.write (t' := tk') (x := dx) (e := dx) (o := exd dx ((f, y) :: fs)) (by rw [ed]; exact True.intro) (.inl rfl) (fun b o hb q => (hsb.2 b hb).trans q) hd (exd_ok hn (relO_put ry rel)))
/-- B.__init__(self, ..) -/
theorem gx_init {us : List Value} {Q : Value → Shared → Prop} (T : OxG X.K C B newId initId bm) (I : Inv X pins σ H s) (e : H a = some (exo a C none)) (hl : us.length ≤ sizeLine) (h : ∀ s', Inv X pins σ H s' → Q .none s') : wpAny (model X.prog X.w) A (call (.builtin initId) (.ref a :: us)) Q E s := by
  obtain ⟨nm, q, N, bs, sn, sub, ab, col, dd, k0, k1, k2, k3, k5, hC⟩ := T.cls
  obtain ⟨t1, ho⟩ := exo_at I.hok e
  obtain ⟨hp, g, dn, t, os⟩ := s
  refine wpAny_call (PySem.HandSPX.init_base T.bf (fun _ => rfl) (I.kIn _ _ hC) ho hl fun h' t2 k hx => h _ ?_)
  have J := I.write (t' := t) (x := a) (e := a) (o := exo a C none) (by rw [e]; exact True.intro) (.inl rfl) k ⟨_, hx⟩ (exo_ok hx)
  rwa [show L2.upd H a (exo a C none) = H from funext fun b => by
    by_cases hb : b = a
    · rw [hb, upd_same, e]
    · rw [upd_ne hb]] at J
end
/-! ### the rules -/
/-- B.__init__(self, ..) -/
def tBi (K : PySem.W.Frag) (B newId initId : String) (bm : List Value) (ta : TA) : TE := fun σ H Q => ta σ H fun vs H1 => ∃ (a C : Addr) (ws : List V), vs = .ref a :: ws ∧ ws.length ≤ 1000 ∧ OxG K C B newId initId bm ∧ H1 a = some (exo a C none) ∧ Q .non H1
/-- self.f = e -/
def tGs (K : PySem.W.Frag) (B newId initId : String) (bm : List Value) (f : Str) (to te : TE) : TS := fun D σ H => te σ H fun y H1 => to σ H1 fun x H2 => ∃ a C : Addr, x = .ref a ∧ OxG K C B newId initId bm ∧ PySem.W.findIn K (.ref C) f = some none ∧
  ((H2 a = some (exo a C none) ∧ ∀ dx, H2 dx = none → dx ≠ a → D.nx σ (L2.upd (L2.upd H2 dx (exd dx [(f, y)])) a (exo a C (some dx)))) ∨
    ∃ (dx : Addr) (fs : List (Str × V)), H2 a = some (exo a C (some dx)) ∧ H2 dx = some (exd dx fs) ∧ fs.length ≤ 900 ∧ D.nx σ (L2.upd H2 dx (exd dx ((f, y) :: fs))))
section
variable {X : Cx} {o e : Expr} {es : List Expr} {to te : TE} {ta : TA} {f : Str} {p p' p1 p2 pos : Pos} {B newId initId : String} {bm : List Value} {bn : Str}
theorem pe_bini {pl : Sem Bool} (hg : Gl X bn) (hm : X.mg bn = none) (hbt : bootBuiltins bn = some (.type B)) (hty : typeOf (.type B) = pure (.type "type")) (vV : PySem.W.findCls X.K (.type B) (.type "type") "__init__" = some (.val (.builtin initId))) (ha : PA X (e :: es) ta)
    (hn : bn ≠ "__name__" := by decide) (hdb : (bn == ("__debug__" : Str)) = false := by decide) (hst : Manifest.isStub B = false := by decide +kernel) (hha : PySem.W.handedIn (.builtin initId) = true := by decide +kernel)
    (hc : eval (.Call (.Attribute (.Name bn p1) "__init__" p2) (e :: es) [] pos) X.env = (do
      let v0 ← eval (.Name bn p1) X.env
      standAt p2.atName
      let (f, first) ← holding [v0] (getMethod v0 "__init__" pl)
      callWith pos f first (backTo pos (starEach (e :: es) X.env)) (backToKw pos (keywordEach [] X.env))) := by rfl)
    (he : starEach (e :: es) X.env = (false, eval e X.env) :: starEach es X.env := by rfl) (hpl : (backTo pos (starEach es X.env)).any (·.1) = false := by rfl) :
    PE X (.Call (.Attribute (.Name bn p1) "__init__" p2) (e :: es) [] pos) (tBi X.K B newId initId bm ta) := by
  refine ⟨fun pins s σ H Q I h => ?_⟩
  refine PySem.W.methodCall_KW (ld_blt I hg hm hbt ?_ hn hdb) hc
  obtain ⟨m, fr⟩ := I.fr
  refine PySem.W.method_type fr I.ok.mod.kin hty hst vV hha ?_
  show wpAny _ _ (callWith pos (Value.builtin initId) [] (backTo pos (starEach (e :: es) X.env)) []) _ _ _
  refine PyProof.Rows.callWith_method1 (thn (ha.run pos pins _ σ H _ (I.tok _) h) fun us s1 hh => ?_) he hpl
  obtain ⟨vs, H1, I1, r1, a, C, ws, rfl, hl, T, ea, q⟩ := hh
  cases r1 with
  | @cons _ u0 _ ur ra rr =>
    cases (show u0 = Value.ref a from ra)
    exact gx_init T I1 ea (by rw [← Paired.length rr, sizeLine_eq]; omega) fun s' J => ⟨.non, H1, J, rfl, q⟩
theorem ps_gst (ho : PE X o to) (he : PE X e te) (hs : swapsWith e (some (.Attribute o f p')) pos.line X.env = pure false := by rfl) : PS X (.Assign [.Attribute o f p'] e pos) (tGs X.K B newId initId bm f to te) := by
  refine ⟨fun pins s σ H D I h => ?_⟩
  refine plainObj_wpAny_Assign_Attribute (thn (he.run pins s σ H _ I h) fun v s1 ⟨y, H1, I1, r1, q1⟩ => thn (ho.run pins s1 σ H1 _ I1 q1) fun u s2 hh => ?_) hs
  obtain ⟨x, H2, I2, r2, a, C, rfl, T, hno, q⟩ := hh
  cases (show u = Value.ref a from r2)
  rcases q with ⟨ea, q⟩ | ⟨dx, fs, ea, ed, hl, q⟩
  · exact gx_new T I2 ea hno r1 fun dx s' n ne J => ⟨σ, _, J, q dx n ne⟩
  · exact gx_old T I2 ea ed hl hno r1 fun s' J => ⟨σ, _, J, q⟩
/-- C(e, ..), C's own __init__ keeping sp -/
theorem pmk_g {CX : CXT} {x : Str} {C fI : Addr} {k : Nat} {fd : FuncData} {ps : List Str} {sp : Sp} {ds : List Value} {dvs : List V} (T : OxG X.K C B newId initId bm) (iC : PySem.W.findIn X.K (.ref C) "__init__" = some (some (.ref fI))) (tI : PySem.W.typeIn X.K (.ref fI) = some (.type "function"))
    (F1 : FnOk X.prog X.w X.K X.mg X.base CX k fI fd ps sp) (hr : Room (k + 1) X.A) (hb : Binds X.K fd ps ds) (hd : Vals dvs ds) (hx : Passes CX X (fun _ _ _ => False)) (hg : Gl X x) (hm : X.mg x = some (.ref C)) (ha : PA X (e :: es) ta)
    (hdb : (x == ("__debug__" : Str)) = false := by decide) (he : starEach (e :: es) X.env = (false, eval e X.env) :: starEach es X.env := by rfl) (hpl : (backTo pos (starEach es X.env)).any (·.1) = false := by rfl) : PMk X (.Call (.Name x p) (e :: es) [] pos) (tMkO C sp dvs ta) := by
  intro pins s σ H Q I h
  obtain ⟨nm, q, N, bs, sn, sub, ab, col, dd, k0, k1, k2, k3, k5, hC⟩ := T.cls
  refine wpAny_Call_Name_kw (ld_glob I hg hm ?_ hdb)
  refine PySem.W.callWith_K (h₀ := X.base) I.ok.mod.kin T.kC (thn (ha.run pos pins s σ H _ I h) fun us s1 hh => ?_) he hpl
  obtain ⟨vs, H1, I1, r1, hz, q1⟩ := hh
  refine ⟨I1.kIn, ?_⟩
  show wpAny _ _ (call (.ref C) us) _ _ _
  obtain ⟨hp, g, dr, tk, os⟩ := s1
  have le1 : hp.objs.size ≤ hp.objs.size + 1 := Nat.le_succ _
  have hq := q1 (hp.objs.size + 1) (I1.hok.fresh le1)
  have grow : ∀ b o', hp.get? b = some o' → ((hp.push (PySem.W.kdv_tup us)).push (PySem.HandSPX.excO C hp.objs.size)).get? b = some o' := fun b o' z => Heap.get?_push_of_some _ (Heap.get?_push_of_some _ z)
  have got : ((hp.push (PySem.W.kdv_tup us)).push (PySem.HandSPX.excO C hp.objs.size)).get? (hp.objs.size + 1) = some (PySem.HandSPX.excO C hp.objs.size) := by heap_get
  have I2 := I1.laid (t' := tk) (a := hp.objs.size + 1) (o := exo (hp.objs.size + 1) C none) (h' := (hp.push (PySem.W.kdv_tup us)).push (PySem.HandSPX.excO C hp.objs.size)) grow le1 (exo_ok got)
  have r2 : Vals (V.ref (hp.objs.size + 1) :: (vs ++ dvs)) (Value.ref (hp.objs.size + 1) :: (us ++ ds)) := .cons rfl (r1.append hd)
  have hl : (Value.ref (hp.objs.size + 1) :: us ++ ds).length = ps.length := r2.length.symm.trans (F1.len _ _ _ _ hq)
  have hus : us.length ≤ sizeLine := by rw [← Paired.length r1, sizeLine_eq]; omega
  refine wpAny_call (PySem.HandSPX.call_own T.bf (fun _ => rfl) (I1.kIn _ _ hC) (PySem.W.looks_findIn I1.kIn iC) (fun self => PySem.W.bind_fn I1.kIn self tI) hus (codeAny_mono (F1.run _ X.stack _ _ ⟨Value.ref (hp.objs.size + 1) :: us, []⟩ (Value.ref (hp.objs.size + 1) :: (us ++ ds)) _ _ (fun _ _ _ => False)
    (hr.make C us []) (I2.env0.make C us []) (hb _ (Value.ref (hp.objs.size + 1) :: us) I2.kIn hl) r2 hq) fun r s' hq' => ?_))
  match r, hq' with
  | .error er, hq' => exact hx pins σ _ _ er s' I2 hq'
  | .ok .next, hq' => exact hq'.elim
  | .ok .brk, hq' => exact hq'.elim
  | .ok .cont, hq' => exact hq'.elim
  | .ok (.ret u), hq' =>
    obtain ⟨v, H2, os2, bare2, un2, hok2, rv, rfl, d, fs, ea, ed, hd1, q2⟩ := hq'
    obtain ⟨h2, g2, d2, t2, os'⟩ := s'
    exact ⟨rv, mk_end (raises_own T.exC T.tyC) I1 le1 grow un2 hok2 os2 bare2 ea ed hd1 q2⟩
end
end MM
namespace MM
open PySem PySem.Spec PySem.Calls PyProof.Rows L2
/-! ### str(x) of an instance with its own __str__ -/
def rStrO (C : Addr) (sp : Sp) (E : XK) : List V → Hp → VK → Prop := fun xs H Q => ∃ (a dx : Addr) (fs : List (Str × V)), xs = [.ref a] ∧ H a = some (.ins C dx fs) ∧ sp [.ref a] H (fun v H' => ∃ x : Str, v = .str x ∧ Q (.str x) H') E
section
variable {X : Cx} {CX : CXT} {k : Nat} {C f : Addr} {fd : FuncData} {ps : List Str} {sp : Sp} {E : XK}
theorem call_strO (F : FnOk X.prog X.w X.K X.mg X.base CX k f fd ps sp) (hs : PySem.W.findIn X.K (.ref C) "__str__" = some (some (.ref f))) (hf : PySem.W.isFn X.K (.ref f) = true) (hb : Binds X.K fd ps []) (hx : Passes CX X E) (hr : Room (k + 2) X.A) : CallR X (.type "str") (rStrO C sp E) := by
  intro pins s σ H xs us Q I r h
  obtain ⟨a, dx, fs, rfl, ha, hq⟩ := h
  obtain ⟨u, rfl, r1⟩ := vals1 r
  cases (show u = Value.ref a from r1)
  obtain ⟨mA, J, _⟩ := ins_get I.hok ha
  obtain ⟨od, J, _⟩ := J.look
  have hr1 : Room (k + 1) X.A.in1 := hr.in1
  have hr2 : Room k X.A.in1.in1 := hr1.in1
  have hl : ([Value.ref a] ++ []).length = ps.length := (show ([V.ref a] : List V).length = _ from F.len _ _ _ _ hq)
  refine PySem.W.kso_call hr2.units0 I.kIn J hs hf (wpAny_call (codeAny_mono (F.run X.A.in1.in1 X.stack s H ⟨[.ref a], []⟩ [.ref a] [.ref a] _ E hr2 I.env0.in1.in1 (hb s [.ref a] I.kIn hl) (.cons rfl .nil) hq) fun res s' hres => ?_))
  match res, hres with
  | .error er, hres => exact hx pins σ H s er s' I hres
  | .ok .next, hres => exact hres.elim
  | .ok .brk, hres => exact hres.elim
  | .ok .cont, hres => exact hres.elim
  | .ok (.ret u), hres =>
    obtain ⟨z, H', I', rz, x, rfl, q⟩ := I.after hres
    obtain ⟨t, rfl⟩ := rz
    exact ⟨.str x, H', I', ⟨t, rfl⟩, q⟩
/-- x == y by x's own __eq__, whatever y is -/
def rEqO (K : PySem.W.Frag) (C : Addr) (sp : Sp) (E : XK) : R2 := fun x y H Q => ∃ (a dx : Addr) (fs : List (Str × V)) (t : Value), x = .ref a ∧ H a = some (.ins C dx fs) ∧ TyX K H y t ∧ PySem.W.notFirst K C t = true ∧ sp [.ref a, y] H (fun v H' => ∃ b : Bool, v = .bl b ∧ Q (.bl b) H') E
theorem op_eqO (F : FnOk X.prog X.w X.K X.mg X.base CX k f fd ps sp) (hs : PySem.W.findIn X.K (.ref C) "__eq__" = some (some (.ref f))) (hf : PySem.W.isFn X.K (.ref f) = true) (hb : Binds X.K fd ps []) (hx : Passes CX X E) (hr : Room k X.A) : OpR X (compareOp .Eq) (rEqO X.K C sp E) := by
  intro pins s σ H x y v u Q I rx ry h
  obtain ⟨a, dx, fs, t, rfl, ha, ty, nf, hq⟩ := h
  cases (show v = Value.ref a from rx)
  obtain ⟨mA, J, _⟩ := ins_get I.hok ha
  obtain ⟨od, J, _⟩ := J.look
  obtain ⟨P, kx, hP, _⟩ := kit_of I ry ty
  obtain ⟨m, fr⟩ := I.fr
  have hl : ([Value.ref a, u] ++ []).length = ps.length := (show ([V.ref a, y] : List V).length = _ from F.len _ _ _ _ hq)
  show wpAny (model X.prog X.w) X.A (richCompare .Eq (.ref a) u) _ _ s
  refine PySem.W.cmp_K (op := .Eq) hr.units0 fr I.ok.mod.kin J (kx.ty _ _ I.kIn hP) nf hs hf (wpAny_call (codeAny_mono (F.run X.A X.stack s H ⟨[.ref a, u], []⟩ [.ref a, u] [.ref a, y] _ E hr I.env0 (hb s [.ref a, u] I.kIn hl) (.cons rfl (.cons ry .nil)) hq) fun res s' hres => ?_))
  match res, hres with
  | .error er, hres => exact hx pins σ H s er s' I hres
  | .ok .next, hres => exact hres.elim
  | .ok .brk, hres => exact hres.elim
  | .ok .cont, hres => exact hres.elim
  | .ok (.ret z0), hres =>
    obtain ⟨z, H', I', rz, b, rfl, q⟩ := I.after hres
    cases (show z0 = Value.bool b from rz)
    exact ⟨.bl b, H', I', rfl, q⟩
end
end MM
namespace MM
open PySem PySem.Spec PyProof.Rows L2
/-! ### sep.join(reversed(xs)) -/
theorem strs_of : ∀ {zs : List Str} {l : List Value}, Vals (zs.map V.str) l → StrsAre l zs
  | [], _, h => by
    cases h
    exact .nil
  | z :: zs, _, h => by
    cases h with
    | cons a r =>
      obtain ⟨t, rfl⟩ := a
      exact .cons z t (strs_of r)
section
variable {prog : Program} {w : World} {A : Around} {E : Value → Shared → Prop} {s : Shared}
theorem join_rev {x : Str} {t : Tok} {ys : List Str} {it l : Addr} {items : Array Value} {Q : Value → Shared → Prop} (hh : A.handled = none) (hit : s.heap.IsRevIter it l ((items.size : Int) - 1)) (hl : s.heap.IsList l items) (hne : l ≠ it) (hn : items.size ≤ sizeLine)
    (hP : ∀ acc : Array Value, ItemsOf (fun i v => items[items.size - 1 - i]? = some v) acc items.size → StrsAre acc.toList ys) (hok : (ys.map (·.length)).sum + ys.length * x.length ≤ 16777216)
    (hq : ∀ (h' : Heap) (t' : Tok) (k : Nat), (∀ b o, b ≠ it → s.heap.get? b = some o → h'.get? b = some o) → Q (.str (Txt.join x ys) t') { s with heap := h', toks := k }) :
    wpAny (model prog w) A (call (.builtin "str.join") [.str x t, .ref it]) Q E s := by
  refine wpAny_call (codeAny_call_builtin F.slot_str_join.plain F.entry_str_join (F.slot_str_join.check _ _ _ _ _ _ _ _ (typeIs_str _ _ _) (F.args_str_join_2 _ _) ?_))
  rw [join_tree_other]
  refine wpAny_bind (wpAny_typeOf (Heap.IsRevIter.typeIs hit) ?_)
  show wpAny _ A.in1 ((pyIter (.ref it)).tryCatch _ >>= fun i0 => collect i0 >>= fun c0 => joinTail x c0) _ _ s
  refine wpAny_bind (wpAny_tryCatch (wpAny_pyIter_revIter hit ?_))
  refine wpAny_bind (RT.collect_rev (A := A.in1) hh hit hl hne hn fun h' tk acc hk hacc => ?_)
  obtain ⟨l0, h0, e0⟩ := strsAre_values (hP acc hacc)
  subst e0
  rw [h0]
  have fit := joinOk_of hok
  unfold JoinOk at fit
  rw [Bool.not_eq_true'] at fit
  have g : Gives (joinTail x (strValues l0)) (joinMade x l0) := by
    have g0 := gives_joinTail x l0 fit
    rcases l0 with _ | ⟨p, _ | ⟨q, r⟩⟩ <;> exact g0
  exact g prog w A (wants Q E) _ (post_join l0 ⟨joinFit_length fit, fun t' k => hq h' t' k hk⟩)
end
section
variable {X : Cx}
def tJoinRev (K : PySem.W.Frag) (to te : TE) : TE := fun σ H Q => to σ H fun x H1 => (∃ a, x = .str a) ∧ te σ H1 fun v H2 => ∃ (a : Str) (q : Addr) (ys : List Str), x = .str a ∧ v = .ref q ∧ SqL K H2 q (ys.map V.str) ∧ (ys.reverse.map (·.length)).sum + ys.reverse.length * a.length ≤ 16777216 ∧ Q (.str (Txt.join a ys.reverse)) H2
theorem pe_joinRev {o e : Expr} {to te : TE} {apos pos p pos2 : Pos} (hc : X.calm = true) (ho : PE X o to) (hg : Gl X "reversed") (hm : X.mg "reversed" = none) (he : PE X e te)
    (hs1 : starEach [.Call (.Name "reversed" p) [e] [] pos2] X.env = [(false, eval (.Call (.Name "reversed" p) [e] [] pos2) X.env)] := by rfl) (hs : starEach [e] X.env = (false, eval e X.env) :: starEach [] X.env := by rfl)
    (hbase : attributeBase o "join" X.env (eval o X.env) = eval o X.env := by rfl) (hline : (apos.endLine == pos.line) = true := by rfl) :
    PE X (.Call (.Attribute o "join" apos) [.Call (.Name "reversed" p) [e] [] pos2] [] pos) (tJoinRev X.K to te) := by
  refine ⟨fun pins s σ H Q I h => ?_⟩
  refine PySem.Call_method1 hbase hs1 hline (thn (ho.run pins s σ H _ I h) fun v s1 hh => ?_)
  obtain ⟨x, H1, I1, r1, ⟨a, rfl⟩, q1⟩ := hh
  obtain ⟨t, rfl⟩ := _root_.id r1
  refine ⟨"str", _, F.plainAttrs_str, F.slot_str_join, F.type_str_join, typeIs_str _ _ _, (fun _ e => nomatch e), Calls.callWith_builtin rfl (Calls.evalArgs_plain (Calls.spliced_cons ?_))⟩
  refine Call_ (ld_blt I1 hg hm PyProof.Rows.boot_reversed (PyProof.Rows.callWith_type1 (args_cons (thn (he.run pins s1 σ H1 _ I1 q1) fun u s2 hh => args_nil ?_) hs) hs rfl))
  obtain ⟨v, H2, I2, r2, a', q, ys, ea, rfl, hq, hz, q2⟩ := hh
  cases ea
  cases (show u = Value.ref q from r2)
  obtain ⟨its, rv, p', hsz⟩ := I2.list hq
  refine call_reversed_list p'.isList ?_
  have grow : ∀ b o, s2.heap.get? b = some o → (s2.heap.push (revObj q ((its.toArray.size : Int) - 1))).get? b = some o := fun b o z => Heap.get?_push_of_some _ z
  have I3 : Inv X pins σ H2 { s2 with heap := s2.heap.push (revObj q ((its.toArray.size : Int) - 1)) } := I2.kept (t' := s2.toks) grow
  obtain ⟨f0, f1, f2, f3, f4, f5⟩ := I2.fpOk (H' := H2) (b := s2.heap.objs.size) (Nat.le_refl _) (I2.hok.fresh (Nat.le_refl _))
  have hl := p'.isList
  obtain ⟨ol, hol, _⟩ := _root_.id hl
  have hne : q ≠ s2.heap.objs.size := Nat.ne_of_lt (Heap.lt_size hol)
  have hn : its.toArray.size ≤ sizeLine := by rw [List.size_toArray, ← rv.length]; exact hsz
  refine Calls.spliced_nil ?_
  refine join_rev (s := { s2 with heap := s2.heap.push (revObj q ((its.toArray.size : Int) - 1)) }) (ys := ys.reverse) (I2.ok.hd hc) ⟨_, Heap.get?_push_size _ rfl, rfl, rfl⟩ (hl.push _) hne hn (fun acc hacc => strs_of ?_) hz fun h' t' k hk => ?_
  · rw [List.map_reverse]
    exact RT.vals_rev rv hacc
  · exact ⟨.str _, H2, I3.turned (t' := k) (fun b o hb z => hk b o hb z) f0 f1 f3 f4 f5, ⟨t', rfl⟩, q2⟩
end
end MM
namespace MM
open PySem PySem.Spec PySem.Calls PyProof.Rows L2
section
variable {X : Cx} {CX : CXT} {k j : Nat} {C : Addr} {qual : Str} {st : Stmt} {ps : List Str} {sp : Sp} {E : XK}
/-- x == y by the __eq__ of x's class -/
theorem op_eqC (c : Cm X.prog X.w X.K X.mg X.base CX k C "__eq__" qual st ps sp) (b : Bd "__eq__" qual st ps) (hx : Passes CX X E) (hr : Room j X.A) (hk : k ≤ j) : OpR X (compareOp .Eq) (rEqO X.K C sp E) := by
  obtain ⟨f, fd, F, M, hc, G⟩ := c.ex
  exact op_eqO G M.1 M.2 (F.bindsN b) hx (hr.mono hk)
theorem nf_self {K : PySem.W.Frag} {C : Addr} : PySem.W.notFirst K C (.ref C) = true := by
  unfold PySem.W.notFirst
  simp
end
end MM
namespace MM
open PySem PySem.Spec PyProof.Rows L2
theorem no' {A B : Prop} {b : Bool} (hb : b = false) (h : B) : if b = true then A else B := by
  subst hb
  exact iteF h
theorem upd_keep {H H1 : Hp} {D : Addr} {o : HO} (nD : H D = none) (s : Same H H1) : Same H (L2.upd H1 D o) := fun b u e => by
  rw [upd_ne (ne_of_none e nD)]
  exact s b u e
section
variable {J : It} {n : Nat} {G : Hp → Prop} {Y : Nat → Hp → V → Hp → Prop}
/-- a comprehension without a test whose i-th thing has Ps i -/
theorem lc_all (w : Walk J n G Y) (hY : ∀ i H x H', Y i H x H' → Same H H') {g : TG} {te : TE} {vs : List Nat} {σ : L2.St} {H : Hp} {D : Addr} {Qd : Hp → Prop} (nD : H D = none) (hn : n < sizeLine) (Ps : Nat → V → Hp → Prop)
    (hm : ∀ j v H1 H2, Same H1 H2 → Ps j v H1 → Ps j v H2) (hp : ∀ j v H1 acc acc', H1 D = some (.lst acc) → Ps j v H1 → Ps j v (L2.upd H1 D (.lst acc'))) (hG : ∀ H', Same H H' → G H')
    (hs : ∀ i x H1 H2 (R : V → Hp → Prop), i < n → Same H H1 → Y i H1 x H2 → (∀ v H3, Same H2 H3 → Ps i v H3 → R v H3) → g x (wipe σ vs) H2 fun σ2 H3 => wipe σ2 vs = wipe σ vs ∧ te σ2 H3 R)
    (hd : ∀ (us : List V) H', us.length = n → H' D = some (.lst us) → Same H H' → (∀ j v, us[j]? = some v → Ps j v H') → Qd H') :
    ∃ W : Nat → Nat → Hp → Prop, (∃ m, W 0 m (L2.upd H D (.lst []))) ∧ ∀ i m H, W i m H →
      (J.stop i H ∧ Qd H) ∨ (J.go i H ∧ ∃ Nx : Hp → Prop, (∀ H', Nx H' → ∃ m', m' < m ∧ W (i + 1) m' H') ∧ ∀ x H', J.yld i H x H' → g x (wipe σ vs) H' fun σ2 H2 => wipe σ2 vs = wipe σ vs ∧ tYes σ2 H2 fun b H3 =>
        if b = true then te σ2 H3 fun y H4 => ∃ acc, H4 D = some (.lst acc) ∧ acc.length < sizeLine ∧ Nx (L2.upd H4 D (.lst (acc ++ [y]))) else Nx H3) := by
  refine lc_it w (fun i H' => ∃ us : List V, us.length = i ∧ H' D = some (.lst us) ∧ Same H H' ∧ ∀ j v, us[j]? = some v → Ps j v H') ⟨[], rfl, upd_same, upd_keep nD (Same.refl H), fun j v h => by simp at h⟩ (fun i H' _ ⟨_, _, _, s, _⟩ => hG H' s) ?_ (fun H' ⟨us, l, e, s, p⟩ => hd us H' l e s p)
  rintro i x H1 H2 hi ⟨us, hl, e, s, p⟩ y
  refine hs i x H1 H2 _ hi s y fun v H3 s3 pv => ?_
  have s2 := hY _ _ _ _ y
  have e3 := s3 _ _ (s2 _ _ e)
  refine ⟨us, e3, by omega, us ++ [v], by rw [List.length_append, hl]; rfl, upd_same, upd_keep nD (s.trans (s2.trans s3)), fun j u hj => ?_⟩
  by_cases hjl : j < us.length
  · rw [List.getElem?_append_left hjl] at hj
    exact hp _ _ _ _ _ e3 (hm _ _ _ _ (s2.trans s3) (p j u hj))
  · rw [List.getElem?_append_right (by omega)] at hj
    have ej : j = us.length := by
      by_cases hz : j - us.length = 0
      · omega
      · have : ([v] : List V)[j - us.length]? = none := List.getElem?_eq_none_iff.mpr (by simp; omega)
        rw [this] at hj
        cases hj
    subst ej
    rw [Nat.sub_self] at hj
    cases hj
    rw [hl]
    exact hp _ _ _ _ _ e3 pv
/-- a comprehension whose i-th thing is the whole number f i -/
theorem lc_ints (w : Walk J n G Y) (hY : ∀ i H x H', Y i H x H' → Same H H') {g : TG} {te : TE} {vs : List Nat} {σ : L2.St} {H : Hp} {D : Addr} {Qd : Hp → Prop} (nD : H D = none) (hn : n < sizeLine) (f : Nat → Int) (hG : ∀ H', Same H H' → G H')
    (hs : ∀ i x H1 H2 (R : V → Hp → Prop), i < n → Same H H1 → Y i H1 x H2 → (∀ H3, Same H2 H3 → R (.int (f i)) H3) → g x (wipe σ vs) H2 fun σ2 H3 => wipe σ2 vs = wipe σ vs ∧ te σ2 H3 R)
    (hd : ∀ H', H' D = some (.lst (((List.range n).map f).map V.int)) → Same H H' → Qd H') :
    ∃ W : Nat → Nat → Hp → Prop, (∃ m, W 0 m (L2.upd H D (.lst []))) ∧ ∀ i m H, W i m H →
      (J.stop i H ∧ Qd H) ∨ (J.go i H ∧ ∃ Nx : Hp → Prop, (∀ H', Nx H' → ∃ m', m' < m ∧ W (i + 1) m' H') ∧ ∀ x H', J.yld i H x H' → g x (wipe σ vs) H' fun σ2 H2 => wipe σ2 vs = wipe σ vs ∧ tYes σ2 H2 fun b H3 =>
        if b = true then te σ2 H3 fun y H4 => ∃ acc, H4 D = some (.lst acc) ∧ acc.length < sizeLine ∧ Nx (L2.upd H4 D (.lst (acc ++ [y]))) else Nx H3) := by
  refine lc_all w hY nD hn (fun i v _ => v = .int (f i)) (fun _ _ _ _ _ h => h) (fun _ _ _ _ _ _ h => h) hG (fun i x H1 H2 R hi s y k => hs i x H1 H2 R hi s y fun H3 s3 => k _ H3 s3 rfl) fun us H' l e s p => ?_
  have eu : us = ((List.range n).map f).map V.int := by
    refine List.ext_getElem? fun j => ?_
    by_cases hj : j < us.length
    · have h1 := List.getElem?_eq_getElem hj
      rw [h1, p j _ h1]
      rw [List.getElem?_map, List.getElem?_map, List.getElem?_range (by omega)]
      rfl
    · rw [List.getElem?_eq_none_iff.mpr (by omega), List.getElem?_eq_none_iff.mpr (by simp; omega)]
  subst eu
  exact hd H' e s
end
theorem yFn_same {f : Nat → V} : ∀ i H x H', YFn f i H x H' → Same H H' := fun _ _ _ _ h => by rw [h.1]; exact Same.refl _
theorem yAt_same {xs : List V} : ∀ i H x H', YAt xs i H x H' → Same H H' := fun _ _ _ _ h => by rw [h.1]; exact Same.refl _
theorem yPair_same {xs ys : Nat → Option V} : ∀ i H x H', YPair xs ys i H x H' → Same H H' := by
  rintro i H x H' ⟨T, a, b, rfl, nT, rfl, _⟩
  exact upd_keep nT (Same.refl H)
/-! ### lists of whole numbers, compared -/
theorem dps_ints {K : PySem.W.Frag} {H : Hp} : ∀ ns : List Int, DpAll K H (ns.map V.int) (ns.map PyData.int)
  | [] => .nil
  | n :: ns => .cons (.int n) (dps_ints ns)
theorem dp_ints {K : PySem.W.Frag} {H : Hp} {a : Addr} {ns : List Int} (h : H a = some (.lst (ns.map V.int))) : Dp K H (.ref a) (.list (ns.map PyData.int)) := .lst (SqL.of h) (dps_ints ns)
theorem lay_ints : ∀ ns : List Int, PyData.canLayAll0 (ns.map PyData.int) = true
  | [] => rfl
  | n :: ns => by
    rw [List.map_cons, PyData.canLayAll0, lay_ints ns]
    rfl
theorem dep_ints : ∀ ns : List Int, PyData.depthAll (ns.map PyData.int) ≤ 1
  | [] => by simp [PyData.depthAll]
  | n :: ns => by
    have h := dep_ints ns
    simp only [List.map_cons, PyData.depthAll, PyData.depth]
    omega
theorem sh_ints (ns : List Int) : SeqAt.shaped (.list (ns.map PyData.int)) = true := by
  have h := dep_ints ns
  show (PyData.canLay0 (.list (ns.map PyData.int)) && decide (PyData.depth (.list (ns.map PyData.int)) ≤ 64)) = true
  rw [Bool.and_eq_true]
  refine ⟨by simp only [PyData.canLay0]; exact lay_ints ns, decide_eq_true ?_⟩
  simp only [PyData.depth]
  omega
theorem eqv_intL (ns : List Int) : PyData.eqv (.list (ns.map PyData.int)) (.list (ns.map PyData.int)) = true := SeqAt.eqv_refl _ (by simp only [PyData.canLay0]; exact lay_ints ns)
/-! ### steps from each to the next -/
def stp (f : Nat → Int) (n : Nat) : List Int := (List.range n).map fun i => f (i + 1) - f i
theorem stp_sum (f : Nat → Int) : ∀ n, (stp f n).sum = f n - f 0
  | 0 => by simp [stp]
  | n + 1 => by
    have h := stp_sum f n
    unfold stp at *
    rw [List.range_succ, List.map_append, List.sum_append, h]
    simp
    omega
end MM
namespace MM
open PySem PySem.Spec PySem.Calls PyProof.Rows L2
/-! ### x != y where the class has an own __eq__ and no __ne__ -/
section
variable {prog : Program} {w : World} {A : Around} {E : Value → Shared → Prop} {s : Shared} {K : PySem.W.Frag} {x C L f : Addr} {h₀ : Heap} {m : Str → Option Value} {ox : Obj} {od : Option Obj} {name : Str} {b tb : Value}
theorem ifBound_B {M : Model} {id : String} {args : List Value} {Q : Option Value → Shared → Prop} (X : K.In s.heap) (I : PySem.W.InstAt s.heap x ox C od) (hs : PySem.W.findIn K (.ref C) name = some (some (.builtin id))) (S : Slot "object" name id)
    (h : wpAny M A (call (.builtin id) (.ref x :: args)) (fun v => Q (some v)) E s) : wpAny M A (callSpecialIfBound? (.ref x) name args) Q E s := by
  simp only [callSpecialIfBound?, bindSpecialIfBound?]
  refine wpAny_holding (wpAny_bind (wpAny_bind (wpAny_bind (I.type.here ((PySem.W.looks_findIn X hs).here ?_)))))
  simp only [S.bind]
  refine wpAny_bind (wpAny_askSetting (wpAny_ite ?_))
  have fin : wpAny M A (call (.builtin id) ([.ref x] ++ args) >>= fun v => pure (some v)) Q E s := wpAny_bind (wpAny_mono h (fun v s' h' => wpAny_pure h') fun _ _ h' => h')
  split
  · exact wpAny_bind (wpAny_pure (wpAny_pure fin))
  · exact wpAny_tryCatch (wpAny_bind (wpAny_pure (wpAny_pure fin)))
theorem objNe_own {Q : Fin → Shared → Prop} (X : K.In s.heap) (I : PySem.W.InstAt s.heap x ox C od) (hs : PySem.W.findIn K (.ref C) "__eq__" = some (some (.ref f))) (hf : PySem.W.isFn K (.ref f) = true) (hu : A.units < cLine)
    (hcall : wpAny (model prog w) A (call (.ref f) [.ref x, b]) (fun v s' => ∃ r, v = .bool r ∧ Q (.done (.ret (.bool (!r)))) s') E s) :
    wpAny (model prog w) A (Builtin.«object.__ne__» ⟨[.ref x, b], []⟩) Q E s := by
  obtain ⟨h, g, d, t, os⟩ := s
  unfold Builtin.«object.__ne__»
  repeat (first
    | with_reducible refine wpAny_cRoomFor hu ?_
    | (refine wpAny_bind (m := callSpecialIfBound? (.ref x) (Str.ofString "__eq__") [b])
        (PySem.W.ifBound_K X I hs hf (wpAny_mono hcall (fun r s' hr => by
          obtain ⟨b, rfl, hq⟩ := hr
          repeat (first | exact hq | exact wpAny_pure hq | exact wpAny_truthy_bool hq | (refine wpAny_bind (m := truthy (.bool _)) (wpAny_truthy_bool ?_)) | wp_step)) fun _ _ e => e)))
    | wp_step)
/-- what the written part says of such a class -/
structure NeT (K : PySem.W.Frag) (C : Addr) : Prop where
  ne : PySem.W.findIn K (.ref C) "__ne__" = some (some (.builtin "object.__ne__"))
  cls : ∃ nm q N bs hd sn sub ab col dd k0 k1 k2 k3 k5 nw, K.lookup C = some (excClassObj nm q C N bs [.type "object"] hd sn sub ab col dd k0 k1 k2 k3 k5 nw)
theorem ne_K {Q : Value → Shared → Prop} (T : NeT K C) (hu : A.units + 1 < cLine) (F : Fr h₀ L s.heap m) (X₀ : K.In h₀) (I : PySem.W.InstAt s.heap x ox C od) (hb : PySem.W.Looks (model prog w) s.heap (typeOf b) tb) (hn : PySem.W.notFirst K C tb = true)
    (hs : PySem.W.findIn K (.ref C) "__eq__" = some (some (.ref f))) (hf : PySem.W.isFn K (.ref f) = true)
    (h : wpAny (model prog w) A.in1 (call (.ref f) [.ref x, b]) (fun v s' => ∃ r, v = .bool r ∧ Q (.bool (!r)) s') E s) : wpAny (model prog w) A (richCompare .NotEq (.ref x) b) Q E s := by
  have X := X₀.keeps F.keep
  obtain ⟨nm, q, N, bs, hd, sn, sub, ab, col, dd, k0, k1, k2, k3, k5, nw, hC⟩ := T.cls
  have one : wpAny (model prog w) A (tryCompare (.ref x) "__ne__" b) (fun r s' => ∃ v, r = some v ∧ Q v s') E s := by
    unfold tryCompare
    obtain ⟨hp, g, d, t, os⟩ := s
    refine wpAny_bind (ifBound_B X I T.ne PySem.F.cmp_object.ne (wpAny_call (codeAny_call_builtin PySem.F.cmp_object.ne.plain PySem.F.cmpEntry_ne (wpAny_check_slot_inst PySem.F.cmpKind_ne PySem.F.cmpSplit_ne (PySem.F.cmpArgs_ne _ _) PySem.F.cmp_object.hasObject I.at_ I.cls (X _ _ hC) (objNe_own (A := A.in1) X I hs hf hu (wpAny_mono h (fun v s' hv => ?_) fun _ _ e => e))))))
    obtain ⟨r, rfl, hq⟩ := hv
    first | exact ⟨r, rfl, wpAny_pure ⟨_, rfl, hq⟩⟩ | exact ⟨r, rfl, wpAny_pure (wpAny_pure ⟨_, rfl, hq⟩)⟩ | exact ⟨r, rfl, ⟨_, rfl, hq⟩⟩
  unfold richCompare
  simp only [oneThing_ref]
  refine wpAny_holding (wpAny_bind (wpAny_cRoomFor (Nat.lt_of_succ_lt hu) ?_))
  refine wpAny_bind (I.type.here (wpAny_bind (hb.here ?_)))
  split
  · rename_i q
    have e : PySem.W.subIn K tb (.ref C) = some false := by
      rcases Bool.or_eq_true_iff.mp hn with e | e
      · rw [beq_iff_eq.mp e] at q
        simp at q
      · exact beq_iff_eq.mp e
    refine wpAny_bind ((PySem.W.looks_subIn X e).here ?_)
    simp only [Bool.false_eq_true, if_false]
    refine wpAny_bind (wpAny_mono one (fun r s' z => ?_) fun _ _ e => e)
    obtain ⟨v, rfl, hq⟩ := z
    exact wpAny_pure hq
  · refine wpAny_bind (wpAny_pure ?_)
    simp only [Bool.false_eq_true, if_false]
    refine wpAny_bind (wpAny_mono one (fun r s' z => ?_) fun _ _ e => e)
    obtain ⟨v, rfl, hq⟩ := z
    exact wpAny_pure hq
end
section
variable {X : Cx} {CX : CXT} {k j : Nat} {C f : Addr} {fd : FuncData} {qual : Str} {st : Stmt} {ps : List Str} {sp : Sp} {E : XK}
def rNeO (K : PySem.W.Frag) (C : Addr) (sp : Sp) (E : XK) : R2 := fun x y H Q => ∃ (a dx : Addr) (fs : List (Str × V)) (t : Value), x = .ref a ∧ H a = some (.ins C dx fs) ∧ TyX K H y t ∧ PySem.W.notFirst K C t = true ∧ sp [.ref a, y] H (fun v H' => ∃ b : Bool, v = .bl b ∧ Q (.bl (!b)) H') E
theorem op_neO (T : NeT X.K C) (F : FnOk X.prog X.w X.K X.mg X.base CX k f fd ps sp) (hs : PySem.W.findIn X.K (.ref C) "__eq__" = some (some (.ref f))) (hf : PySem.W.isFn X.K (.ref f) = true) (hb : Binds X.K fd ps []) (hx : Passes CX X E) (hr : Room (k + 1) X.A) : OpR X (compareOp .NotEq) (rNeO X.K C sp E) := by
  intro pins s σ H x y v u Q I rx ry h
  obtain ⟨a, dx, fs, t, rfl, ha, ty, nf, hq⟩ := h
  cases (show v = Value.ref a from rx)
  obtain ⟨mA, J, _⟩ := ins_get I.hok ha
  obtain ⟨od, J, _⟩ := J.look
  obtain ⟨P, kx, hP, _⟩ := kit_of I ry ty
  obtain ⟨m, fr⟩ := I.fr
  have hl : ([Value.ref a, u] ++ []).length = ps.length := (show ([V.ref a, y] : List V).length = _ from F.len _ _ _ _ hq)
  have hr1 : Room k X.A.in1 := hr.in1
  have hun : X.A.units + 1 < cLine := by
    have := hr.un
    omega
  show wpAny (model X.prog X.w) X.A (richCompare .NotEq (.ref a) u) _ _ s
  refine ne_K T hun fr I.ok.mod.kin J (kx.ty _ _ I.kIn hP) nf hs hf (wpAny_call (codeAny_mono (F.run X.A.in1 X.stack s H ⟨[.ref a, u], []⟩ [.ref a, u] [.ref a, y] _ E hr1 I.env0.in1 (hb s [.ref a, u] I.kIn hl) (.cons rfl (.cons ry .nil)) hq) fun res s' hres => ?_))
  match res, hres with
  | .error er, hres => exact hx pins σ H s er s' I hres
  | .ok .next, hres => exact hres.elim
  | .ok .brk, hres => exact hres.elim
  | .ok .cont, hres => exact hres.elim
  | .ok (.ret z0), hres =>
    obtain ⟨z, H', I', rz, b, rfl, q⟩ := I.after hres
    cases (show z0 = Value.bool b from rz)
    exact ⟨b, rfl, .bl (!b), H', I', rfl, q⟩
theorem op_neC (T : NeT X.K C) (c : Cm X.prog X.w X.K X.mg X.base CX k C "__eq__" qual st ps sp) (b : Bd "__eq__" qual st ps) (hx : Passes CX X E) (hr : Room j X.A) (hk : k + 1 ≤ j) : OpR X (compareOp .NotEq) (rNeO X.K C sp E) := by
  obtain ⟨f, fd, F, M, hc, G⟩ := c.ex
  exact op_neO T G M.at_ M.fn (F.bindsN b) hx (hr.mono hk)
end
end MM
namespace MM
open PySem PySem.Spec PyProof.Rows L2
theorem hu65 {k : Nat} {A : Around} (r : Room k A) : A.units + 65 < cLine := by
  have := r.un
  omega
section
variable {X : Cx}
/-- sum(t) of a tuple of whole numbers -/
def rSumT (K : PySem.W.Frag) : List V → Hp → VK → Prop := fun vs H Q => ∃ (a : Addr) (ns : List Int), vs = [V.ref a] ∧ SqT K H a (ns.map V.int) ∧ Q (.int ns.sum) H
theorem cr_sumT (hc : X.calm = true) : CallR X (.builtin "sum") (rSumT X.K) := by
  intro pins s σ H vs us Q I r h
  obtain ⟨a, ns, rfl, hs, q⟩ := h
  obtain ⟨its, rv, hl, _⟩ := I.tuple hs
  rw [Vals.ref1 r]
  have hi := rv.ints
  obtain ⟨xs, hx⟩ := hi.allInts.items
  have hn : numsOf its.toArray.toList = ns := by rw [show its.toArray.toList = its from rfl, hi.numsOf]
  have hl : s.heap.IsTuple a its.toArray := hl
  rw [hx] at hl hn
  rw [nums_intItems] at hn
  refine PySem.W.ktm_sumG (I.ok.hd hc) hl fun h' tk t' hk => ⟨.int _, H, I.kept hk, ⟨_, rfl⟩, ?_⟩
  rw [preSum_eq, List.take_of_length_le (by simp), hn]
  exact q
end
/-! ### data of rows of whole numbers -/
def tupD (ns : List Int) : PyData := .tuple (ns.map PyData.int)
theorem dp_tup {K : PySem.W.Frag} {H : Hp} {a : Addr} {ns : List Int} (h : H a = some (.tup (ns.map V.int))) : Dp K H (.ref a) (tupD ns) := .tup (SqT.of h) (dps_ints ns)
theorem lay_tups : ∀ zs : List (List Int), PyData.canLayAll0 (zs.map tupD) = true
  | [] => rfl
  | z :: zs => by
    rw [List.map_cons, PyData.canLayAll0, lay_tups zs, tupD, PyData.canLay0, lay_ints]
    rfl
theorem dep_tups : ∀ zs : List (List Int), PyData.depthAll (zs.map tupD) ≤ 3
  | [] => by simp [PyData.depthAll]
  | z :: zs => by
    have h := dep_tups zs
    have h2 := dep_ints z
    simp only [List.map_cons, PyData.depthAll, tupD, PyData.depth]

    omega
theorem sh_tups (zs : List (List Int)) : SeqAt.shaped (.list (zs.map tupD)) = true := by
  have h := dep_tups zs
  show (PyData.canLay0 (.list (zs.map tupD)) && decide (PyData.depth (.list (zs.map tupD)) ≤ 64)) = true
  rw [Bool.and_eq_true]
  refine ⟨by simp only [PyData.canLay0]; exact lay_tups zs, decide_eq_true ?_⟩
  simp only [PyData.depth]
  omega
theorem sh_tup (ns : List Int) : SeqAt.shaped (tupD ns) = true := by
  have h := dep_ints ns
  show (PyData.canLay0 (tupD ns) && decide (PyData.depth (tupD ns) ≤ 64)) = true
  rw [Bool.and_eq_true]
  refine ⟨by simp only [tupD, PyData.canLay0]; exact lay_ints ns, decide_eq_true ?_⟩
  simp only [tupD, PyData.depth]
  omega
theorem eqv_tup (ns : List Int) : PyData.eqv (tupD ns) (tupD ns) = true := SeqAt.eqv_refl _ (by simp only [tupD, PyData.canLay0]; exact lay_ints ns)
/-- a list whose things are the rows zs -/
def Rows (H : Hp) (us : List V) (zs : List (List Int)) : Prop := us.length = zs.length ∧ ∀ (j : Nat) (u : V), us[j]? = some u → ∃ (q : Addr) (z : List Int), u = .ref q ∧ zs[j]? = some z ∧ H q = some (.tup (z.map V.int))
theorem Rows.same {H H1 : Hp} {us : List V} {zs : List (List Int)} (h : Rows H us zs) (s : Same H H1) : Rows H1 us zs := ⟨h.1, fun j u hu => by
  obtain ⟨q, z, e1, e2, e3⟩ := h.2 j u hu
  exact ⟨q, z, e1, e2, s _ _ e3⟩⟩
theorem Rows.dps {K : PySem.W.Frag} {H : Hp} : ∀ {us : List V} {zs : List (List Int)}, Rows H us zs → DpAll K H us (zs.map tupD)
  | [], [], _ => .nil
  | [], _ :: _, h => by have := h.1; simp at this
  | _ :: _, [], h => by have := h.1; simp at this
  | u :: us, z :: zs, h => by
    obtain ⟨q, z', rfl, e2, e3⟩ := h.2 0 u rfl
    cases e2
    refine .cons (dp_tup e3) (Rows.dps ⟨by have := h.1; simpa using this, fun j v hv => h.2 (j + 1) v (by simpa using hv)⟩)
theorem Rows.dp {K : PySem.W.Frag} {H : Hp} {a : Addr} {us : List V} {zs : List (List Int)} (h : Rows H us zs) (e : H a = some (.lst us)) : Dp K H (.ref a) (.list (zs.map tupD)) := .lst (SqL.of e) h.dps
theorem any_row {zs : List (List Int)} {z : List Int} (h : z ∈ zs) : ((zs.map tupD).any fun d => PyData.eqv d (tupD z)) = true := List.any_eq_true.mpr ⟨tupD z, List.mem_map.mpr ⟨z, h, rfl⟩, eqv_tup z⟩
end MM
namespace MM
open PySem PySem.Spec PyProof.Rows L2
/-! ### calls that may raise, the names as they stand at the call -/
section
variable {X : Cx} {k j : Nat} {f : Addr} {fd : FuncData} {ps ks : List Str} {sp : Sp} {dvs : List V} {ds : List Value} {x : Str} {st : Stmt} {p pos : Pos} {e : Expr} {es : List Expr} {kws : List Keyword} {t tk : TA} {W : WX}
theorem run_fnS {pins : List (Addr × Obj)} {σ : L2.St} {H : Hp} {s : Shared} {Q : VK} {us : List Value} {vs : List V} (F : FnOk X.prog X.w X.K X.mg X.base (L2.CX X.prog X.w) k f fd ps sp) (hr : Room k X.A) (hb : Binds X.K fd ps ds) (hd : Vals dvs ds) (ht : Takes X W)
    (I : Inv X pins σ H s) (r : Vals vs us) (h : sp (vs ++ dvs) H Q (fun c d H' => W c d σ H')) : wpAny (model X.prog X.w) X.A (call (.ref f) us) (EP X pins σ Q) X.xe s := by
  have r2 : Vals (vs ++ dvs) (us ++ ds) := r.append hd
  have hl : (us ++ ds).length = ps.length := by rw [← r2.length]; exact F.len _ _ _ _ h
  refine wpAny_call (codeAny_mono (F.run X.A X.stack s H ⟨us, []⟩ (us ++ ds) (vs ++ dvs) Q _ hr I.env0 (hb s us I.kIn hl) r2 h) fun r s' hq => ?_)
  match r, hq with
  | .error e, hq => exact ht e s' (XE.of_call I (fun _ _ _ z => z) hq)
  | .ok (.ret u), hq => exact I.after hq
  | .ok .next, hq => exact False.elim hq
  | .ok .brk, hq => exact False.elim hq
  | .ok .cont, hq => exact False.elim hq
theorem pe_caS (c : Ca X.prog X.w X.K X.mg X.base (L2.CX X.prog X.w) k x st [] ps sp) (b : Bd x x st ps) (hr : Room j X.A) (hk : k ≤ j) (ht : Takes X W) (hg : Gl X x) (ha : PA X (e :: es) t)
    (hdb : (x == ("__debug__" : Str)) = false := by decide) (he : starEach (e :: es) X.env = (false, eval e X.env) :: starEach es X.env := by rfl) (hpl : (backTo pos (starEach es X.env)).any (·.1) = false := by rfl) :
    PE X (.Call (.Name x p) (e :: es) [] pos) (fun σ H Q => t σ H fun vs H1 => sp (vs ++ []) H1 Q (fun c d H' => W c d σ H')) := by
  obtain ⟨f, fd, F, hm, G⟩ := c.ex
  refine ⟨fun pins s σ H Q I h => ?_⟩
  refine wpAny_Call_Name_kw (ld_glob I hg hm ?_ hdb)
  refine PySem.W.callWith_K (h₀ := X.base) I.ok.mod.kin F.kp (thn (ha.run pos pins s σ H _ I h) fun us s1 ⟨vs, H1, I1, r, q⟩ => ⟨I1.kIn, ?_⟩) he hpl
  exact run_fnS G (hr.mono hk) (F.bindsN b) .nil ht I1 r q
theorem pe_caKS {g : {α : Type} → List α → List α → List α} (c : Ca X.prog X.w X.K X.mg X.base (L2.CX X.prog X.w) k x st [] ps sp) (b : Kb x st 0 ks ps g) (hr : Room j X.A) (hk : k ≤ j) (ht : Takes X W) (hg : Gl X x) (hkw : PK X kws tk)
    (hall : (backToKw pos (keywordEach kws X.env)).all (·.1.isSome) = true := by rfl) (hks : (backToKw pos (keywordEach kws X.env)).filterMap (·.1) = ks := by rfl) (hdb : (x == ("__debug__" : Str)) = false := by decide)
    (hpl : ((backTo pos (starEach [] X.env)).any (·.1) || (backToKw pos (keywordEach kws X.env)).any (·.1.isNone)) = false := by rfl) :
    PE X (.Call (.Name x p) [] kws pos) (fun σ H Q => tk σ H fun zs H2 => zs.length = ks.length ∧ sp (g [] zs) H2 Q (fun c d H' => W c d σ H')) := by
  obtain ⟨f, fd, F, hm, G⟩ := c.ex
  obtain ⟨kV, doc, pm, an, cdv, ct, rfl⟩ := FunD.none F
  refine ⟨fun pins s σ H Q I h => ?_⟩
  refine wpAny_Call_Name_kw (ld_glob I hg hm ?_ hdb)
  refine PySem.W.callWith_KW0 (h₀ := X.base) I.ok.mod.kin F.kp hall ?_ hpl
  refine thn (hkw.run pos pins s σ H _ I h) fun ws s2 ⟨zs, H2, I2, rz, l2, q2⟩ => ⟨I2.kIn, ?_⟩
  rw [hks]
  have r2 : Vals (g [] zs) (g [] ws) := b.rel rfl l2 .nil rz
  refine wpAny_call (codeAny_mono (G.run X.A X.stack s2 H2 ⟨[], ks.zip ws⟩ (g [] ws) (g [] zs) Q _ (hr.mono hk) I2.env0 (.of_eq (b.bind kV doc pm an cdv ct [] ws rfl (rz.length.symm.trans l2))) r2 q2) fun r s' hq => ?_)
  match r, hq with
  | .error e, hq => exact ht e s' (XE.of_call I2 (fun _ _ _ z => z) hq)
  | .ok (.ret u), hq => exact I2.after hq
  | .ok .next, hq => exact False.elim hq
  | .ok .brk, hq => exact False.elim hq
  | .ok .cont, hq => exact False.elim hq
end
end MM
namespace MM
open PySem PySem.Spec PyProof.Rows L2
/-! ### calls of a def with defaults, which may raise -/
/-- how f(.., k = v, ..) binds where f has defaults -/
structure Kdf (x : Str) (st : Stmt) (dn n : Nat) (ks ps : List Str) (g : {α : Type} → List α → List α → List α → List α) : Prop where
  bind : ∀ (T : Addr) (kV doc pm : Value) (an : Option Addr) (cdv ct : Value) (us its ws : List Value), us.length = n → its.length = dn → ws.length = ks.length →
    ∃ k, bindArgs (PySem.W.fnOf x x (defArgs st) (defBody st) (defScope st) (.ref T) kV doc pm an cdv ct) ⟨us, ks.zip ws⟩ = seqItems? (.ref T) >>= k ∧ k (some its.toArray) = pure (ps.zip (g us its ws))
  rel : ∀ {vs ds zs : List V} {us its ws : List Value}, Vals vs us → Vals ds its → Vals zs ws → Vals (g vs ds zs) (g us its ws)
theorem op_eqDK {X : Cx} {K : PySem.W.Frag} (hK : X.K = K) (hu : X.A.units + 64 < cLine) : OpR X (compareOp .Eq) (rEqD K) := by
  subst hK
  exact op_eqD hu
section
variable {X : Cx} {k j n d : Nat} {f : Addr} {fd : FuncData} {ps ks : List Str} {sp : Sp} {dvs : List V} {x : Str} {st : Stmt} {p pos : Pos} {e : Expr} {es : List Expr} {kws : List Keyword} {t tk : TA} {W : WX}
/-- f(e, ..): n values, the defaults from the d-th on -/
theorem pe_caDS (c : Ca X.prog X.w X.K X.mg X.base (L2.CX X.prog X.w) k x st dvs ps sp) (b : Bd1 x x st ps n d dvs.length) (hd : dvs ≠ []) (hn : n + (dvs.length - d) = ps.length) (hr : Room j X.A) (hk : k ≤ j) (ht : Takes X W) (hg : Gl X x) (ha : PA X (e :: es) t)
    (hdb : (x == ("__debug__" : Str)) = false := by decide) (he : starEach (e :: es) X.env = (false, eval e X.env) :: starEach es X.env := by rfl) (hpl : (backTo pos (starEach es X.env)).any (·.1) = false := by rfl) :
    PE X (.Call (.Name x p) (e :: es) [] pos) (fun σ H Q => t σ H fun vs H1 => sp (vs ++ dvs.drop d) H1 Q (fun c d H' => W c d σ H')) := by
  obtain ⟨f, fd, F, hm, G⟩ := c.ex
  obtain ⟨ds, r, bb⟩ := F.binds1 n d hd hn b
  refine ⟨fun pins s σ H Q I h => ?_⟩
  refine wpAny_Call_Name_kw (ld_glob I hg hm ?_ hdb)
  refine PySem.W.callWith_K (h₀ := X.base) I.ok.mod.kin F.kp (thn (ha.run pos pins s σ H _ I h) fun us s1 ⟨vs, H1, I1, rv, q⟩ => ⟨I1.kIn, ?_⟩) he hpl
  exact run_fnS G (hr.mono hk) bb r ht I1 rv q
theorem run_fnkS {pins : List (Addr × Obj)} {σ : L2.St} {H : Hp} {s : Shared} {Q : VK} {us ws : List Value} {vs zs : List V} {g : List Value → List Value → List Value} {gV : List V → List V → List V} (F : FnOk X.prog X.w X.K X.mg X.base (L2.CX X.prog X.w) k f fd ps sp) (hr : Room k X.A) (hb : KBn X.K fd ps n ks g gV) (ht : Takes X W)
    (I : Inv X pins σ H s) (r : Vals vs us) (rz : Vals zs ws) (l1 : vs.length = n) (l2 : zs.length = ks.length) (h : sp (gV vs zs) H Q (fun c d H' => W c d σ H')) : wpAny (model X.prog X.w) X.A (call (.ref f) us (ks.zip ws)) (EP X pins σ Q) X.xe s := by
  have r2 := hb.rel r rz
  refine wpAny_call (codeAny_mono (F.run X.A X.stack s H ⟨us, ks.zip ws⟩ (g us ws) (gV vs zs) Q _ hr I.env0 (hb.to s us ws I.kIn (r.length.symm.trans l1) (rz.length.symm.trans l2)) r2 h) fun r s' hq => ?_)
  match r, hq with
  | .error e, hq => exact ht e s' (XE.of_call I (fun _ _ _ z => z) hq)
  | .ok (.ret u), hq => exact I.after hq
  | .ok .next, hq => exact False.elim hq
  | .ok .brk, hq => exact False.elim hq
  | .ok .cont, hq => exact False.elim hq
/-- f(e, .., k = v, ..) -/
theorem pe_caDK {g : {α : Type} → List α → List α → List α → List α} (c : Ca X.prog X.w X.K X.mg X.base (L2.CX X.prog X.w) k x st dvs ps sp) (b : Kdf x st dvs.length n ks ps g) (hd : dvs ≠ []) (hr : Room j X.A) (hk : k ≤ j) (ht : Takes X W) (hg : Gl X x) (ha : PA X (e :: es) t) (hkw : PK X kws tk)
    (hall : (backToKw pos (keywordEach kws X.env)).all (·.1.isSome) = true := by rfl) (hks : (backToKw pos (keywordEach kws X.env)).filterMap (·.1) = ks := by rfl) (hdb : (x == ("__debug__" : Str)) = false := by decide)
    (he : starEach (e :: es) X.env = (false, eval e X.env) :: starEach es X.env := by rfl) (hpl : ((backTo pos (starEach (e :: es) X.env)).any (·.1) || (backToKw pos (keywordEach kws X.env)).any (·.1.isNone)) = false := by rfl) :
    PE X (.Call (.Name x p) (e :: es) kws pos) (fun σ H Q => t σ H fun vs H1 => tk σ H1 fun zs H2 => vs.length = n ∧ zs.length = ks.length ∧ sp (g vs dvs zs) H2 Q (fun c d H' => W c d σ H')) := by
  obtain ⟨f, fd, F, hm, G⟩ := c.ex
  obtain ⟨its, hb⟩ := F.kbindsD n ks g hd b.rel b.bind
  refine ⟨fun pins s σ H Q I h => ?_⟩
  refine wpAny_Call_Name_kw (ld_glob I hg hm ?_ hdb)
  refine PySem.W.callWith_KW (h₀ := X.base) I.ok.mod.kin F.kp hall (thn (ha.run pos pins s σ H _ I h) fun us s1 ⟨vs, H1, I1, r, q⟩ => ?_) hpl he
  refine thn (hkw.run pos pins s1 σ H1 _ I1 q) fun ws s2 ⟨zs, H2, I2, rz, l1, l2, q2⟩ => ⟨I2.kIn, ?_⟩
  rw [hks]
  exact run_fnkS G (hr.mono hk) hb ht I2 r rz l1 l2 q2
/-- f(k = v, ..) -/
theorem pe_caDK0 {g : {α : Type} → List α → List α → List α → List α} (c : Ca X.prog X.w X.K X.mg X.base (L2.CX X.prog X.w) k x st dvs ps sp) (b : Kdf x st dvs.length 0 ks ps g) (hd : dvs ≠ []) (hr : Room j X.A) (hk : k ≤ j) (ht : Takes X W) (hg : Gl X x) (hkw : PK X kws tk)
    (hall : (backToKw pos (keywordEach kws X.env)).all (·.1.isSome) = true := by rfl) (hks : (backToKw pos (keywordEach kws X.env)).filterMap (·.1) = ks := by rfl) (hdb : (x == ("__debug__" : Str)) = false := by decide)
    (hpl : ((backTo pos (starEach [] X.env)).any (·.1) || (backToKw pos (keywordEach kws X.env)).any (·.1.isNone)) = false := by rfl) :
    PE X (.Call (.Name x p) [] kws pos) (fun σ H Q => tk σ H fun zs H2 => zs.length = ks.length ∧ sp (g [] dvs zs) H2 Q (fun c d H' => W c d σ H')) := by
  obtain ⟨f, fd, F, hm, G⟩ := c.ex
  obtain ⟨its, hb⟩ := F.kbindsD 0 ks g hd b.rel b.bind
  refine ⟨fun pins s σ H Q I h => ?_⟩
  refine wpAny_Call_Name_kw (ld_glob I hg hm ?_ hdb)
  refine PySem.W.callWith_KW0 (h₀ := X.base) I.ok.mod.kin F.kp hall ?_ hpl
  refine thn (hkw.run pos pins s σ H _ I h) fun ws s2 ⟨zs, H2, I2, rz, l2, q2⟩ => ⟨I2.kIn, ?_⟩
  rw [hks]
  exact run_fnkS (us := []) (vs := []) G (hr.mono hk) hb ht I2 .nil rz rfl l2 q2
end
end MM
namespace MM
open PySem PySem.Spec PyProof.Rows L2
/-! ### calls of a def with defaults, which never raises -/
/-- how f(.., k = v, ..) binds where f has defaults -/
structure Kdn (x : Str) (st : Stmt) (dn n : Nat) (ks ps : List Str) (g : {α : Type} → List α → List α → List α → List α) : Prop where
  bind : ∀ (T : Addr) (kV doc pm : Value) (an : Option Addr) (cdv ct : Value) (us its ws : List Value), us.length = n → its.length = dn → ws.length = ks.length →
    ∃ k, bindArgs (PySem.W.fnOf x x (defArgs st) (defBody st) (defScope st) (.ref T) kV doc pm an cdv ct) ⟨us, ks.zip ws⟩ = seqItems? (.ref T) >>= k ∧ k (some its.toArray) = pure (ps.zip (g us its ws))
  rel : ∀ {vs ds zs : List V} {us its ws : List Value}, Vals vs us → Vals ds its → Vals zs ws → Vals (g vs ds zs) (g us its ws)
section
variable {X : Cx} {CX : CXT} {k j n d : Nat} {f : Addr} {fd : FuncData} {ps ks : List Str} {sp : Sp} {dvs : List V} {x : Str} {st : Stmt} {p pos : Pos} {e : Expr} {es : List Expr} {kws : List Keyword} {t tk : TA} {E : XK}
/-- f(e, ..): n values, the defaults from the d-th on -/
theorem pe_caD (c : Ca X.prog X.w X.K X.mg X.base CX k x st dvs ps sp) (b : Bd1 x x st ps n d dvs.length) (hd : dvs ≠ []) (hn : n + (dvs.length - d) = ps.length) (hr : Room j X.A) (hk : k ≤ j) (hx : Passes CX X E) (hg : Gl X x) (ha : PA X (e :: es) t)
    (hdb : (x == ("__debug__" : Str)) = false := by decide) (he : starEach (e :: es) X.env = (false, eval e X.env) :: starEach es X.env := by rfl) (hpl : (backTo pos (starEach es X.env)).any (·.1) = false := by rfl) :
    PE X (.Call (.Name x p) (e :: es) [] pos) (tCall sp (dvs.drop d) E t) := by
  obtain ⟨f, fd, F, hm, G⟩ := c.ex
  obtain ⟨ds, r, bb⟩ := F.binds1 n d hd hn b
  exact pe_call G (hr.mono hk) hg hm F.kp bb r hx ha hdb he hpl
theorem run_fnkP {pins : List (Addr × Obj)} {σ : L2.St} {H : Hp} {s : Shared} {Q : VK} {us ws : List Value} {vs zs : List V} {g : List Value → List Value → List Value} {gV : List V → List V → List V} (F : FnOk X.prog X.w X.K X.mg X.base CX k f fd ps sp) (hr : Room k X.A) (hb : KBn X.K fd ps n ks g gV) (hx : Passes CX X E)
    (I : Inv X pins σ H s) (r : Vals vs us) (rz : Vals zs ws) (l1 : vs.length = n) (l2 : zs.length = ks.length) (h : sp (gV vs zs) H Q E) : wpAny (model X.prog X.w) X.A (call (.ref f) us (ks.zip ws)) (EP X pins σ Q) X.xe s := by
  have r2 := hb.rel r rz
  refine wpAny_call (codeAny_mono (F.run X.A X.stack s H ⟨us, ks.zip ws⟩ (g us ws) (gV vs zs) Q _ hr I.env0 (hb.to s us ws I.kIn (r.length.symm.trans l1) (rz.length.symm.trans l2)) r2 h) fun r s' hq => ?_)
  match r, hq with
  | .error e, hq => exact hx pins σ H s e s' I hq
  | .ok (.ret u), hq => exact I.after hq
  | .ok .next, hq => exact False.elim hq
  | .ok .brk, hq => exact False.elim hq
  | .ok .cont, hq => exact False.elim hq
/-- f(e, .., k = v, ..) -/
theorem pe_caDk {g : {α : Type} → List α → List α → List α → List α} (c : Ca X.prog X.w X.K X.mg X.base CX k x st dvs ps sp) (b : Kdn x st dvs.length n ks ps g) (hd : dvs ≠ []) (hr : Room j X.A) (hk : k ≤ j) (hx : Passes CX X E) (hg : Gl X x) (ha : PA X (e :: es) t) (hkw : PK X kws tk)
    (hall : (backToKw pos (keywordEach kws X.env)).all (·.1.isSome) = true := by rfl) (hks : (backToKw pos (keywordEach kws X.env)).filterMap (·.1) = ks := by rfl) (hdb : (x == ("__debug__" : Str)) = false := by decide)
    (he : starEach (e :: es) X.env = (false, eval e X.env) :: starEach es X.env := by rfl) (hpl : ((backTo pos (starEach (e :: es) X.env)).any (·.1) || (backToKw pos (keywordEach kws X.env)).any (·.1.isNone)) = false := by rfl) :
    PE X (.Call (.Name x p) (e :: es) kws pos) (fun σ H Q => t σ H fun vs H1 => tk σ H1 fun zs H2 => vs.length = n ∧ zs.length = ks.length ∧ sp (g vs dvs zs) H2 Q E) := by
  obtain ⟨f, fd, F, hm, G⟩ := c.ex
  obtain ⟨its, hb⟩ := F.kbindsD n ks g hd b.rel b.bind
  refine ⟨fun pins s σ H Q I h => ?_⟩
  refine wpAny_Call_Name_kw (ld_glob I hg hm ?_ hdb)
  refine PySem.W.callWith_KW (h₀ := X.base) I.ok.mod.kin F.kp hall (thn (ha.run pos pins s σ H _ I h) fun us s1 ⟨vs, H1, I1, r, q⟩ => ?_) hpl he
  refine thn (hkw.run pos pins s1 σ H1 _ I1 q) fun ws s2 ⟨zs, H2, I2, rz, l1, l2, q2⟩ => ⟨I2.kIn, ?_⟩
  rw [hks]
  exact run_fnkP G (hr.mono hk) hb hx I2 r rz l1 l2 q2
/-- f(k = v, ..) -/
theorem pe_caDk0 {g : {α : Type} → List α → List α → List α → List α} (c : Ca X.prog X.w X.K X.mg X.base CX k x st dvs ps sp) (b : Kdn x st dvs.length 0 ks ps g) (hd : dvs ≠ []) (hr : Room j X.A) (hk : k ≤ j) (hx : Passes CX X E) (hg : Gl X x) (hkw : PK X kws tk)
    (hall : (backToKw pos (keywordEach kws X.env)).all (·.1.isSome) = true := by rfl) (hks : (backToKw pos (keywordEach kws X.env)).filterMap (·.1) = ks := by rfl) (hdb : (x == ("__debug__" : Str)) = false := by decide)
    (hpl : ((backTo pos (starEach [] X.env)).any (·.1) || (backToKw pos (keywordEach kws X.env)).any (·.1.isNone)) = false := by rfl) :
    PE X (.Call (.Name x p) [] kws pos) (fun σ H Q => tk σ H fun zs H2 => zs.length = ks.length ∧ sp (g [] dvs zs) H2 Q E) := by
  obtain ⟨f, fd, F, hm, G⟩ := c.ex
  obtain ⟨its, hb⟩ := F.kbindsD 0 ks g hd b.rel b.bind
  refine ⟨fun pins s σ H Q I h => ?_⟩
  refine wpAny_Call_Name_kw (ld_glob I hg hm ?_ hdb)
  refine PySem.W.callWith_KW0 (h₀ := X.base) I.ok.mod.kin F.kp hall ?_ hpl
  refine thn (hkw.run pos pins s σ H _ I h) fun ws s2 ⟨zs, H2, I2, rz, l2, q2⟩ => ⟨I2.kIn, ?_⟩
  rw [hks]
  exact run_fnkP (us := []) (vs := []) G (hr.mono hk) hb hx I2 .nil rz rfl l2 q2
end
end MM
namespace MM
/-! ### rounds: when months and years come together -/
theorem den_mul (x : Rat) : (x.den : Rat) * x = (x.num : Rat) := by
  have h := Rat.num_divInt_den x
  rw [Rat.divInt_eq_div] at h
  have hd : ((x.den : Int) : Rat) ≠ 0 := by
    have := x.den_nz
    intro z
    exact this (by exact_mod_cast z)
  rw [Rat.intCast_natCast] at h hd
  grind
def lcI (a b : Int) : Int := a / (Int.gcd a b : Int) * b
theorem gcd_div_gcd {a b : Int} (ha : 0 < a) : Int.gcd (b / (Int.gcd a b : Int)) (a / (Int.gcd a b : Int)) = 1 := by
  have hg : 0 < Int.gcd a b := Int.gcd_pos_of_ne_zero_left b (by omega)
  have := Int.gcd_ediv_gcd_ediv_gcd (i := a) (j := b) hg
  rw [Int.gcd_comm]
  exact this
theorem lc_facts {a b : Int} (ha : 0 < a) (hb : 0 < b) : 0 < lcI a b ∧ lcI a b % a = 0 ∧ lcI a b % b = 0 ∧ lcI a b / a = b / (Int.gcd a b : Int) ∧ lcI a b / b = a / (Int.gcd a b : Int) ∧ 0 < b / (Int.gcd a b : Int) ∧ 0 < a / (Int.gcd a b : Int) := by
  have hg : 0 < Int.gcd a b := Int.gcd_pos_of_ne_zero_left b (by omega)
  obtain ⟨x, hx⟩ := Int.gcd_dvd_left a b
  obtain ⟨z, hz⟩ := Int.gcd_dvd_right a b
  unfold lcI
  generalize hG : (Int.gcd a b : Int) = G at *
  have hG0 : 0 < G := by omega
  have e1 : a / G = x := by rw [hx, Int.mul_ediv_cancel_left _ (by omega)]
  have e2 : b / G = z := by rw [hz, Int.mul_ediv_cancel_left _ (by omega)]
  have x0 : 0 < x := by
    apply Int.not_le.mp
    intro h
    have := Int.mul_le_mul_of_nonneg_left h (Int.le_of_lt hG0)
    omega
  have z0 : 0 < z := by
    apply Int.not_le.mp
    intro h
    have := Int.mul_le_mul_of_nonneg_left h (Int.le_of_lt hG0)
    omega
  rw [e1, e2]
  have e3 : x * b = a * z := by rw [hx, hz]; ac_rfl
  refine ⟨Int.mul_pos x0 hb, ?_, ?_, ?_, ?_, z0, x0⟩
  · rw [e3]
    exact Int.mul_emod_right _ _
  · exact Int.mul_emod_left _ _
  · rw [e3, Int.mul_ediv_cancel_left _ (by omega)]
  · rw [Int.mul_ediv_cancel _ (by omega)]
def wrD (m y : Rat) : Int := lcI m.num y.num
def wrM (m y : Rat) : Int := wrD m y / m.num * m.den
def wrY (m y : Rat) : Int := wrD m y / y.num * y.den
theorem div_back {a d : Int} (h : d % a = 0) : d / a * a = d := Int.ediv_mul_cancel (Int.dvd_of_emod_eq_zero h)
theorem wr_eqM {m y : Rat} (hm : 0 < m) (hy : 0 < y) : wrD m y * m.den = wrM m y * m.num := by
  have f := lc_facts (num_pos hm) (num_pos hy)
  have := div_back (show wrD m y % m.num = 0 from f.2.1)
  unfold wrM
  rw [Int.mul_right_comm, this]
theorem wr_eqY {m y : Rat} (hm : 0 < m) (hy : 0 < y) : wrD m y * y.den = wrY m y * y.num := by
  have f := lc_facts (num_pos hm) (num_pos hy)
  have := div_back (show wrD m y % y.num = 0 from f.2.2.1)
  unfold wrY
  rw [Int.mul_right_comm, this]
theorem den_ne (x : Rat) : ((x.den : Int) : Rat) ≠ 0 := by
  have := x.den_nz
  intro z
  exact this (by exact_mod_cast z)
theorem of_den {x : Rat} {D M : Int} (h : D * x.den = M * x.num) : (M : Rat) * x = (D : Rat) := by
  have h1 : ((D * x.den : Int) : Rat) = ((M * x.num : Int) : Rat) := by rw [h]
  rw [Rat.intCast_mul, Rat.intCast_mul] at h1
  have h2 := den_mul x
  have h3 := den_ne x
  rw [Rat.intCast_natCast] at h1 h3
  grind
theorem fl_int (x : Rat) (n : Int) : (x + n).floor = x.floor + n := by
  have h1 : ∀ i : Int, (x + n).floor ≤ i ↔ x.floor + n ≤ i := fun i => by
    rw [floor_le_iff]
    have h2 : x.floor + n ≤ i ↔ x.floor ≤ i - n := by omega
    rw [h2, floor_le_iff]
    have e1 : ((i + 1 : Int) : Rat) = (i : Rat) + 1 := cast_add1 i
    have e2 : ((i - n + 1 : Int) : Rat) = (i : Rat) - n + 1 := by rw [cast_add1, Rat.intCast_sub]
    rw [e1, e2]
    grind
  have a := (h1 ((x + n).floor)).mp (Int.le_refl _)
  have b := (h1 (x.floor + n)).mpr (Int.le_refl _)
  omega
theorem st_shift {m o : Rat} {M D : Int} (h : (M : Rat) * m = D) (k t : Int) : stF m o (k + t * M) = stF m o k + t * D := by
  unfold stF
  rw [← fl_int]
  congr 1
  rw [Rat.intCast_add, Rat.intCast_mul, Rat.intCast_mul, ← h]
  grind
theorem ma_shift {m o : Rat} {M D : Int} (hm : 0 < m) (h : (M : Rat) * m = D) (d t : Int) : maF m o (d + t * D) = maF m o d + t * M := by
  refine ma_of hm ?_ ?_
  · rw [st_shift h]
    have := st_ma (o := o) hm d
    omega
  · rw [Int.add_right_comm, st_shift h]
    have := ma_st (o := o) hm d
    omega
theorem md_shift {y k : Rat} {Y D : Int} (h : (Y : Rat) * y = D) (j t : Int) : mdF y k (j + 12 * (t * Y)) = mdF y k j + t * D := by
  unfold mdF
  rw [← fl_int]
  congr 1
  have e : ((12 : Int) : Rat) = 12 := rfl
  rw [Rat.intCast_add, Rat.intCast_mul, Rat.intCast_mul, Rat.intCast_mul, ← h, e]
  grind
theorem j_shift {y k : Rat} {Y D : Int} (hy : 0 < y / 12) (h : (Y : Rat) * y = D) (d t : Int) : jF y k (d + t * D) = jF y k d + 12 * (t * Y) := by
  have key : ∀ j : Int, j < jF y k (d + t * D) ↔ j < jF y k d + 12 * (t * Y) := fun j => by
    rw [← md_lt hy]
    have e : mdF y k j = mdF y k (j - 12 * (t * Y)) + t * D := by
      rw [← md_shift h]
      congr 1
      omega
    rw [e]
    have e2 : j < jF y k d + 12 * (t * Y) ↔ j - 12 * (t * Y) < jF y k d := by omega
    rw [e2, ← md_lt hy]
    omega
  have a := key (jF y k (d + t * D))
  have b := key (jF y k d + 12 * (t * Y))
  omega
end MM
namespace MM
open PySem PySem.Spec PyProof.Rows L2
section
variable {J : It} {n : Nat} {G : Hp → Prop} {Y : Nat → Hp → V → Hp → Prop}
/-- a comprehension with a test, whose i-th thing is the whole number f i, and there where B i -/
theorem lc_filt (w : Walk J n G Y) (hY : ∀ i H x H', Y i H x H' → Same H H') {g : TG} {tt : TT} {te : TE} {vs : List Nat} {σ : L2.St} {H : Hp} {D : Addr} {Qd : Hp → Prop} (nD : H D = none) (hn : n < sizeLine) (f : Nat → Int) (B : Nat → Bool) (hG : ∀ H', Same H H' → G H')
    (hs : ∀ i x H1 H2 (R : V → Hp → Prop) (N : Hp → Prop), i < n → Same H H1 → Y i H1 x H2 → (B i = true → ∀ H3, Same H2 H3 → R (.int (f i)) H3) → (B i = false → ∀ H3, Same H2 H3 → N H3) → g x (wipe σ vs) H2 fun σ2 H3 => wipe σ2 vs = wipe σ vs ∧ tt σ2 H3 fun b H4 => if b = true then te σ2 H4 R else N H4)
    (hd : ∀ H', H' D = some (.lst ((((List.range n).filter B).map f).map V.int)) → Same H H' → Qd H') :
    ∃ W : Nat → Nat → Hp → Prop, (∃ m, W 0 m (L2.upd H D (.lst []))) ∧ ∀ i m H, W i m H →
      (J.stop i H ∧ Qd H) ∨ (J.go i H ∧ ∃ Nx : Hp → Prop, (∀ H', Nx H' → ∃ m', m' < m ∧ W (i + 1) m' H') ∧ ∀ x H', J.yld i H x H' → g x (wipe σ vs) H' fun σ2 H2 => wipe σ2 vs = wipe σ vs ∧ tt σ2 H2 fun b H3 =>
        if b = true then te σ2 H3 fun y H4 => ∃ acc, H4 D = some (.lst acc) ∧ acc.length < sizeLine ∧ Nx (L2.upd H4 D (.lst (acc ++ [y]))) else Nx H3) := by
  refine lc_it w (fun i H' => H' D = some (.lst ((((List.range i).filter B).map f).map V.int)) ∧ Same H H') ⟨upd_same, upd_keep nD (Same.refl H)⟩ (fun i H' _ ⟨_, s⟩ => hG H' s) ?_ (fun H' ⟨e, s⟩ => hd H' e s)
  rintro i x H1 H2 hi ⟨e, s⟩ y
  have s2 := hY _ _ _ _ y
  have el : ((((List.range i).filter B).map f).map V.int).length < sizeLine := by
    rw [List.length_map, List.length_map]
    have := List.length_filter_le B (List.range i)
    rw [List.length_range] at this
    omega
  refine hs i x H1 H2 _ _ hi s y (fun hB H3 s3 => ?_) (fun hB H3 s3 => ?_)
  · refine ⟨_, s3 _ _ (s2 _ _ e), el, ?_, upd_keep nD (s.trans (s2.trans s3))⟩
    rw [upd_same, List.range_succ, List.filter_append, List.map_append, List.map_append]
    simp [hB]
  · refine ⟨?_, s.trans (s2.trans s3)⟩
    rw [s3 _ _ (s2 _ _ e), List.range_succ, List.filter_append]
    simp [hB]
end
/-! ### first days of years -/
def fdF (m y o k : Rat) (a : Int) : Int := stF m o (maF m o (mdF y k (12 * a)))
theorem int_le_floor {i : Int} {x : Rat} : i ≤ x.floor ↔ (i : Rat) ≤ x := by
  have h := floor_le_iff (q := x) (i := i - 1)
  rw [show i - 1 + 1 = i by omega] at h
  constructor
  · intro a
    apply Rat.not_lt.mp
    intro z
    have := h.mpr z
    omega
  · intro a
    apply Int.not_lt.mp
    intro z
    have := h.mp (by omega)
    grind
theorem fl_mono {x z : Rat} (h : x ≤ z) : x.floor ≤ z.floor := by
  rw [int_le_floor]
  have := int_le_floor (i := x.floor) (x := x) |>.mp (Int.le_refl _)
  grind
theorem st_w {m y o : Rat} (f : Fit m y) (i : Int) : stF m o (i + 1) ≤ stF m o i + m.ceil := by
  unfold stF
  rw [← fl_int]
  refine fl_mono ?_
  have h : m ≤ (m.ceil : Rat) := by
    apply Rat.not_lt.mp
    intro z
    have := lt_ceil_iff (q := m) (i := m.ceil) |>.mpr z
    omega
  rw [cast_add1]
  grind
theorem md_w {m y k : Rat} (f : Fit m y) (j : Int) : mdF y k j + m.ceil ≤ mdF y k (j + 1) := by
  unfold mdF
  rw [← fl_int]
  refine fl_mono ?_
  have h := f.between
  rw [cast_add1]
  grind
theorem md_mono {y k : Rat} (hy : 0 < y / 12) {i j : Int} (h : i ≤ j) : mdF y k i ≤ mdF y k j := by
  unfold mdF
  refine fl_mono ?_
  have h1 : (i : Rat) ≤ (j : Rat) := by exact_mod_cast h
  have h2 := Rat.mul_le_mul_of_nonneg_right h1 (Rat.le_of_lt hy)
  grind
/-- in a month falls one mark at most -/
theorem one_mark {m y o k : Rat} (f : Fit m y) {i j : Int} (h1 : stF m o i ≤ mdF y k j) (h2 : mdF y k j < stF m o (i + 1)) : jF y k (stF m o i) = j := by
  have hy := f.ypos
  have a : ¬ j < jF y k (stF m o i) := fun z => by
    have := (md_lt hy).mpr z
    omega
  apply Int.le_antisymm (by omega)
  apply Int.not_lt.mp
  intro z
  have b := md_ge (y := y) (k := k) hy (stF m o i)
  have c := md_w (k := k) f (jF y k (stF m o i))
  have d := md_mono (k := k) hy (show jF y k (stF m o i) + 1 ≤ j by omega)
  have e := st_w (o := o) f i
  omega
theorem ma_st' {m o : Rat} (h1 : 1 ≤ m) (i : Int) : maF m o (stF m o i) = i := by
  have := st_step (o := o) h1 i
  exact ma_of (by grind) (Int.le_refl _) (by omega)
theorem first_jF {m y o k : Rat} (f : Fit m y) (a : Int) : jF y k (stF m o (maF m o (mdF y k (12 * a)))) = 12 * a := one_mark f (st_ma f.pos _) (ma_st f.pos _)
/-- about which year begins on a day -/
theorem first_near {m y o k : Rat} (f : Fit m y) (a : Int) : (((fdF m y o k a - k.floor : Int) : Rat) / y).floor ≤ a ∧ a ≤ (((fdF m y o k a - k.floor : Int) : Rat) / y).floor + 1 := by
  have hp := f.pos
  have hy := f.ypos'
  have y12 : 12 ≤ y := by
    have h1 := f.one
    have h2 := f.between
    have h3 : (1 : Rat) ≤ (m.ceil : Rat) := by
      have : ((1 : Int) : Rat) ≤ (m.ceil : Rat) := by
        have : (1 : Int) ≤ m.ceil := by
          apply Int.not_lt.mp
          intro z
          have hm : m ≤ (m.ceil : Rat) := by
            apply Rat.not_lt.mp
            intro z
            have := lt_ceil_iff (q := m) (i := m.ceil) |>.mpr z
            omega
          have h0 : (m.ceil : Rat) ≤ ((0 : Int) : Rat) := by exact_mod_cast (show m.ceil ≤ 0 by omega)
          have e0 : ((0 : Int) : Rat) = 0 := rfl
          grind
        exact_mod_cast this
      exact this
    grind
  have s1 := st_ma (o := o) hp (mdF y k (12 * a))
  have s2 := ma_st (o := o) hp (mdF y k (12 * a))
  have s3 := st_w (o := o) f (maF m o (mdF y k (12 * a)))
  have bt := f.between
  have kf := int_le_floor (i := k.floor) (x := k) |>.mp (Int.le_refl _)
  have kl := floor_le_iff (q := k) (i := k.floor) |>.mp (Int.le_refl _)
  rw [cast_add1] at kl
  have md1 := int_le_floor (i := mdF y k (12 * a)) (x := k + ((12 * a : Int) : Rat) * (y / 12)) |>.mp (Int.le_refl _)
  have md2 := floor_le_iff (q := k + ((12 * a : Int) : Rat) * (y / 12)) (i := mdF y k (12 * a)) |>.mp (Int.le_refl _)
  rw [cast_add1] at md2
  have e12 : ((12 * a : Int) : Rat) * (y / 12) = (a : Rat) * y := by
    rw [Rat.intCast_mul]
    have : ((12 : Int) : Rat) = 12 := rfl
    rw [this]
    grind
  rw [e12] at md1 md2
  have c1 : ((fdF m y o k a : Int) : Rat) ≤ (mdF y k (12 * a) : Rat) := by exact_mod_cast s1
  have c2 : (mdF y k (12 * a) : Rat) + 1 ≤ (fdF m y o k a : Rat) + (m.ceil : Rat) := by
    have h := Int.lt_of_lt_of_le s2 s3
    have h2 : mdF y k (12 * a) + 1 ≤ fdF m y o k a + m.ceil := h
    have h3 : ((mdF y k (12 * a) + 1 : Int) : Rat) ≤ ((fdF m y o k a + m.ceil : Int) : Rat) := by exact_mod_cast h2
    rw [Rat.intCast_add, Rat.intCast_add] at h3
    exact h3
  have cs : ((fdF m y o k a - k.floor : Int) : Rat) = (fdF m y o k a : Rat) - (k.floor : Rat) := Rat.intCast_sub _ _
  rw [cs]
  generalize (fdF m y o k a : Rat) = A at *
  generalize (k.floor : Rat) = F at *
  generalize (mdF y k (12 * a) : Rat) = Md at *
  generalize (m.ceil : Rat) = Wc at *
  have u1 : A - F < (a : Rat) * y + 1 := by grind
  have u2 : (a : Rat) * y - y / 12 ≤ A - F + 1 := by grind
  constructor
  · rw [floor_le_iff, cast_add1]
    apply (Rat.div_lt_iff hy).mpr
    grind
  · have key : (a - 1 : Int) ≤ ((A - F) / y).floor := by
      rw [int_le_floor, Rat.intCast_sub]
      have : ((1 : Int) : Rat) = 1 := rfl
      rw [this]
      apply Rat.not_lt.mp
      intro z
      have z2 := (Rat.div_lt_iff hy).mp z
      grind
    omega
end MM
namespace MM
open PySem PySem.Spec PyProof.Rows L2
/-! ### figures -/
def dg (d : Nat) : Nat := if d < 10 then 48 + d else 87 + d
/-- the figures, the last one first -/
def lsd (b n : Nat) : List Nat := if h : b < 2 ∨ n < b then [n] else (n % b) :: lsd b (n / b)
termination_by n
decreasing_by exact Nat.div_lt_self (by omega) (by omega)
theorem lsd_lt {b n : Nat} (h : n < b) : lsd b n = [n] := by
  rw [lsd, dif_pos (.inr h)]
theorem lsd_ge {b n : Nat} (hb : 2 ≤ b) (h : b ≤ n) : lsd b n = (n % b) :: lsd b (n / b) := by
  rw [lsd, dif_neg (by omega)]
theorem lsd_ne (b n : Nat) : lsd b n ≠ [] := by
  rw [lsd]
  split <;> simp
theorem lsd_small {b : Nat} (hb : 2 ≤ b) : ∀ (n : Nat), ∀ d ∈ lsd b n, d < b := fun n => by
  induction n using Nat.strongRecOn with
  | _ n ih =>
    intro d hd
    by_cases h : n < b
    · rw [lsd_lt h] at hd
      rw [List.mem_singleton.mp hd]
      exact h
    · rw [lsd_ge hb (by omega)] at hd
      rcases List.mem_cons.mp hd with rfl | hd
      · exact Nat.mod_lt _ (by omega)
      · exact ih (n / b) (Nat.div_lt_self (by omega) (by omega)) d hd
theorem lsd_len {b : Nat} (hb : 2 ≤ b) : ∀ (e n : Nat), n < 2 ^ e → 0 < e → (lsd b n).length ≤ e := fun e => by
  induction e with
  | zero => intro n h h0; omega
  | succ e ih =>
    intro n h h0
    by_cases hn : n < b
    · rw [lsd_lt hn]
      simp
    · rw [lsd_ge hb (by omega), List.length_cons]
      have h1 : n / b ≤ n / 2 := Nat.div_le_div_left hb (by decide)
      have h2 : n / 2 < 2 ^ e := by rw [Nat.pow_succ] at h; omega
      by_cases he : 0 < e
      · have := ih (n / b) (by omega) he
        omega
      · have e0 : e = 0 := by omega
        subst e0
        have : n / b = 0 := by omega
        rw [this, lsd_lt (by omega)]
        simp at h2 ⊢
        have hz : n / b = 0 := by omega
        have := (Nat.div_eq_zero_iff).mp hz
        omega
theorem lsd_val {b : Nat} (hb : 2 ≤ b) : ∀ n : Nat, (lsd b n).foldr (fun d a => a * b + d) 0 = n := fun n => by
  induction n using Nat.strongRecOn with
  | _ n ih =>
    by_cases h : n < b
    · rw [lsd_lt h]
      simp
    · rw [lsd_ge hb (by omega), List.foldr_cons, ih (n / b) (Nat.div_lt_self (by omega) (by omega))]
      have := Nat.div_add_mod n b
      rw [Nat.mul_comm] at this
      exact this
def sg (d : Nat) : Str := ⟨#[dg d]⟩
def txt (ds : List Nat) : Str := ⟨(ds.map dg).toArray⟩
/-- a whole number by a base -/
def numT (b : Nat) (i : Int) : Str := if i < 0 then ("-" : Str) ++ txt (lsd b i.natAbs).reverse else txt (lsd b i.natAbs).reverse
theorem str_ext {x y : Str} (h : x.cps.toList = y.cps.toList) : x = y := by
  cases x
  cases y
  congr
  exact Array.toList_inj.mp h
theorem app_cps (x y : Str) : (x ++ y).cps.toList = x.cps.toList ++ y.cps.toList := by
  show (x.cps ++ y.cps).toList = _
  simp
theorem txt_cps (ds : List Nat) : (txt ds).cps.toList = ds.map dg := rfl
theorem txt_len (ds : List Nat) : (txt ds).length = ds.length := by
  show ((ds.map dg).toArray).size = _
  simp
theorem dash_cps : ("-" : Str).cps.toList = [45] := by decide +kernel
theorem sg_txt (d : Nat) (ds : List Nat) : sg d ++ txt ds = txt (d :: ds) := str_ext (by
  rw [app_cps]
  rfl)
theorem nil_txt : ("" : Str) = txt [] := str_ext (by decide +kernel)
theorem dg_ne {d : Nat} (h : d < 16) : dg d ≠ 45 := by
  unfold dg
  split <;> omega
def FIG : Str := "0123456789abcdef"
theorem fig_len : FIG.length = 16 := by decide +kernel
theorem fig_at {d : Nat} (h : d < 16) : atI FIG.cps.toList (d : Int) = some (dg d) := by
  have : ∀ d : Fin 16, atI FIG.cps.toList ((d.val : Nat) : Int) = some (dg d.val) := by decide +kernel
  exact this ⟨d, h⟩
theorem fig_find {d : Nat} (h : d < 16) : Txt.find FIG (sg d) = (d : Int) := by
  have : ∀ d : Fin 16, Txt.find FIG (sg d.val) = ((d.val : Nat) : Int) := by decide +kernel
  exact this ⟨d, h⟩
theorem glued_nil : ∀ (ps : List Str) (acc : Array Nat), (ps.foldl (fun acc p => acc ++ ("" : Str).cps ++ p.cps) acc).toList = acc.toList ++ (ps.map fun p => p.cps.toList).flatten
  | [], acc => by simp
  | p :: ps, acc => by
    rw [List.foldl_cons, glued_nil ps]
    have e : ("" : Str).cps = #[] := by decide +kernel
    rw [e]
    simp
theorem join_nil (ps : List Str) : (Txt.join ("" : Str) ps).cps.toList = (ps.map fun p => p.cps.toList).flatten := by
  show (((ps.drop 1).foldl (fun acc p => acc ++ ("" : Str).cps ++ p.cps) (ps.headD Str.empty).cps)).toList = _
  cases ps with
  | nil => rfl
  | cons p ps =>
    show ((ps.foldl (fun acc p => acc ++ ("" : Str).cps ++ p.cps) p.cps)).toList = _
    rw [glued_nil]
    simp
theorem flat_sg : ∀ ds : List Nat, ((ds.map sg).map fun p => p.cps.toList).flatten = ds.map dg
  | [] => rfl
  | d :: ds => by
    rw [List.map_cons, List.map_cons, List.flatten_cons, flat_sg ds]
    rfl
theorem join_sg (ds : List Nat) : Txt.join ("" : Str) ((ds.map sg).reverse) = txt ds.reverse := str_ext (by
  rw [join_nil, ← List.map_reverse, flat_sg]
  rfl)
theorem join_dash (ds : List Nat) : Txt.join ("" : Str) ((ds.map sg ++ [("-" : Str)]).reverse) = ("-" : Str) ++ txt ds.reverse := str_ext (by
  rw [join_nil, List.reverse_append, ← List.map_reverse, List.map_append, List.flatten_append, flat_sg, app_cps]
  rfl)
theorem sub_iff (x y : Str) : Builtin.Str.subAt x y 0 = true ↔ x.cps.toList.take y.length = y.cps.toList := by
  unfold Builtin.Str.subAt
  rw [beq_iff_eq, ← Array.toList_inj]
  simp
theorem dash_len : ("-" : Str).length = 1 := by decide +kernel
theorem not_dash {ds : List Nat} (h0 : ds ≠ []) (h : ∀ d ∈ ds, d < 16) : Builtin.Str.subAt (txt ds) ("-" : Str) 0 = false := by
  cases hb : Builtin.Str.subAt (txt ds) ("-" : Str) 0 with
  | false => rfl
  | true =>
    have := (sub_iff _ _).mp hb
    rw [dash_len, dash_cps, txt_cps] at this
    cases ds with
    | nil => exact absurd rfl h0
    | cons d ds =>
      have e : dg d = 45 := by simpa using this
      exact absurd e (dg_ne (h d (by simp)))
theorem is_dash (ds : List Nat) : Builtin.Str.subAt (("-" : Str) ++ txt ds) ("-" : Str) 0 = true := by
  rw [sub_iff, dash_len, app_cps, dash_cps]
  rfl
theorem dash_txt_len (ds : List Nat) : (("-" : Str) ++ txt ds).length = ds.length + 1 := by
  show (("-" : Str).cps ++ (txt ds).cps).size = _
  rw [Array.size_append]
  show ("-" : Str).length + (txt ds).length = _
  rw [dash_len, txt_len]
  omega
theorem rp_txt {ds : List Nat} (h0 : ds ≠ []) (h : ∀ d ∈ ds, d < 16) : Txt.removeprefix (txt ds) ("-" : Str) = txt ds := by
  unfold Txt.removeprefix
  rw [not_dash h0 h]
  rfl
theorem rp_dash (ds : List Nat) : Txt.removeprefix (("-" : Str) ++ txt ds) ("-" : Str) = txt ds := by
  unfold Txt.removeprefix
  rw [is_dash, dash_len, dash_txt_len]
  show (if (ds.length + 1 - 1 == (("-" : Str) ++ txt ds).length) = true then _ else _) = _
  rw [dash_txt_len, if_neg (by simp)]
  refine str_ext ?_
  show ((("-" : Str) ++ txt ds).cps.extract 1 (ds.length + 1)).toList = _
  have e : (("-" : Str) ++ txt ds).cps.toList = 45 :: ds.map dg := by rw [app_cps, dash_cps]; rfl
  rw [Array.toList_extract, e, txt_cps]
  simp
  exact List.take_of_length_le (by simp)
theorem sw_txt {ds : List Nat} (h0 : ds ≠ []) (h : ∀ d ∈ ds, d < 16) : Txt.startswith (txt ds) ("-" : Str) = false := by
  unfold Txt.startswith
  rw [not_dash h0 h, Bool.and_false]
theorem sw_dash (ds : List Nat) : Txt.startswith (("-" : Str) ++ txt ds) ("-" : Str) = true := by
  unfold Txt.startswith
  rw [is_dash, dash_txt_len, dash_len]
  simp
/-! ### a text once or not at all -/
theorem op_mulS {X : Cx} : OpR X (binaryOp .Mult) (fun x y H Q => ∃ (z : Str) (b : Bool), x = .str z ∧ y = .int (if b = true then 1 else 0) ∧ Q (.str (if b = true then z else Str.empty)) H) := by
  intro pins s σ H x y v u Q I rx ry h
  obtain ⟨z, b, rfl, rfl, q⟩ := h
  obtain ⟨t, rfl⟩ := rx
  obtain ⟨t', rfl⟩ := ry
  cases b with
  | false => exact P.mul_str_none (by decide) (by decide) ⟨.str Str.empty, H, I.tok _, ⟨_, rfl⟩, q⟩
  | true =>
    refine P.mul_str (by decide) (fun _ e => by simp at e) (fun _ e => by simp at e) ?_
    rw [if_neg (by decide), if_pos (by simp)]
    exact ⟨.str z, H, I, ⟨_, rfl⟩, q⟩
end MM
namespace MM
open PySem PySem.Spec PyProof.Rows L2
/-- what try .. except C as n: m = n wishes of an exception of the body -/
def wKeep1 (K : PySem.W.Frag) (c : Value) (i j : Nat) (D : Ends) : WX := fun cls d σ H => PySem.W.exmOne K cls c = some true ∧ ∀ a, H a = none → D.nx (((σ.set i (some (.ref a))).set j (some (.ref a))).set i none) (L2.upd H a (KX a cls d))
section
variable {X : Cx} {c : Value} {x n m : Str} {i j : Nat} {body : List Stmt} {tpos np mp apos pos pos' : Pos} {tb : WX → TS}
/-- try: body / except (..) as n: m = n; nothing else leaves the body -/
theorem ps_try_keep1 (hs : X.stack = X.env :: X.outer) (hf : X.env.frame = some X.env.locals) (hex : X.ex = []) (hN : X.N.Nodup) (hi : X.N[i]? = some n) (hln : X.env.kindOf n = some .local) (hj : X.N[j]? = some m) (hlm : X.env.kindOf m = some .local) (hg : Gl X x) (hd0 : (x == ("__debug__" : Str)) = false) (hm0 : X.mg x = some c)
    (hdb : (n == ("__debug__" : Str)) = false := by decide) (hcd : (n == ("__classdict__" : Str)) = false := by decide)
    (hb : ∀ (W : WX) (pn : List (Addr × Obj)) (xe : Value → Shared → Prop), Takes (X.tr pn xe) W → PassesOwn (model X.prog X.w) X.A X.env xe → PSs (X.tr pn xe) body (tb W))
    (hsw : swapsWith (.Name n np) (some (.Name m mp)) apos.line X.env = pure false := by rfl) :
    PS X (.Try body [.ExceptHandler (some (.Name x tpos)) (some n) [.Assign [.Name m mp] (.Name n np) apos] pos'] [] [] pos) (fun D σ H => tb (wKeep1 X.K c i j D) D σ H) := by
  refine ⟨fun pins s σ H D I h => ?_⟩
  have ok := I.ok
  have hfr : X.A.frames = some (X.env :: X.outer) := by rw [ok.frames, hs]
  refine wpAny_Try_except ?_
  refine wpAny_mono ((hb (wKeep1 X.K c i j D) (X.pn ++ pins) (fun e s₁ => wpAny (model X.prog X.w) X.A (noteFrame e X.env) (fun _ s₂ => wpAny (model X.prog X.w) X.A (setFlight e none) (fun _ s₃ =>
    wpAny (model X.prog X.w) X.A (handleBy e X.env [.ExceptHandler (some (.Name x tpos)) (some n) [.Assign [.Name m mp] (.Name n np) apos] pos']) (SP X pins D) X.xe s₃) X.xe s₂) X.xe s₁) (fun u s' xx => ?_) PassesOwn.looking).run [] s σ H D (I.toTry _) h) (fun f s1 hsp => ?_) (fun e s1 he => he)
  · obtain ⟨a, B, sI, pins', σ', H', cls, d, rfl, J', nb, up, sky, na, os, ag, hB, wish⟩ := xx
    have J : Inv X pins σ' H' sI := J'.ofTry ok
    have sky' : Sky B (X.env :: X.outer) a (Zc cls d) X.env.locals s'.heap := by rw [← hs]; exact sky
    show wpAny (model X.prog X.w) X.A (noteFrame (.ref a) X.env) _ _ _
    refine Sky.land Zc.steady hfr hf sky' fun h3 fl3 up3 => ?_
    have J3 : Inv X pins σ' H' { s' with heap := h3 } := J.landed nb fl3.1 (up.trans up3) os ag
    obtain ⟨oe3, vs3, he3, hz3, hd3⟩ := fl3.there
    have nfr : a ∉ frs (X.env :: X.outer) := fun hm => by
      obtain ⟨_, o', e', hnf⟩ := fl3.2.2.1.mem hm
      rw [he3] at e'
      cases e'
      exact hnf _ hd3
    have nL : a ≠ X.env.locals := fun z => nfr (List.mem_filterMap.mpr ⟨X.env, List.mem_cons_self, by rw [hf, z]⟩)
    have nF : a ∉ X.fs := fun hm => by
      obtain ⟨e, he, q⟩ := List.mem_filterMap.mp hm
      exact nfr (List.mem_filterMap.mpr ⟨e, List.mem_cons_of_mem _ he, q⟩)
    have nI : sI.heap.get? a = none := by
      cases q : sI.heap.get? a with
      | none => rfl
      | some o =>
        have z := nb a o q (by rw [hs]; exact nfr)
        rw [fl3.2.1] at z
        cases z
    have n0 : X.s_0.heap.get? a = none := by
      cases q : X.s_0.heap.get? a with
      | none => rfl
      | some o =>
        obtain ⟨o', z⟩ := J.base.there a o q (by rw [hex]; exact fun y => nomatch y)
        rw [nI] at z
        cases z
    have nC : ∀ x c, X.env.cells.lookup x = some c → c ≠ a := fun x c e z => by
      obtain ⟨v, o, ho, _⟩ := J.cell x c e
      rw [z, nI] at ho
      cases ho
    have nP : ∀ p ∈ X.pn ++ pins, p.1 ≠ a := fun p hp z => by
      have q := (J.pin p hp).1
      rw [z, nI] at q
      cases q
    have S3 := J3.suite he3 hd3 na nL nF
    refine wpAny_handleBy_cons (codeAny_handlers_test ?_) (by intro q; cases q)
    refine ld_glob (X := X.suite a ((a, oe3) :: (X.pn ++ pins))) S3 hg hm0 ?_ hd0
    have LT : PySem.W.Looks (model X.prog X.w) h3 (typeOf (.ref a)) cls := fun A Q E s k q => wpAny_typeOf_ref (k _ _ he3) (by rw [hz3.1]; exact q)
    have LM := PySem.W.exm_one (M := model X.prog X.w) J3.kIn LT hB
    refine LM.here ?_
    refine codeAny_handlers_suite_as ?_
    refine HandSPX.lands_againZ fl3 fun h4 fl4 up4 => ?_
    have J4 : Inv X pins σ' H' { s' with heap := h4 } := J.landed nb fl4.1 ((up.trans up3).trans up4) os ag
    obtain ⟨oe4, vs4, he4, hz4, hd4⟩ := fl4.there
    have S4 := J4.suite he4 hd4 na nL nF
    refine store_ok (X := X.suite a ((a, oe4) :: (X.pn ++ pins))) (v := .ref a) S4 hN hi (.inl hln) rfl (fun s5 S5 => ?_) (.inr hln)
    have rd : PSs (X.suite a ((a, oe4) :: (X.pn ++ pins))) [.Assign [.Name m mp] (.Name n np) apos] (tAsg (tVar i) (gName j)) := pss_one (ps_set hN hj (.inl hlm) (pe_var hi (.inl hln) hdb hcd) hsw (.inr hlm))
    refine wpAny_mono (rd.run [] s5 _ H' { nx := fun σ6 H6 => σ6 = (σ'.set i (some (.ref a))).set j (some (.ref a)) ∧ H6 = H', rt := fun _ _ => False } S5 ⟨_, ?_, rfl, rfl⟩) (fun f s6 hsp => ?_) (fun _ _ z => False.elim z)
    · exact List.getElem?_set_self (by rw [J.len]; exact (List.getElem?_eq_some_iff.mp hi).1)
    · cases f with
      | next =>
        obtain ⟨σ6, H6, S6, rfl, rfl⟩ := hsp
        obtain ⟨p1, p2, _⟩ := S6.pin (a, oe4) (List.mem_append_left _ List.mem_cons_self)
        have J6 := Inv.track (S6.unsuite ok) p1 hz4 hd4 na n0 nL nC nP
        exact gone_ok J6 hN hi hln fun s7 J7 => ⟨_, _, J7, wish a na⟩
      | brk =>
        obtain ⟨_, _, _, z⟩ := hsp
        exact z.elim
      | cont =>
        obtain ⟨_, _, _, z⟩ := hsp
        exact z.elim
      | ret u =>
        obtain ⟨_, _, _, _, _, z⟩ := hsp
        exact z.elim
  · cases f with
    | next =>
      obtain ⟨σ1, H1, J1, q⟩ := hsp
      exact wpAny_execs_nil ⟨σ1, H1, J1.ofTry ok, q⟩
    | brk =>
      obtain ⟨σ1, H1, J1, q⟩ := hsp
      exact ⟨σ1, H1, J1.ofTry ok, q⟩
    | cont =>
      obtain ⟨σ1, H1, J1, q⟩ := hsp
      exact ⟨σ1, H1, J1.ofTry ok, q⟩
    | ret u =>
      obtain ⟨v1, σ1, H1, J1, r1, q⟩ := hsp
      exact ⟨v1, σ1, H1, J1.ofTry ok, r1, q⟩
end
section
variable {X : Cx} {D : Addr}
/-- isinstance(x, (c, ..)), x a kept exception -/
def rIsKT (K : PySem.W.Frag) (D : Addr) : List V → Hp → VK → Prop := fun xs H Q => ∃ (a oD : Addr) (fs : List (Str × V)) (tp : Addr) (cs : List V) (us : List Value) (b : Bool), xs = [.ref a, .ref tp] ∧ H a = some (KX a (.ref D) (some oD)) ∧ H oD = some (.xd fs) ∧ H tp = some (.tup cs) ∧ Paired ClsV cs us ∧ PySem.W.kitAny K (.ref D) us = some b ∧ Q (.bl b) H
theorem call_isKT (C : XcF X.K D) : CallR X (.builtin "isinstance") (rIsKT X.K D) := by
  intro pins s σ H xs us Q I r h
  obtain ⟨a, oD, fs, tp, cs, ws, b, rfl, ha, hd, hT, k, e, q⟩ := h
  obtain ⟨u1, u2, rfl, r1, r2⟩ := vals2 r
  cases (show u1 = Value.ref a from r1)
  cases (show u2 = Value.ref tp from r2)
  obtain ⟨ox, od, _, J, _⟩ := kept_inst I ha hd
  obtain ⟨_, its, rv, o, h1, h2, n, h3⟩ := (show ObjOk X.prog X.w H s.heap tp (.tup cs) from I.hok tp _ hT)
  have e3 := ClsV.all k rv
  subst e3
  obtain ⟨oc, od', dt, sl⟩ := o
  simp only at h2 h3
  subst h2 h3
  exact PySem.W.kia_tup (kitx_kept C) I.kIn ⟨ox, _, J⟩ h1 e (fun z => nomatch z) fun tk => ⟨.bl b, H, I.kept (t' := tk) fun _ _ z => z, rfl, q⟩
end
end MM
namespace MM
open PySem PySem.Spec PySem.Calls PyProof.Rows L2
section
variable {X : Cx} {a : Expr} {ta : TE}
/-- x is not False, x a truth -/
def tNotF (ta : TE) : TE := fun σ H Q => ta σ H fun x H1 => ∃ b : Bool, x = .bl b ∧ Q (.bl b) H1
theorem pc_notF {j : Nat} {pos' : Pos} (ha : PE X a ta) : PC X .IsNot a (.Constant (.bool false) j pos') (tNotF ta) := by
  refine ⟨fun pins s σ H Q I h => ?_⟩
  refine thn (ha.run pins s σ H _ I h) fun v s1 ⟨x, H1, I1, r1, b, ex, q1⟩ => ?_
  subst ex
  cases (show v = Value.bool b from r1)
  refine Constant_bool ?_
  cases b with
  | true => exact wpAny_pure (a := Value.bool (!(Value.bool true == Value.bool false))) ⟨.bl true, H1, I1, rfl, q1⟩
  | false => exact wpAny_pure (a := Value.bool (!(Value.bool false == Value.bool false))) ⟨.bl false, H1, I1, rfl, q1⟩
end
/-- str(x) of a whole number, or of an instance with its own __str__ -/
@[irreducible] def rSI (C : Addr) (sp : Sp) (E : XK) : List V → Hp → VK → Prop := fun xs H Q => (∃ i : Int, xs = [.int i] ∧ i.natAbs.log2 < 1920 ∧ Q (.str (toString i)) H) ∨ rStrO C sp E xs H Q
theorem call_str_IS {X : Cx} {CX : CXT} {k : Nat} {C : Addr} {qual : Str} {st : Stmt} {ps : List Str} {sp : Sp} {E : XK} (c : Cm X.prog X.w X.K X.mg X.base CX k C "__str__" qual st ps sp) (b : Bd "__str__" qual st ps) (hr : Room (k + 2) X.A) (hx : Passes CX X E) :
    CallR X (.type "str") (rSI C sp E) := by
  obtain ⟨f, fd, F, M, hc, G⟩ := c.ex
  unfold rSI
  exact CallR.or call_str_int (call_strO G M.1 M.2 (F.bindsN b) hx hr)
end MM
namespace MM
open PySem PySem.Spec PySem.Calls PyProof.Rows L2
/-! ### figures by ten are what str tells -/
theorem dg_char {d : Nat} (h : d < 10) : d.digitChar.toNat = dg d := by
  have : ∀ d : Fin 10, d.val.digitChar.toNat = dg d.val := by decide
  exact this ⟨d, h⟩
theorem digits_lsd : ∀ n : Nat, (Nat.toDigits 10 n).map Char.toNat = (lsd 10 n).reverse.map dg := fun n => by
  induction n using Nat.strongRecOn with
  | _ n ih =>
    by_cases h : n < 10
    · rw [Nat.toDigits_of_lt_base h, lsd_lt h]
      show [n.digitChar.toNat] = [dg n]
      rw [dg_char h]
    · rw [Nat.toDigits_of_base_le (by decide) (by omega), lsd_ge (by decide) (by omega), List.map_append, ih (n / 10) (by omega), List.reverse_cons, List.map_append]
      show _ ++ [(n % 10).digitChar.toNat] = _ ++ [dg (n % 10)]
      rw [dg_char (by omega)]
theorem of_cps (s : String) : (Str.ofString s).cps.toList = s.toList.map Char.toNat := by
  show (cpsOfBytes 0 0 s.toByteArray.data.toList).toArray.toList = _
  rw [cpsOfBytes_string]
theorem nat_txt (n : Nat) : Str.ofString n.repr = txt (lsd 10 n).reverse := str_ext (by
  rw [of_cps, txt_cps]
  unfold Nat.repr
  rw [String.toList_ofList]
  exact digits_lsd n)
theorem numT_str (i : Int) : Str.ofString (toString i) = numT 10 i := by
  cases i with
  | ofNat m =>
    show Str.ofString m.repr = _
    unfold numT
    rw [if_neg (show ¬ Int.ofNat m < 0 from Int.not_lt.mpr (Int.natCast_nonneg m)), nat_txt]
    rfl
  | negSucc m =>
    show Str.ofString ("-" ++ m.succ.repr) = _
    unfold numT
    rw [if_pos (by omega)]
    refine str_ext ?_
    rw [of_cps, String.toList_append, List.map_append, app_cps, dash_cps]
    have e : m.succ.repr.toList.map Char.toNat = (txt (lsd 10 m.succ).reverse).cps.toList := by rw [← nat_txt, of_cps]
    rw [e]
    rfl
/-! ### repr(x) of an instance with its own __repr__ -/
def rReprO (C : Addr) (sp : Sp) (E : XK) : List V → Hp → VK → Prop := fun xs H Q => ∃ (a dx : Addr) (fs : List (Str × V)), xs = [.ref a] ∧ H a = some (.ins C dx fs) ∧ sp [.ref a] H (fun v H' => ∃ x : Str, v = .str x ∧ Q (.str x) H') E
theorem call_reprO {X : Cx} {CX : CXT} {k : Nat} {C f : Addr} {fd : FuncData} {ps : List Str} {sp : Sp} {E : XK} (F : FnOk X.prog X.w X.K X.mg X.base CX k f fd ps sp) (hs : PySem.W.findIn X.K (.ref C) "__repr__" = some (some (.ref f))) (hf : PySem.W.isFn X.K (.ref f) = true) (hb : Binds X.K fd ps []) (hx : Passes CX X E) (hr : Room (k + 1) X.A) : CallR X (.builtin "repr") (rReprO C sp E) := by
  intro pins s σ H xs us Q I r h
  obtain ⟨a, dx, fs, rfl, ha, hq⟩ := h
  obtain ⟨u, rfl, r1⟩ := vals1 r
  cases (show u = Value.ref a from r1)
  obtain ⟨mA, J, _⟩ := ins_get I.hok ha
  obtain ⟨od, J, _⟩ := J.look
  obtain ⟨m, fr⟩ := I.fr
  have hr1 : Room k X.A.in1 := hr.in1
  have hl : ([Value.ref a] ++ []).length = ps.length := (show ([V.ref a] : List V).length = _ from F.len _ _ _ _ hq)
  refine PySem.W.repr_K hr1.units0 fr I.ok.mod.kin J hs hf (wpAny_call (codeAny_mono (F.run X.A.in1 X.stack s H ⟨[.ref a], []⟩ [.ref a] [.ref a] _ E hr1 I.env0.in1 (hb s [.ref a] I.kIn hl) (.cons rfl .nil) hq) fun res s' hres => ?_))
  match res, hres with
  | .error er, hres => exact hx pins σ H s er s' I hres
  | .ok .next, hres => exact hres.elim
  | .ok .brk, hres => exact hres.elim
  | .ok .cont, hres => exact hres.elim
  | .ok (.ret u), hres =>
    obtain ⟨z, H', I', rz, x, rfl, q⟩ := I.after hres
    obtain ⟨t, rfl⟩ := rz
    exact ⟨.str x, H', I', ⟨t, rfl⟩, q⟩
end MM
namespace MM
open PySem PySem.Spec PySem.Calls PyProof.Rows L2
/-! ### x in [..] where a comparison runs code of its own -/
section
variable {prog : Program} {w : World} {A : Around} {R : Result → Shared → Prop}
theorem in_loopG (l : Addr) (x : Value) (N : Nat) (B : Nat → Bool) (Iv : Nat → Shared → Prop)
    (hl : ∀ i s, Iv i s → ∃ (its : Array Value) (n : Nat), s.heap.get? l = some { cls := .type "list", data := .seq its n } ∧ its.size = N ∧ ∀ h : i < its.size, wpAny (model prog w) A.in1 (eqBool its[i] x) (fun r s' => r = B i ∧ Iv (i + 1) s') (fun e s' => R (.error e) s') s)
    (fT : ∀ i s, i < N → B i = true → Iv (i + 1) s → R (.ok (.ret (.bool true))) s) (fF : (∀ j, j < N → B j = false) → ∀ s, Iv N s → R (.ok (.ret (.bool false))) s) (k : Nat) :
    ∀ i : Nat, N - i = k → i ≤ N → (∀ j, j < i → B j = false) → ∀ s, Iv i s →
      wpAny (model prog w) A.in1 (Builtin.«list.__contains__.loop» ⟨[.ref l, x, rawInt i], []⟩) (GQ.FinOf prog w A R) (fun e s' => R (.error e) s') s := by
  induction k with
  | zero =>
    intro i hk hi hno s h
    obtain ⟨its, n, h1, hs, _⟩ := hl _ _ h
    have ei : i = N := by omega
    subst ei
    have hR := fF hno s h
    obtain ⟨hp, g, d, tk, os⟩ := s
    wp_walk using wpAny_loadPart' h1
    have e1 : its[((i : Nat) : Int).toNat]? = none := by simp; omega
    rw [e1]
    wp_walk
    exact hR
  | succ k ih =>
    intro i hk hi hno s h
    obtain ⟨its, n, h1, hs, turn⟩ := hl _ _ h
    have hlt : i < its.size := by omega
    have ht := turn hlt
    obtain ⟨hp, g, d, tk, os⟩ := s
    wp_walk using wpAny_loadPart' h1
    have e1 : its[((i : Nat) : Int).toNat]? = some its[i] := by simp [hlt]
    have hc : ((i : Int) + 1) = ((i + 1 : Nat) : Int) := by omega
    rw [e1]
    refine wpAny_bind (wpAny_mono ht (fun r s2 h2 => ?_) fun _ _ z => z)
    obtain ⟨hr, h2⟩ := h2
    cases hb : B i with
    | true =>
      rw [hb] at hr
      subst hr
      have hR := fT i s2 (by omega) hb h2
      obtain ⟨hp2, g2, d2, tk2, os2⟩ := s2
      wp_walk
      exact hR
    | false =>
      rw [hb] at hr
      subst hr
      have hrec := ih (i + 1) (by omega) (by omega) (fun j hj => by
        by_cases e : j = i
        · subst e
          exact hb
        · exact hno j (by omega)) s2 h2
      obtain ⟨hp2, g2, d2, tk2, os2⟩ := s2
      wp_walk
      rw [hc]
      exact ⟨plainId_quiet PySem.MeetsSeq.plain_contains_loop _, codeAny_builtin PySem.MeetsSeq.entry_contains_loop (by
        rw [Around.under_plainId PySem.MeetsSeq.plain_contains_loop _]
        exact hrec)⟩
theorem in_listG {E : Value → Shared → Prop} {s : Shared} {Q : Value → Shared → Prop} (l : Addr) (x : Value) (N : Nat) (B : Nat → Bool) (Iv : Nat → Shared → Prop)
    (hl : ∀ i s, Iv i s → ∃ (its : Array Value) (n : Nat), s.heap.get? l = some { cls := .type "list", data := .seq its n } ∧ its.size = N ∧ ∀ h : i < its.size, wpAny (model prog w) A.in1 (eqBool its[i] x) (fun r s' => r = B i ∧ Iv (i + 1) s') E s)
    (fT : ∀ i s, i < N → B i = true → Iv (i + 1) s → Q (.bool true) s) (fF : (∀ j, j < N → B j = false) → ∀ s, Iv N s → Q (.bool false) s) (h : Iv 0 s) : wpAny (model prog w) A (compareOp .In x (.ref l)) Q E s := by
  obtain ⟨its, n, h1, _, _⟩ := hl _ _ h
  show wpAny _ A (do return .bool (← contains (.ref l) x)) Q E s
  refine wpAny_bind (wpAny_contains_slot ⟨_, h1, rfl⟩ F.slot_list_contains (wpAny_mono (GQ.call_here (Q := fun v s' => ∃ b, v = .bool b ∧ Q (.bool b) s') F.slot_list_contains ⟨_, h1, rfl⟩ F.entry_list_contains (F.args_list_contains_2 _ _) ?_) (fun v s' hv => ?_) fun _ _ e => e))
  · have go := in_loopG (prog := prog) (w := w) (A := A) (R := wants (fun v s' => ∃ b, v = .bool b ∧ Q (.bool b) s') E) l x N B Iv hl (fun i s hi hb q => ⟨true, rfl, fT i s hi hb q⟩) (fun hno s q => ⟨false, rfl, fF hno s q⟩) (N - 0) 0 rfl (Nat.zero_le _) (fun j hj => absurd hj (Nat.not_lt_zero j)) s h
    obtain ⟨hp, g, d, tk, os⟩ := s
    wp_walk
    exact ⟨plainId_quiet PySem.MeetsSeq.plain_contains_loop _, codeAny_builtin PySem.MeetsSeq.entry_contains_loop (by
      rw [Around.under_plainId PySem.MeetsSeq.plain_contains_loop _]
      exact go)⟩
  · obtain ⟨b, rfl, hq⟩ := hv
    exact wpAny_truthy_bool (wpAny_pure hq)
end
/-- == inside a builtin, with either answer: it may run code, and the heap may grow -/
def EqB (X : Cx) (n : Nat) (D : V → V → Hp → Bool → Prop) : Prop :=
  ∀ (A : Around) (pins : List (Addr × Obj)) (s : Shared) (σ : L2.St) (H : Hp) (x y : V) (u v : Value) (b : Bool), L2.Sub X n A → Inv X pins σ H s → RelV x u → RelV y v → D x y H b →
    wpAny (model X.prog X.w) A (eqBool u v) (fun r s' => r = b ∧ ∃ H', Inv X pins σ H' s' ∧ Ext H H') X.xe s
/-- x in [..]: B i tells whether the i-th thing is == x -/
def rInG (D : V → V → Hp → Bool → Prop) : R2 := fun x y H Q => ∃ (p : Addr) (xs : List V) (B : Nat → Bool), y = .ref p ∧ H p = some (.lst xs) ∧ (∀ i z, xs[i]? = some z → ∀ H', Ext H H' → D z x H' (B i)) ∧ ∀ H', Ext H H' → Q (.bl ((List.range xs.length).any B)) H'
theorem op_inG {X : Cx} {n : Nat} {D : V → V → Hp → Bool → Prop} (h : EqB X n D) (hr : Room (n + 1) X.A) : OpR X (compareOp .In) (rInG D) := by
  intro pins s σ H x y v u Q I rx ry hq
  obtain ⟨p, xs, B, rfl, hp, hD, q⟩ := hq
  cases (show u = Value.ref p from ry)
  have sb : L2.Sub X (n + 1) X.A := ⟨hr, rfl⟩
  refine in_listG (A := X.A) p v xs.length B (fun _ s' => ∃ H', Inv X pins σ H' s' ∧ Ext H H') ?_ ?_ ?_ ⟨H, I, Ext.rfl'⟩
  · rintro i s' ⟨H', I', e⟩
    obtain ⟨z, its, k, r, ek⟩ := I'.hok p _ (e _ _ hp)
    refine ⟨its.toArray, k, ek, by rw [List.size_toArray, ← r.length], fun h1 => ?_⟩
    have hi : i < its.length := by simpa using h1
    have hx : i < xs.length := by rw [r.length]; exact hi
    obtain ⟨w, hw, rw'⟩ := r.get (List.getElem?_eq_getElem hx)
    have ew : its.toArray[i] = w := by
      rw [List.getElem?_eq_getElem hi] at hw
      simpa using Option.some.inj hw
    rw [ew]
    refine wpAny_mono (h X.A.in1 pins s' σ H' _ x w v (B i) sb.in1 I' rw' rx (hD i _ (List.getElem?_eq_getElem hx) H' e)) (fun c s2 z2 => ?_) fun _ _ y => y
    obtain ⟨hc, H2, I2, e2⟩ := z2
    exact ⟨hc, H2, I2, e.trans e2⟩
  · rintro i s' hi hb ⟨H', I', e⟩
    refine ⟨.bl true, H', I', rfl, ?_⟩
    have z := q H' e
    have ea : (List.range xs.length).any B = true := List.any_eq_true.mpr ⟨i, List.mem_range.mpr hi, hb⟩
    rw [ea] at z
    exact z
  · rintro hno s' ⟨H', I', e⟩
    refine ⟨.bl false, H', I', rfl, ?_⟩
    have z := q H' e
    have ea : (List.range xs.length).any B = false := by
      rw [List.any_eq_false]
      intro j hj
      rw [hno j (List.mem_range.mp hj)]
      decide
    rw [ea] at z
    exact z
end MM
namespace MM
open PySem PySem.Spec PySem.Calls PyProof.Rows L2
open AutoSeq1 (wpAny_loadPart')
/-! ### plain things == an instance: they decline, the instance's own __eq__ is asked -/
section
theorem int_dec_b (b : Bool) (l C dx : Addr) : Meets (Builtin.«int.__eq__» ⟨[.bool b, .ref l], []⟩) (fun _ R s => s.heap.get? l = some (PySem.W.instObj C dx) ∧ R (.ok (.ret .notImplemented)) s) :=
  .of_wp fun prog w A R s h => by obtain ⟨hp, g, d, tk, os⟩ := s; obtain ⟨hl, h⟩ := h; wp_walk using wpAny_loadPart' hl, wpAny_load hl; exact ⟨_, rfl, h⟩
theorem int_dec_i (b : Int) (u : Tok) (l C dx : Addr) : Meets (Builtin.«int.__eq__» ⟨[.int b u, .ref l], []⟩) (fun _ R s => s.heap.get? l = some (PySem.W.instObj C dx) ∧ R (.ok (.ret .notImplemented)) s) :=
  .of_wp fun prog w A R s h => by obtain ⟨hp, g, d, tk, os⟩ := s; obtain ⟨hl, h⟩ := h; wp_walk using wpAny_loadPart' hl, wpAny_load hl; exact ⟨_, rfl, h⟩
theorem str_dec_s (b : Str) (u : Tok) (l C dx : Addr) : Meets (Builtin.«str.__eq__» ⟨[.str b u, .ref l], []⟩) (fun _ R s => s.heap.get? l = some (PySem.W.instObj C dx) ∧ R (.ok (.ret .notImplemented)) s) :=
  .of_wp fun prog w A R s h => by obtain ⟨hp, g, d, tk, os⟩ := s; obtain ⟨hl, h⟩ := h; wp_walk using wpAny_loadPart' hl, wpAny_load hl; exact ⟨_, rfl, h⟩
end
section
variable {prog : Program} {w : World} {A : Around} {E : Value → Shared → Prop} {s : Shared} {K : PySem.W.Frag} {x C L f dx : Addr} {h₀ : Heap} {m : Str → Option Value} {od : Option Obj} {a : Value} {T : String}
/-- richCompare a x where a is of a built-in type and declines -/
theorem rc_back {Q : Value → Shared → Prop} (hu : A.units < cLine) (F : Fr h₀ L s.heap m) (X₀ : K.In h₀) (I : PySem.W.InstAt s.heap x (PySem.W.instObj C dx) C od) (ha : s.TypeIs a T) (hsub : PySem.W.subIn K (.ref C) (.type T) = some false)
    (one : wpAny (model prog w) A (tryCompare a "__eq__" (.ref x)) (fun r s' => r = none ∧ s' = s) E s)
    (hs : PySem.W.findIn K (.ref C) "__eq__" = some (some (.ref f))) (hf : PySem.W.isFn K (.ref f) = true)
    (h : wpAny (model prog w) A (call (.ref f) [.ref x, a]) (PySem.W.CmpBack Q) E s) : wpAny (model prog w) A (richCompare .Eq a (.ref x)) Q E s := by
  have X := X₀.keeps F.keep
  have two : wpAny (model prog w) A (tryCompare (.ref x) "__eq__" a) (fun r s' => ∃ v, r = some v ∧ Q v s') E s := by
    unfold tryCompare
    refine wpAny_bind (PySem.W.ifBound_K X I hs hf (wpAny_mono h (fun v s' hv => ?_) fun _ _ e => e))
    cases v <;> first | exact hv.elim | exact wpAny_pure ⟨_, rfl, hv⟩
  simp only [richCompare, cmpInfo, ha.oneThing_none]
  refine wpAny_holding (wpAny_bind (wpAny_cRoomFor hu ?_))
  refine wpAny_bind (wpAny_typeOf ha (wpAny_bind (I.type.here ?_)))
  have hne : (Value.type T != Value.ref C) = true := rfl
  simp only [hne, if_true]
  refine wpAny_bind ((PySem.W.looks_subIn X hsub).here ?_)
  simp only [Bool.false_eq_true, if_false, Bool.not_false, if_true]
  refine wpAny_bind (m := tryCompare a _ (.ref x)) (wpAny_mono one (fun r s1 z => ?_) fun _ _ e => e)
  obtain ⟨z1, z2⟩ := z
  subst z1
  subst z2
  refine wpAny_bind (m := tryCompare (.ref x) _ a) (wpAny_mono two (fun r s2 z => ?_) fun _ _ e => e)
  obtain ⟨v, rfl, hq⟩ := z
  exact wpAny_pure hq
end

/-! ### == inside a builtin by an own __eq__, either way about -/
/-- what is of a built-in type and declines beside an instance -/
inductive Pl (K : PySem.W.Frag) (H : Hp) : V → String → Prop where
  | non : Pl K H .non "NoneType"
  | bl (b : Bool) : Pl K H (.bl b) "bool"
  | int (i : Int) : Pl K H (.int i) "int"
  | str (x : Str) : Pl K H (.str x) "str"
  | tup {a : Addr} {xs : List V} (h : H a = some (.tup xs)) : Pl K H (.ref a) "tuple"
  | lst {a : Addr} {xs : List V} (h : H a = some (.lst xs)) : Pl K H (.ref a) "list"
section
variable {prog : Program} {w : World} {A : Around} {E : Value → Shared → Prop} {s : Shared} {K : PySem.W.Frag} {x l C dx : Addr} {od : Option Obj}
theorem tup_dec {items : Array Value} {Q : Option Value → Shared → Prop} (X : K.In s.heap) (I : PySem.W.InstAt s.heap x (PySem.W.instObj C dx) C od) (hl : s.heap.IsTuple l items) (hsub : PySem.W.subIn K (.ref C) (.type "tuple") = some false) (q : Q none s) :
    wpAny (model prog w) A (tryCompare (.ref l) "__eq__" (.ref x)) Q E s := by
  obtain ⟨⟨cls, dd, data, sl⟩, ho, hc, n, hd⟩ := id hl
  simp only at hc hd
  subst hc hd
  refine wpAny_tryCompare_declines ⟨_, ho, rfl⟩ PySem.F.slot_tuple_eq (GQ.call_here PySem.F.slot_tuple_eq ⟨_, ho, rfl⟩ PySem.F.entry_tuple_eq (PySem.F.args_tuple_eq_2 _ _) ?_)
  have L : PySem.W.Looks (model prog w) s.heap (isInstance (.ref x) (.type "tuple")) false := I.type.andThen (PySem.W.looks_subIn X hsub)
  obtain ⟨hp, g, d, tk, os⟩ := s
  wp_walk using wpAny_loadPart' ho, L.here
  exact ⟨rfl, q⟩
theorem lst_dec {items : Array Value} {n : Nat} {Q : Option Value → Shared → Prop} (X : K.In s.heap) (I : PySem.W.InstAt s.heap x (PySem.W.instObj C dx) C od) (ho : s.heap.get? l = some { cls := .type "list", data := .seq items n }) (hsub : PySem.W.subIn K (.ref C) (.type "list") = some false) (q : Q none s) :
    wpAny (model prog w) A (tryCompare (.ref l) "__eq__" (.ref x)) Q E s := by
  refine wpAny_tryCompare_declines ⟨_, ho, rfl⟩ PySem.F.slot_list_eq (GQ.call_here PySem.F.slot_list_eq ⟨_, ho, rfl⟩ PySem.F.entry_list_eq (PySem.F.args_list_eq_2 _ _) ?_)
  have L : PySem.W.Looks (model prog w) s.heap (isInstance (.ref x) (.type "list")) false := I.type.andThen (PySem.W.looks_subIn X hsub)
  obtain ⟨hp, g, d, tk, os⟩ := s
  wp_walk using wpAny_loadPart' ho, L.here
  exact ⟨rfl, q⟩
end
theorem pl_dec {X : Cx} {pins : List (Addr × Obj)} {σ : L2.St} {H : Hp} {s : Shared} {A : Around} {z : V} {u : Value} {T : String} {x C dx : Addr} {od : Option Obj} {E : Value → Shared → Prop} (I : Inv X pins σ H s) (p : Pl X.K H z T) (r : RelV z u) (J : PySem.W.InstAt s.heap x (PySem.W.instObj C dx) C od)
    (hsub : PySem.W.subIn X.K (.ref C) (.type T) = some false) : s.TypeIs u T ∧ wpAny (model X.prog X.w) A (tryCompare u "__eq__" (.ref x)) (fun r s' => r = none ∧ s' = s) E s := by
  cases p with
  | non =>
    cases (show u = Value.none from r)
    exact ⟨rfl, wpAny_tryCompare_declines rfl PySem.F.slot_NoneType_eq (call_gives PySem.F.slot_NoneType_eq rfl PySem.F.entry_NoneType_eq (PySem.F.args_NoneType_eq_2 _ _) (SeqAt.NoneType___eq___none_ref_0 x) ⟨rfl, rfl, rfl⟩)⟩
  | bl b =>
    cases (show u = Value.bool b from r)
    exact ⟨rfl, wpAny_tryCompare_declines rfl PySem.F.slot_bool_eq (call_meets PySem.F.slot_bool_eq rfl PySem.F.entry_int_eq (PySem.F.args_int_eq_2 _ _) (int_dec_b b x C dx) ⟨J.at_, rfl, rfl, rfl⟩)⟩
  | int i =>
    obtain ⟨t, rfl⟩ := r
    exact ⟨typeIs_int s i t, wpAny_tryCompare_declines (typeIs_int s i t) PySem.F.slot_int_eq (call_meets PySem.F.slot_int_eq (typeIs_int s i t) PySem.F.entry_int_eq (PySem.F.args_int_eq_2 _ _) (int_dec_i i t x C dx) ⟨J.at_, rfl, rfl, rfl⟩)⟩
  | str y =>
    obtain ⟨t, rfl⟩ := r
    exact ⟨typeIs_str s y t, wpAny_tryCompare_declines (typeIs_str s y t) PySem.F.slot_str_eq (call_meets PySem.F.slot_str_eq (typeIs_str s y t) PySem.F.entry_str_eq (PySem.F.args_str_eq_2 _ _) (str_dec_s y t x C dx) ⟨J.at_, rfl, rfl, rfl⟩)⟩
  | tup h =>
    rename_i a xs
    cases (show u = Value.ref a from r)
    obtain ⟨its, r2, e, z⟩ := I.tuple (SqT.of h)
    refine ⟨?_, tup_dec I.kIn J e hsub ⟨rfl, rfl⟩⟩
    obtain ⟨o, ho, hc, n, hd⟩ := e
    exact ⟨o, ho, hc⟩
  | lst h =>
    rename_i a xs
    cases (show u = Value.ref a from r)
    obtain ⟨z, its, k, r2, e⟩ := I.hok a _ h
    exact ⟨⟨_, e, rfl⟩, lst_dec I.kIn J e hsub ⟨rfl, rfl⟩⟩
def DOwn (K : PySem.W.Frag) (C : Addr) (sp : Sp) (E : XK) : V → V → Hp → Bool → Prop := fun z x H b =>
  (∃ (a dx : Addr) (fs : List (Str × V)), z = .ref a ∧ H a = some (.ins C dx fs) ∧ ((x = .ref a ∧ b = true) ∨ (x ≠ .ref a ∧ ∃ t, TyX K H x t ∧ PySem.W.notFirst K C t = true ∧ sp [z, x] H (fun v H' => v = .bl b ∧ Ext H H') E))) ∨
  (∃ (a dx : Addr) (fs : List (Str × V)) (T : String), x = .ref a ∧ H a = some (.ins C dx fs) ∧ Pl K H z T ∧ PySem.W.subIn K (.ref C) (.type T) = some false ∧ sp [x, z] H (fun v H' => v = .bl b ∧ Ext H H') E)
theorem rel_ne {x : V} {v : Value} {a : Addr} (r : RelV x v) (h : x ≠ .ref a) : (Value.ref a == v) = false ∧ (v == Value.ref a) = false := by
  constructor
  · rw [beq_eq_false_iff_ne]
    intro z
    subst z
    apply h
    cases x <;> first | (cases r; rfl) | (obtain ⟨_, z⟩ := r; cases z) | (cases r)
  · rw [beq_eq_false_iff_ne]
    intro z
    subst z
    apply h
    cases x <;> first | (cases r; rfl) | (obtain ⟨_, z⟩ := r; cases z) | (cases r)
theorem env_sub {X : Cx} {n : Nat} {A : Around} {pins : List (Addr × Obj)} {σ : L2.St} {H : Hp} {s : Shared} (sb : L2.Sub X n A) (I : Inv X pins σ H s) : Env0 X.prog X.w X.K X.mg X.base A X.stack s H := by
  have e := I.env0
  exact ⟨by rw [sb.fr]; exact e.frames, e.mod, e.bs, e.bsz, e.funs, e.frf, e.hok, e.bare⟩
theorem eqB_own {X : Cx} {n : Nat} {CX : CXT} {C f : Addr} {fd : FuncData} {ps : List Str} {sp : Sp} {E : XK} (F : FnOk X.prog X.w X.K X.mg X.base CX n f fd ps sp)
    (hs : PySem.W.findIn X.K (.ref C) "__eq__" = some (some (.ref f))) (hf : PySem.W.isFn X.K (.ref f) = true) (hb : Binds X.K fd ps []) (hx : Passes CX X E) : EqB X n (DOwn X.K C sp E) := by
  intro A pins s σ H x y u v b sb I rx ry d
  have e0 := env_sub sb I
  obtain ⟨m, hF⟩ := I.fr
  -- the call of the own __eq__
  have run : ∀ (p q : V) (p' q' : Value), RelV p p' → RelV q q' → sp [p, q] H (fun v H' => v = .bl b ∧ Ext H H') E →
      wpAny (model X.prog X.w) A (call (.ref f) [p', q']) (PySem.W.CmpBack (fun v s' => v = .bool b ∧ ∃ H', Inv X pins σ H' s' ∧ Ext H H')) X.xe s := by
    intro p q p' q' rp rq hsp
    have hl := F.len _ _ _ _ hsp
    refine wpAny_call (codeAny_mono (F.run A X.stack s H ⟨[p', q'], []⟩ [p', q'] [p, q] _ E sb.room e0 (by
      have := hb s [p', q'] I.kIn (by simpa using hl)
      simpa using this) (.cons rp (.cons rq .nil)) hsp) fun r s' hq => ?_)
    cases r with
    | error e => exact hx pins σ H s e s' I hq
    | ok fl =>
      cases fl with
      | ret w =>
        obtain ⟨z, H', I', rz, ez, ex⟩ := I.after hq
        subst ez
        cases (show w = Value.bool b from rz)
        exact ⟨rfl, H', I', ex⟩
      | next => exact False.elim hq
      | brk => exact False.elim hq
      | cont => exact False.elim hq
  rcases d with ⟨a, dx, fs, rfl, ha, hh⟩ | ⟨a, dx, fs, T, rfl, ha, pl, hsub, hsp⟩
  · cases (show u = Value.ref a from rx)
    rcases hh with ⟨rfl, rfl⟩ | ⟨hne, t, ty, nf, hsp⟩
    · cases (show v = Value.ref a from ry)
      exact SeqAt.EqAt.same (A := A) (s := s) (.ref a) X.prog X.w X.xe _ ⟨rfl, H, I, Ext.rfl'⟩
    · obtain ⟨mA, J, _⟩ := ins_get I.hok ha
      obtain ⟨od, J, _⟩ := J.look
      obtain ⟨P, kx, hP, _⟩ := kit_of I ry ty
      unfold eqBool
      refine wpAny_holding ?_
      rw [(rel_ne ry hne).1]
      simp only [Bool.false_eq_true, if_false]
      refine wpAny_bind (PySem.W.cmp_K (op := .Eq) sb.room.units0 hF I.ok.mod.kin J (kx.ty _ _ I.kIn hP) nf hs hf (wpAny_mono (run (.ref a) y (.ref a) v rfl ry hsp) (fun w s' hw => ?_) fun _ _ z => z))
      cases w with
      | bool c =>
        obtain ⟨hc, q⟩ := (show Value.bool c = .bool b ∧ _ from hw)
        exact wpAny_truthy_bool ⟨Value.bool.inj hc, q⟩
      | notImplemented => exact hw.elim
      | _ =>
        obtain ⟨hc, q⟩ := hw
        cases hc
  · cases (show v = Value.ref a from ry)
    obtain ⟨mA, J, _⟩ := ins_get I.hok ha
    obtain ⟨od, J, _⟩ := J.look
    obtain ⟨ht, dec⟩ := pl_dec (A := A) (E := X.xe) I pl rx J hsub
    have hne : x ≠ .ref a := by
      rintro rfl
      cases pl with
      | tup h =>
        obtain ⟨its, r2, e, z⟩ := I.tuple (SqT.of h)
        obtain ⟨o, ho, hc, _⟩ := e
        rw [J.at_] at ho
        cases ho
        cases hc
      | lst h =>
        rw [ha] at h
        cases h
    unfold eqBool
    refine wpAny_holding ?_
    rw [(rel_ne rx hne).2]
    simp only [Bool.false_eq_true, if_false]
    have go : wpAny (model X.prog X.w) A (richCompare .Eq u (.ref a)) (fun w s' => wpAny (model X.prog X.w) A (truthOfDropped w) (fun r s' => r = b ∧ ∃ H', Inv X pins σ H' s' ∧ Ext H H') X.xe s') X.xe s := by
      refine rc_back sb.room.units0 hF I.ok.mod.kin J ht hsub dec hs hf (wpAny_mono (run (.ref a) x (.ref a) u rfl rx hsp) (fun w s' hw => ?_) fun _ _ z => z)
      cases w with
      | bool c =>
        obtain ⟨hc, q⟩ := (show Value.bool c = .bool b ∧ _ from hw)
        exact wpAny_truthy_bool ⟨Value.bool.inj hc, q⟩
      | notImplemented => exact hw.elim
      | _ =>
        obtain ⟨hc, q⟩ := hw
        cases hc
    cases u <;> exact wpAny_bind go
theorem op_inO {X : Cx} {CX : CXT} {k j : Nat} {C : Addr} {qual : Str} {st : Stmt} {ps : List Str} {sp : Sp} {E : XK} (c : Cm X.prog X.w X.K X.mg X.base CX k C "__eq__" qual st ps sp) (b : Bd "__eq__" qual st ps) (hx : Passes CX X E) (hr : Room j X.A) (hk : k + 1 ≤ j) :
    OpR X (compareOp .In) (rInG (DOwn X.K C sp E)) := by
  obtain ⟨f, fd, F, M, hc, G⟩ := c.ex
  exact op_inG (eqB_own G M.1 M.2 (F.bindsN b) hx) (hr.mono hk)
/-- the built-in types come of no class of the text -/
theorem sub_T {K : PySem.W.Frag} {C : Addr} {T : String} (ms : List String) (e : fastBuiltinMro T = some (ms.map Value.type)) : PySem.W.subIn K (.type T) (.ref C) = some false := by
  show (fastBuiltinMro T).map (·.contains (.ref C)) = some false
  rw [e]
  show some ((ms.map Value.type).contains (.ref C)) = some false
  congr 1
  rw [List.contains_eq_any_beq]
  rw [List.any_eq_false]
  intro x hx
  obtain ⟨m, _, rfl⟩ := List.mem_map.mp hx
  simp
theorem sub_ty {K : PySem.W.Frag} {C : Addr} {H : Hp} {z : V} {T : String} (p : Pl K H z T) : PySem.W.subIn K (.type T) (.ref C) = some false := by
  cases p with
  | non => exact sub_T ["NoneType", "object"] (by decide +kernel)
  | bl b => exact sub_T ["bool", "int", "object"] (by decide +kernel)
  | int i => exact sub_T ["int", "object"] (by decide +kernel)
  | str x => exact sub_T ["str", "object"] (by decide +kernel)
  | tup h => exact sub_T ["tuple", "object"] (by decide +kernel)
  | lst h => exact sub_T ["list", "object"] (by decide +kernel)
theorem Pl.tyx {K : PySem.W.Frag} {H : Hp} {z : V} {T : String} (p : Pl K H z T) : TyX K H z (.type T) := by
  cases p with
  | non => exact .base .non
  | bl b => exact .base (.bl b)
  | int i => exact .base (.int i)
  | str x => exact .base (.str x)
  | tup e => exact .base (.tup e)
  | lst e => exact .base (.lst e)
theorem Pl.first {K : PySem.W.Frag} {C : Addr} {H : Hp} {z : V} {T : String} (p : Pl K H z T) : PySem.W.notFirst K C (.type T) = true := by
  unfold PySem.W.notFirst
  rw [sub_ty p]
  simp
end MM
namespace MM
open PySem PySem.Spec PySem.Calls PyProof.Rows L2
/-! ### truths as texts -/
def blS (b : Bool) : Str := if b then "True" else "False"
section
variable {prog : Program} {w : World} {A : Around} {E : Value → Shared → Prop} {s : Shared}
open Builtin Builtin.Str in
theorem strOf_bool {b : Bool} {Q : Value → Shared → Prop} (h : Q (.str (blS b) s.toks) { s with toks := s.toks + 1 }) : wpAny (model prog w) A (PySem.Builtin.Str.strOf (.bool b)) Q E s := by
  unfold PySem.Builtin.Str.strOf
  rw [show isExactStr (.bool b) = false from rfl]
  simp only [cRoomFor, show [Value.bool b].any Value.onHeap = false from rfl, Bool.false_eq_true, if_false, pure_bind]
  refine wpAny_bind (m := callSpecial? _ (PySem.Str.ofString "__str__")) (wpAny_callSpecial?_slot (name := PySem.Str.ofString "__str__") (PySem.typeIs_bool s b) PySem.F.slot_bool_str (call_object_str_gives (PySem.typeIs_bool s b) PySem.F.slot_bool_str PySem.F.slot_bool_repr PySem.F.entry_bool_repr (PySem.F.args_bool_repr_1 _) (gives_bool_repr b) ?_ rfl (by cases b <;> decide)))
  exact wpAny_pure h
theorem str_of_bool {b : Bool} {Q : Value → Shared → Prop} (h : Q (.str (blS b) s.toks) { s with toks := s.toks + 1 }) : wpAny (model prog w) A (call (.type "str") [.bool b]) Q E s := by
  refine callType_codes (T := "str") (Bi := Builtin.«object.__init__») (Q₁ := fun r s₁ => ∃ y u, r = .str y u ∧ Q r s₁) PySem.F.called_str (PySem.F.typeCall_str_1 _) PySem.F.entry_object_init ?_ ?_
  · refine codeAny_of_tree ?_
    show wpAny _ A.in1.in1 (do checkBuiltinCall "str.__new__" ⟨[.type "str", .bool b], []⟩; again (.builtin "str.__new__" ⟨[.type "str", .bool b], []⟩)) _ _ s
    refine wpAny_bind (wpAny_of_eq (PySem.F.newCall_str_1 _) (wpAny_pure ⟨plainId_quiet (by decide +kernel) _, codeAny_builtin PySem.F.entry_str_new ?_⟩))
    rw [Around.under_plainId (by decide +kernel) _]
    rw [str_new_tree]
    refine wpAny_bind (wpAny_pure ?_)
    refine wpAny_bind (wpAny_of_eq isSubtype_str_str ?_)
    exact wpAny_bind (strOf_bool (wpAny_pure ⟨_, _, rfl, h⟩))
  · rintro obj s₁ ⟨y, u, rfl, hq⟩
    exact ⟨typeIs_str _ _ _, PySem.F.args_object_init_2 _ _, object_init_meets PySem.F.called_str.init.lookup PySem.F.called_str.made (by decide) prog w A.in1 _ s₁ ⟨typeIs_str _ _ _, rfl, hq⟩⟩
end
section
variable {X : Cx}
theorem call_str_bool : CallR X (.type "str") (fun xs H Q => ∃ b, xs = [.bl b] ∧ Q (.str (blS b)) H) := by
  intro pins s σ H xs us Q I r h
  obtain ⟨b, rfl, q⟩ := h
  obtain ⟨u, rfl, r1⟩ := vals1 r
  cases (show u = Value.bool b from r1)
  exact str_of_bool ⟨.str _, H, I.tok _, ⟨_, rfl⟩, q⟩
/-- str of a whole number or a truth -/
theorem call_strIB : CallR X (.type "str") (fun xs H Q => (∃ i : Int, xs = [.int i] ∧ i.natAbs.log2 < 1920 ∧ Q (.str (toString i)) H) ∨ ∃ b, xs = [.bl b] ∧ Q (.str (blS b)) H) := CallR.or call_str_int call_str_bool
/-- {x} of a truth -/
def tFmtB (te : TE) : TE := fun σ H Q => te σ H fun x H1 => ∃ b : Bool, x = .bl b ∧ Q (.str (blS b)) H1
theorem pe_fmtB {e : Expr} {te : TE} {pos : Pos} (he : PE X e te) : PE X (.FormattedValue e (-1) none pos) (tFmtB te) := by
  refine ⟨fun pins s σ H Q I h => ?_⟩
  refine wpAny_FormattedValue_plain (thn (he.run pins s σ H _ I h) fun v s1 hv => ?_)
  obtain ⟨x, H1, I1, r1, b, rfl, q⟩ := hv
  cases (show v = Value.bool b from r1)
  exact wpAny_formatField_bool ⟨.str (blS b), H1, I1.tok _, ⟨_, rfl⟩, q⟩
end
/-- str(x) of a whole number, a truth, or an instance with its own __str__ -/
@[irreducible] def rSA (C : Addr) (sp : Sp) (E : XK) : List V → Hp → VK → Prop := fun xs H Q => ((∃ i : Int, xs = [.int i] ∧ i.natAbs.log2 < 1920 ∧ Q (.str (toString i)) H) ∨ ∃ b, xs = [.bl b] ∧ Q (.str (blS b)) H) ∨ rStrO C sp E xs H Q
theorem sa_int {C : Addr} {sp : Sp} {E : XK} {H : Hp} {Q : VK} {i : Int} (h : i.natAbs.log2 < 1920) (q : Q (.str (toString i)) H) : rSA C sp E [.int i] H Q := by
  unfold rSA
  exact .inl (.inl ⟨i, rfl, h, q⟩)
theorem sa_bl {C : Addr} {sp : Sp} {E : XK} {H : Hp} {Q : VK} {b : Bool} (q : Q (.str (blS b)) H) : rSA C sp E [.bl b] H Q := by
  unfold rSA
  exact .inl (.inr ⟨b, rfl, q⟩)
theorem sa_own {C : Addr} {sp : Sp} {E : XK} {H : Hp} {Q : VK} {a dx : Addr} {fs : List (Str × V)} (e : H a = some (.ins C dx fs)) (q : sp [.ref a] H (fun v H' => ∃ x : Str, v = .str x ∧ Q (.str x) H') E) : rSA C sp E [.ref a] H Q := by
  unfold rSA
  exact .inr ⟨a, dx, fs, rfl, e, q⟩
theorem call_str_SA {X : Cx} {CX : CXT} {k : Nat} {C : Addr} {qual : Str} {st : Stmt} {ps : List Str} {sp : Sp} {E : XK} (c : Cm X.prog X.w X.K X.mg X.base CX k C "__str__" qual st ps sp) (b : Bd "__str__" qual st ps) (hr : Room (k + 2) X.A) (hx : Passes CX X E) :
    CallR X (.type "str") (rSA C sp E) := by
  obtain ⟨f, fd, F, M, hc, G⟩ := c.ex
  unfold rSA
  exact CallR.or call_strIB (call_strO G M.1 M.2 (F.bindsN b) hx hr)
theorem call_reprC {X : Cx} {CX : CXT} {k : Nat} {C : Addr} {qual : Str} {st : Stmt} {ps : List Str} {sp : Sp} {E : XK} (c : Cm X.prog X.w X.K X.mg X.base CX k C "__repr__" qual st ps sp) (b : Bd "__repr__" qual st ps) (hr : Room (k + 1) X.A) (hx : Passes CX X E) :
    CallR X (.builtin "repr") (rReprO C sp E) := by
  obtain ⟨f, fd, F, M, hc, G⟩ := c.ex
  exact call_reprO G M.1 M.2 (F.bindsN b) hx hr
theorem ln (xs : List V) (h : Nat.ble xs.length 1000 = true := by rfl) : xs.length ≤ sizeLine := Nat.le_trans (Nat.le_of_ble_eq_true h) (by decide)
end MM
namespace MM
open PySem PySem.Spec PySem.Calls PyProof.Rows L2
/-- an own class that comes of no built-in one -/
structure OwnC (K : PySem.W.Frag) (C : Addr) : Prop where
  iC : PySem.W.isClsIn K C = true
  tC : PySem.W.typeIn K (.ref C) = some (.type "type")
  bn : PySem.W.subIn K (.ref C) (.type "NoneType") = some false
  bb : PySem.W.subIn K (.ref C) (.type "bool") = some false
  bi : PySem.W.subIn K (.ref C) (.type "int") = some false
  bs : PySem.W.subIn K (.ref C) (.type "str") = some false
  bt : PySem.W.subIn K (.ref C) (.type "tuple") = some false
  bl : PySem.W.subIn K (.ref C) (.type "list") = some false
theorem OwnC.sub {K : PySem.W.Frag} {C : Addr} {H : Hp} {z : V} {T : String} (o : OwnC K C) (p : Pl K H z T) : PySem.W.subIn K (.ref C) (.type T) = some false := by
  cases p with
  | non => exact o.bn
  | bl _ => exact o.bb
  | int _ => exact o.bi
  | str _ => exact o.bs
  | tup _ => exact o.bt
  | lst _ => exact o.bl
theorem OwnC.kit {K : PySem.W.Frag} {C : Addr} {H : Hp} {z : V} {T : String} (o : OwnC K C) (p : Pl K H z T) : PySem.W.kitOne K (.type T) (.ref C) = some false := kit_no o.iC o.tC (by simp) (sub_ty p)
theorem Pl.ext {K : PySem.W.Frag} {H H' : Hp} {z : V} {T : String} (p : Pl K H z T) (e : Ext H H') : Pl K H' z T := by
  cases p with
  | non => exact .non
  | bl b => exact .bl b
  | int i => exact .int i
  | str x => exact .str x
  | tup h => exact .tup (e _ _ h)
  | lst h => exact .lst (e _ _ h)
theorem Pl.ne {K : PySem.W.Frag} {H : Hp} {z : V} {T : String} {a C dx : Addr} {fs : List (Str × V)} (p : Pl K H z T) (e : H a = some (.ins C dx fs)) : z ≠ .ref a := by
  rintro rfl
  cases p with
  | tup h =>
    rw [e] at h
    cases h
  | lst h =>
    rw [e] at h
    cases h
end MM
namespace MM
open PySem PySem.Spec PyProof.Rows L2
/-! ### a class called in a try, the names as they stand at the call -/
section
variable {X : Cx} {k j n d : Nat} {C f : Addr} {fd : FuncData} {ps ks : List Str} {sp : Sp} {dvs : List V} {ds : List Value} {x qual : Str} {st : Stmt} {p pos : Pos} {e : Expr} {es : List Expr} {kws : List Keyword} {t tk : TA} {W : WX}
theorem make_S {pins : List (Addr × Obj)} {σ : L2.St} {H : Hp} {s : Shared} {Q : VK} {us : List Value} {zs : List V} {bs : List Value} {kv : List (Str × Value)} (M : Mk X.K C f) (F : FnOk X.prog X.w X.K X.mg X.base (L2.CX X.prog X.w) k f fd ps sp) (hr : Room (k + 1) X.A) (ht : Takes X W) (I : Inv X pins σ H s)
    (hb : ∀ s', X.K.In s'.heap → BindsTo s' fd ⟨Value.ref (s.heap.objs.size + 1) :: us, kv⟩ (ps.zip bs)) (r2 : Vals zs bs)
    (h : sp zs (L2.upd (L2.upd H s.heap.objs.size (.own (s.heap.objs.size + 1))) (s.heap.objs.size + 1) (.ins C s.heap.objs.size [])) (fun v H2 => v = .non ∧ Q (.ref (s.heap.objs.size + 1)) H2) (fun c d H' => W c d σ H')) :
    wpAny (model X.prog X.w) X.A (call (.ref C) us kv) (EP X pins σ Q) X.xe s := by
  have J := Inv.made (C := C) I
  have go := F.run _ X.stack _ _ ⟨Value.ref (s.heap.objs.size + 1) :: us, kv⟩ bs zs _ _ (hr.make C us kv) (J.env0.make C us kv) (hb _ J.kIn) r2 h
  refine wpAny_call (make_map (f := f) I.kIn M.makes M.init (beq_iff_eq.mp M.fn) (codeAny_mono go fun res s' hq => ?_))
  match res, hq with
  | .error er, hq => exact ht er s' (XE.of_call J (fun _ _ _ z => z) hq)
  | .ok .next, hq => exact hq.elim
  | .ok .brk, hq => exact hq.elim
  | .ok .cont, hq => exact hq.elim
  | .ok (.ret u), hq =>
    obtain ⟨v, H3, K3, rv, ev, q3⟩ := J.after hq
    subst ev
    exact ⟨rv, ⟨V.ref (s.heap.objs.size + 1), H3, K3, rfl, q3⟩⟩
/-- C(e, ..) -/
theorem pe_ciS (c : Ci X.prog X.w X.K X.mg X.base (L2.CX X.prog X.w) k x C qual st dvs ps sp) (b : Bd1 "__init__" qual st ps n d dvs.length) (hd : dvs ≠ []) (hn : n + (dvs.length - d) = ps.length) (hr : Room j X.A) (hk : k + 1 ≤ j) (ht : Takes X W) (hg : Gl X x) (ha : PA X (e :: es) t)
    (hdb : (x == ("__debug__" : Str)) = false := by decide) (he : starEach (e :: es) X.env = (false, eval e X.env) :: starEach es X.env := by rfl) (hpl : (backTo pos (starEach es X.env)).any (·.1) = false := by rfl) :
    PE X (.Call (.Name x p) (e :: es) [] pos) (fun σ H Q => t σ H fun vs H1 => ∀ a dx, H1 a = none → H1 dx = none → dx ≠ a → sp (.ref a :: (vs ++ dvs.drop d)) (L2.upd (L2.upd H1 dx (.own a)) a (.ins C dx [])) (fun v H2 => v = .non ∧ Q (.ref a) H2) (fun c d H' => W c d σ H')) := by
  obtain ⟨f, fd, F, M, hm, G⟩ := c.ex
  obtain ⟨ds, r, bb⟩ := F.binds1 n d hd hn b
  refine ⟨fun pins s σ H Q I h => ?_⟩
  refine wpAny_Call_Name_kw (ld_glob I hg hm ?_ hdb)
  refine PySem.W.callWith_K (h₀ := X.base) I.ok.mod.kin M.kp (thn (ha.run pos pins s σ H _ I h) fun us s1 ⟨vs, H1, I1, rv, q⟩ => ⟨I1.kIn, ?_⟩) he hpl
  have hq := q (s1.heap.objs.size + 1) s1.heap.objs.size (I1.hok.fresh (Nat.le_succ _)) (I1.hok.fresh (Nat.le_refl _)) (Nat.ne_of_lt (Nat.lt_succ_self _))
  have r2 : Vals (V.ref (s1.heap.objs.size + 1) :: (vs ++ dvs.drop d)) (Value.ref (s1.heap.objs.size + 1) :: (us ++ ds)) := .cons rfl (rv.append r)
  refine make_S M G (hr.mono hk) ht I1 (fun s' hK => ?_) r2 hq
  exact bb s' (Value.ref (s1.heap.objs.size + 1) :: us) hK (r2.length.symm.trans (G.len _ _ _ _ hq))
/-- C(k = v, ..) -/
theorem pe_ciKS0 {g : {α : Type} → List α → List α → List α → List α} (c : Ci X.prog X.w X.K X.mg X.base (L2.CX X.prog X.w) k x C qual st dvs ps sp) (b : Kd qual st dvs.length 1 ks ps g) (hd : dvs ≠ []) (hr : Room j X.A) (hk : k + 1 ≤ j) (ht : Takes X W) (hg : Gl X x) (hkw : PK X kws tk)
    (hall : (backToKw pos (keywordEach kws X.env)).all (·.1.isSome) = true := by rfl) (hks : (backToKw pos (keywordEach kws X.env)).filterMap (·.1) = ks := by rfl) (hdb : (x == ("__debug__" : Str)) = false := by decide)
    (hpl : ((backTo pos (starEach [] X.env)).any (·.1) || (backToKw pos (keywordEach kws X.env)).any (·.1.isNone)) = false := by rfl) :
    PE X (.Call (.Name x p) [] kws pos) (fun σ H Q => tk σ H fun zs H1 => zs.length = ks.length ∧ ∀ a dx, H1 a = none → H1 dx = none → dx ≠ a → sp (g [.ref a] dvs zs) (L2.upd (L2.upd H1 dx (.own a)) a (.ins C dx [])) (fun v H2 => v = .non ∧ Q (.ref a) H2) (fun c d H' => W c d σ H')) := by
  obtain ⟨f, fd, F, M, hm, G⟩ := c.ex
  obtain ⟨its, hb⟩ := F.kbindsD 1 ks g hd b.rel b.bind
  refine ⟨fun pins s σ H Q I h => ?_⟩
  refine wpAny_Call_Name_kw (ld_glob I hg hm ?_ hdb)
  refine PySem.W.callWith_KW0 (h₀ := X.base) I.ok.mod.kin M.kp hall ?_ hpl
  refine thn (hkw.run pos pins s σ H _ I h) fun ws s1 ⟨zs, H1, I1, rz, l2, q⟩ => ⟨I1.kIn, ?_⟩
  rw [hks]
  have hq := q (s1.heap.objs.size + 1) s1.heap.objs.size (I1.hok.fresh (Nat.le_succ _)) (I1.hok.fresh (Nat.le_refl _)) (Nat.ne_of_lt (Nat.lt_succ_self _))
  have r2 := hb.rel (vs := [V.ref (s1.heap.objs.size + 1)]) (us := [Value.ref (s1.heap.objs.size + 1)]) (.cons rfl .nil) rz
  refine make_S (us := []) M G (hr.mono hk) ht I1 (fun s' hK => ?_) r2 hq
  exact hb.to s' [Value.ref (s1.heap.objs.size + 1)] ws hK rfl (rz.length.symm.trans l2)
/-- C(e, .., k = v, ..) -/
theorem pe_ciKS {g : {α : Type} → List α → List α → List α → List α} (c : Ci X.prog X.w X.K X.mg X.base (L2.CX X.prog X.w) k x C qual st dvs ps sp) (b : Kd qual st dvs.length (n + 1) ks ps g) (hd : dvs ≠ []) (hr : Room j X.A) (hk : k + 1 ≤ j) (ht : Takes X W) (hg : Gl X x) (ha : PA X (e :: es) t) (hkw : PK X kws tk)
    (hall : (backToKw pos (keywordEach kws X.env)).all (·.1.isSome) = true := by rfl) (hks : (backToKw pos (keywordEach kws X.env)).filterMap (·.1) = ks := by rfl) (hdb : (x == ("__debug__" : Str)) = false := by decide)
    (he : starEach (e :: es) X.env = (false, eval e X.env) :: starEach es X.env := by rfl) (hpl : ((backTo pos (starEach (e :: es) X.env)).any (·.1) || (backToKw pos (keywordEach kws X.env)).any (·.1.isNone)) = false := by rfl) :
    PE X (.Call (.Name x p) (e :: es) kws pos) (fun σ H Q => t σ H fun vs H0 => tk σ H0 fun zs H1 => vs.length = n ∧ zs.length = ks.length ∧ ∀ a dx, H1 a = none → H1 dx = none → dx ≠ a → sp (g (.ref a :: vs) dvs zs) (L2.upd (L2.upd H1 dx (.own a)) a (.ins C dx [])) (fun v H2 => v = .non ∧ Q (.ref a) H2) (fun c d H' => W c d σ H')) := by
  obtain ⟨f, fd, F, M, hm, G⟩ := c.ex
  obtain ⟨its, hb⟩ := F.kbindsD (n + 1) ks g hd b.rel b.bind
  refine ⟨fun pins s σ H Q I h => ?_⟩
  refine wpAny_Call_Name_kw (ld_glob I hg hm ?_ hdb)
  refine PySem.W.callWith_KW (h₀ := X.base) I.ok.mod.kin M.kp hall (thn (ha.run pos pins s σ H _ I h) fun us s0 ⟨vs, H0, I0, r, q0⟩ => ?_) hpl he
  refine thn (hkw.run pos pins s0 σ H0 _ I0 q0) fun ws s1 ⟨zs, H1, I1, rz, l1, l2, q⟩ => ⟨I1.kIn, ?_⟩
  rw [hks]
  have hq := q (s1.heap.objs.size + 1) s1.heap.objs.size (I1.hok.fresh (Nat.le_succ _)) (I1.hok.fresh (Nat.le_refl _)) (Nat.ne_of_lt (Nat.lt_succ_self _))
  have r2 := hb.rel (vs := V.ref (s1.heap.objs.size + 1) :: vs) (us := Value.ref (s1.heap.objs.size + 1) :: us) (.cons rfl r) rz
  refine make_S M G (hr.mono hk) ht I1 (fun s' hK => ?_) r2 hq
  exact hb.to s' (Value.ref (s1.heap.objs.size + 1) :: us) ws hK (by rw [List.length_cons, ← r.length, l1]) (rz.length.symm.trans l2)
end
end MM
namespace MM
open PySem PySem.Spec PySem.Calls PyProof.Rows L2
open AutoSeq1 (wpAny_loadPart')
open GQ (FinOf call_here)
/-! ### tuples of instances, != -/
section
variable {prog : Program} {w : World} {A : Around} {R : Result → Shared → Prop}
theorem tup_ne (l b : Addr) (xs ys : Array Value) (n m : Nat) (dd de : Option Addr) (sl sm : Array (Option Value)) (hz : xs.size = ys.size) (Iv : Nat → Shared → Prop)
    (turn : ∀ i (h1 : i < xs.size) (h2 : i < ys.size) s, Iv i s → wpAny (model prog w) A.in1 (eqBool xs[i] ys[i]) (fun r s' => r = true ∧ Iv (i + 1) s') (fun e s' => R (.error e) s') s)
    (fin : ∀ s, Iv xs.size s → R (.ok (.ret (.bool false))) s) {s : Shared} (ha : s.heap.get? l = some { cls := .type "tuple", dict := dd, data := .seq xs n, slots := sl }) (hb : s.heap.get? b = some { cls := .type "tuple", dict := de, data := .seq ys m, slots := sm }) (h : Iv 0 s) :
    wpAny (model prog w) A.in1 (Builtin.«tuple.__ne__» ⟨[.ref l, .ref b], []⟩) (FinOf prog w A R) (fun e s' => R (.error e) s') s := by
  have f2 := AutoSeq1.sub_tuple_tuple
  have hZ : (xs.toList.zip ys.toList).length = xs.size := by simp [hz]
  have h0 := h
  obtain ⟨hp, g, d, tk, os⟩ := s
  wp_walk using wpAny_loadPart' ha, wpAny_loadPart' hb, wpAny_forIn_list _ (fun rest b s' => b.1 = none ∧ ∃ i, rest = (xs.toList.zip ys.toList).drop i ∧ i ≤ xs.size ∧ Iv i s') _
  case turn =>
    rintro ⟨y, x⟩ rest b s' ⟨hb', i, hq, hi, hI⟩
    have hlt : i < (xs.toList.zip ys.toList).length := by
      by_cases h' : i < (xs.toList.zip ys.toList).length
      · exact h'
      · rw [List.drop_of_length_le (by omega)] at hq
        cases hq
    have h1 : i < xs.size := hZ ▸ hlt
    have h2 : i < ys.size := hz ▸ h1
    rw [List.drop_eq_getElem_cons hlt] at hq
    injection hq with hyx hrest
    have hy : y = xs[i] := by have := congrArg Prod.fst hyx; simpa using this
    have hx : x = ys[i] := by have := congrArg Prod.snd hyx; simpa using this
    subst hy hx
    refine wpAny_bind (wpAny_mono (turn i h1 h2 s' hI) (fun r s2 q2 => ?_) fun _ _ x => x)
    obtain ⟨hr, q2⟩ := q2
    subst hr
    wp_walk
    exact ⟨rfl, i + 1, hrest, h1, q2⟩
  case fin =>
    rintro ⟨b1, b2⟩ s' ⟨hb', i, hq, hi, hI⟩
    simp only at hb'
    subst hb'
    have hge : xs.size ≤ i := by
      by_cases h' : i < (xs.toList.zip ys.toList).length
      · rw [List.drop_eq_getElem_cons h'] at hq
        cases hq
      · omega
    have hi' : i = xs.size := by omega
    have hR : R (.ok (.ret (.bool false))) s' := fin s' (hi' ▸ hI)
    wp_walk
    simpa [Builtin.Tuple.tupleCompareSizes, hz] using hR
  case h =>
    exact ⟨rfl, 0, rfl, Nat.zero_le _, h0⟩
theorem rc_tup_ne {E : Value → Shared → Prop} {s : Shared} {l b : Addr} {xs ys : Array Value} {Q : Value → Shared → Prop} (hz : xs.size = ys.size) (hu : A.units < cLine) (Iv : Nat → Shared → Prop) (hl : s.heap.IsTuple l xs) (hb : s.heap.IsTuple b ys)
    (turn : ∀ i (h1 : i < xs.size) (h2 : i < ys.size) s, Iv i s → wpAny (model prog w) A.in1 (eqBool xs[i] ys[i]) (fun r s' => r = true ∧ Iv (i + 1) s') E s)
    (fin : ∀ s, Iv xs.size s → Q (.bool false) s) (h : Iv 0 s) : wpAny (model prog w) A (richCompare .NotEq (.ref l) (.ref b)) Q E s := by
  obtain ⟨⟨cls, dd, data, sl⟩, ho, hc, n, hd⟩ := id hl
  obtain ⟨⟨cls2, dd2, data2, sl2⟩, ho2, hc2, n2, hd2⟩ := id hb
  simp only at hc hd hc2 hd2
  subst hc hd hc2 hd2
  refine wpAny_richCompare_same_room (op := .NotEq) ⟨_, ho, rfl⟩ ⟨_, ho2, rfl⟩ PySem.F.slot_tuple_ne (call_here PySem.F.slot_tuple_ne ⟨_, ho, rfl⟩ PySem.F.entry_tuple_ne (PySem.F.args_tuple_ne_2 _ _) ?_) hu
  exact tup_ne (R := wants (fun v s' => v ≠ .notImplemented ∧ Q v s') E) l b xs ys n n2 dd dd2 sl sl2 hz Iv turn (fun s' q => ⟨(fun x => nomatch x), fin s' q⟩) ho ho2 h
end
/-- tuples whose things are equal one by one -/
def rNeG (D : Eqv) : R2 := fun x y H Q => D x y H ∧ ∀ H', Ext H H' → Q (.bl false) H'
theorem op_neTG {X : Cx} {n : Nat} {D : Eqv} (hD : Mon D) (h : EqG X n D) (hr : Room (n + 1) X.A) : OpR X (compareOp .NotEq) (rNeG (DTup X.K D)) := by
  intro pins s σ H x y v u Q I rx ry hq
  obtain ⟨⟨a, b, xs, ys, rfl, rfl, ha, hb, p⟩, q⟩ := hq
  cases (show v = Value.ref a from rx)
  cases (show u = Value.ref b from ry)
  have sb : L2.Sub X (n + 1) X.A := ⟨hr, rfl⟩
  obtain ⟨its, r, e, z⟩ := I.tuple ha
  obtain ⟨its2, r2, e2, z2⟩ := I.tuple hb
  have hz : its.toArray.size = its2.toArray.size := by rw [List.size_toArray, List.size_toArray, ← r.length, ← r2.length]; exact p.1
  show wpAny (model X.prog X.w) X.A (richCompare .NotEq (.ref a) (.ref b)) (EP X pins σ Q) X.xe s
  refine rc_tup_ne hz sb.room.units0 (fun _ s' => LoopI X pins σ H s') e e2 (fun i h1 h2 s' q => turnG hD h sb p r r2 i h1 h2 s' q) (fun s' q' => ?_) ⟨H, I, Ext.rfl'⟩
  obtain ⟨H', I', e'⟩ := q'
  exact ⟨.bl false, H', I', rfl, q H' e'⟩
/-- equal things of a class by its own __eq__ -/
theorem eqG_own {X : Cx} {CX : CXT} {k : Nat} {C : Addr} {qual : Str} {st : Stmt} {ps : List Str} {sp : Sp} {E : XK} {D : Eqv} (c : Cm X.prog X.w X.K X.mg X.base CX k C "__eq__" qual st ps sp) (b : Bd "__eq__" qual st ps) (hx : Passes CX X E) (hd : ∀ x y H, D x y H → DOwn X.K C sp E x y H true) : EqG X k D := by
  obtain ⟨f, fd, F, M, hc, G⟩ := c.ex
  intro A pins s σ H x y u v sb I rx ry d
  exact eqB_own G M.1 M.2 (F.bindsN b) hx A pins s σ H x y u v true sb I rx ry (hd x y H d)
end MM
namespace MM
open PySem PySem.Spec PySem.Calls PyProof.Rows L2
open AutoSeq1 (wpAny_loadPart')
open GQ (FinOf call_here)
/-! ### tuples of instances, ==, with either answer -/
section
variable {prog : Program} {w : World} {A : Around} {R : Result → Shared → Prop}
theorem tup_eqB (l b : Addr) (xs ys : Array Value) (n m : Nat) (dd de : Option Addr) (sl sm : Array (Option Value)) (hz : xs.size = ys.size) (B : Nat → Bool) (Iv : Nat → Shared → Prop)
    (turn : ∀ i (h1 : i < xs.size) (h2 : i < ys.size) s, Iv i s → wpAny (model prog w) A.in1 (eqBool xs[i] ys[i]) (fun r s' => r = B i ∧ Iv (i + 1) s') (fun e s' => R (.error e) s') s)
    (finF : ∀ i s, i < xs.size → B i = false → Iv (i + 1) s → R (.ok (.ret (.bool false))) s) (fin : (∀ i, i < xs.size → B i = true) → ∀ s, Iv xs.size s → R (.ok (.ret (.bool true))) s) {s : Shared} (ha : s.heap.get? l = some { cls := .type "tuple", dict := dd, data := .seq xs n, slots := sl }) (hb : s.heap.get? b = some { cls := .type "tuple", dict := de, data := .seq ys m, slots := sm }) (h : Iv 0 s) :
    wpAny (model prog w) A.in1 (Builtin.«tuple.__eq__» ⟨[.ref l, .ref b], []⟩) (FinOf prog w A R) (fun e s' => R (.error e) s') s := by
  have f2 := AutoSeq1.sub_tuple_tuple
  have hZ : (xs.toList.zip ys.toList).length = xs.size := by simp [hz]
  have h0 := h
  obtain ⟨hp, g, d, tk, os⟩ := s
  wp_walk using wpAny_loadPart' ha, wpAny_loadPart' hb, wpAny_forIn_list _ (fun rest b s' => (b.1 = none ∧ ∃ i, rest = (xs.toList.zip ys.toList).drop i ∧ i ≤ xs.size ∧ (∀ j, j < i → B j = true) ∧ Iv i s')) _
  case turn =>
    rintro ⟨y, x⟩ rest b s' ⟨hb', i, hq, hi, hall, hI⟩
    have hlt : i < (xs.toList.zip ys.toList).length := by
      by_cases h' : i < (xs.toList.zip ys.toList).length
      · exact h'
      · rw [List.drop_of_length_le (by omega)] at hq
        cases hq
    have h1 : i < xs.size := hZ ▸ hlt
    have h2 : i < ys.size := hz ▸ h1
    rw [List.drop_eq_getElem_cons hlt] at hq
    injection hq with hyx hrest
    have hy : y = xs[i] := by have := congrArg Prod.fst hyx; simpa using this
    have hx : x = ys[i] := by have := congrArg Prod.snd hyx; simpa using this
    subst hy hx
    refine wpAny_bind (wpAny_mono (turn i h1 h2 s' hI) (fun r s2 q2 => ?_) fun _ _ x => x)
    obtain ⟨hr, q2⟩ := q2
    cases hB : B i with
    | true =>
      rw [hB] at hr
      subst hr
      wp_walk
      refine ⟨rfl, i + 1, hrest, h1, fun j hj => ?_, q2⟩
      by_cases e : j = i
      · subst e
        exact hB
      · exact hall j (by omega)
    | false =>
      rw [hB] at hr
      subst hr
      have q3 := finF i s2 h1 hB q2
      wp_walk
      exact q3
  case fin =>
    rintro ⟨b1, b2⟩ s' ⟨hb', i, hq, hi, hall, hI⟩
    simp only at hb'
    subst hb'
    have hge : xs.size ≤ i := by
      by_cases h' : i < (xs.toList.zip ys.toList).length
      · rw [List.drop_eq_getElem_cons h'] at hq
        cases hq
      · omega
    have hi' : i = xs.size := by omega
    have hR : R (.ok (.ret (.bool true))) s' := fin (fun j hj => hall j (by omega)) s' (hi' ▸ hI)
    wp_walk
    simpa [Builtin.Tuple.tupleCompareSizes, hz] using hR
  case h =>
    exact ⟨rfl, 0, rfl, Nat.zero_le _, fun j hj => absurd hj (Nat.not_lt_zero j), h0⟩
end

/-- x == y, tuples whose i-th things are == just where B i -/
def rEqTB (K : PySem.W.Frag) (D : V → V → Hp → Bool → Prop) : R2 := fun x y H Q => ∃ (a b : Addr) (xs ys : List V) (B : Nat → Bool), x = .ref a ∧ y = .ref b ∧ SqT K H a xs ∧ SqT K H b ys ∧ xs.length = ys.length ∧ (∀ i p q, xs[i]? = some p → ys[i]? = some q → ∀ H', Ext H H' → D p q H' (B i)) ∧ ∀ H', Ext H H' → Q (.bl ((List.range xs.length).all B)) H'
theorem get_arr {xs : List V} {its : List Value} (r : Vals xs its) {i : Nat} (h1 : i < its.toArray.size) : ∃ x, xs[i]? = some x ∧ RelV x its.toArray[i] := by
  have hi : i < its.length := by simpa using h1
  have hx : i < xs.length := by rw [r.length]; exact hi
  obtain ⟨w, hw, rw'⟩ := r.get (List.getElem?_eq_getElem hx)
  refine ⟨_, List.getElem?_eq_getElem hx, ?_⟩
  have ew : its.toArray[i] = w := by
    rw [List.getElem?_eq_getElem hi] at hw
    simpa using Option.some.inj hw
  rw [ew]
  exact rw'
theorem op_eqTB {X : Cx} {n : Nat} {D : V → V → Hp → Bool → Prop} (h : EqB X n D) (hr : Room (n + 1) X.A) : OpR X (compareOp .Eq) (rEqTB X.K D) := by
  intro pins s σ H x y v u Q I rx ry hq
  obtain ⟨a, b, xs, ys, B, rfl, rfl, ha, hb, hlen, hD, q⟩ := hq
  cases (show v = Value.ref a from rx)
  cases (show u = Value.ref b from ry)
  have sb : L2.Sub X (n + 1) X.A := ⟨hr, rfl⟩
  obtain ⟨its, r, e, z⟩ := I.tuple ha
  obtain ⟨its2, r2, e2, z2⟩ := I.tuple hb
  have hz : its.toArray.size = its2.toArray.size := by rw [List.size_toArray, List.size_toArray, ← r.length, ← r2.length]; exact hlen
  have hzx : its.toArray.size = xs.length := by rw [List.size_toArray, ← r.length]
  obtain ⟨⟨cls, dd, data, sl⟩, ho, hc, m1, hd⟩ := id e
  obtain ⟨⟨cls2, dd2, data2, sl2⟩, ho2, hc2, m2, hd2⟩ := id e2
  simp only at hc hd hc2 hd2
  subst hc hd hc2 hd2
  show wpAny (model X.prog X.w) X.A (richCompare .Eq (.ref a) (.ref b)) (EP X pins σ Q) X.xe s
  refine wpAny_richCompare_same_room (op := .Eq) ⟨_, ho, rfl⟩ ⟨_, ho2, rfl⟩ PySem.F.slot_tuple_eq (call_here PySem.F.slot_tuple_eq ⟨_, ho, rfl⟩ PySem.F.entry_tuple_eq (PySem.F.args_tuple_eq_2 _ _) ?_) sb.room.units0
  refine tup_eqB (R := wants (fun v s' => v ≠ .notImplemented ∧ EP X pins σ Q v s') X.xe) a b its.toArray its2.toArray m1 m2 dd dd2 sl sl2 hz B (fun _ s' => LoopI X pins σ H s') ?_ ?_ ?_ ho ho2 ⟨H, I, Ext.rfl'⟩
  · intro i h1 h2 s' hl
    obtain ⟨H', I', x'⟩ := hl
    obtain ⟨p, hp, rp⟩ := get_arr r h1
    obtain ⟨p2, hp2, rp2⟩ := get_arr r2 h2
    refine wpAny_mono (h X.A.in1 pins s' σ H' _ _ _ _ (B i) sb.in1 I' rp rp2 (hD i p p2 hp hp2 H' x')) (fun c s2 z2 => ?_) fun _ _ y => y
    obtain ⟨hc, H2, I2, x2⟩ := z2
    exact ⟨hc, H2, I2, x'.trans x2⟩
  · rintro i s' hi hB ⟨H', I', x'⟩
    refine ⟨(fun z => nomatch z), .bl false, H', I', rfl, ?_⟩
    have z := q H' x'
    have ea : (List.range xs.length).all B = false := by
      rw [List.all_eq_false]
      exact ⟨i, List.mem_range.mpr (by omega), by rw [hB]; decide⟩
    rw [ea] at z
    exact z
  · rintro hall s' ⟨H', I', x'⟩
    refine ⟨(fun z => nomatch z), .bl true, H', I', rfl, ?_⟩
    have z := q H' x'
    have ea : (List.range xs.length).all B = true := by
      rw [List.all_eq_true]
      intro j hj
      exact hall j (by have := List.mem_range.mp hj; omega)
    rw [ea] at z
    exact z
/-! ### x not in [..] by an own __eq__ -/
section
variable {prog : Program} {w : World} {A : Around}
theorem notin_listG {E : Value → Shared → Prop} {s : Shared} {Q : Value → Shared → Prop} (l : Addr) (x : Value) (N : Nat) (B : Nat → Bool) (Iv : Nat → Shared → Prop)
    (hl : ∀ i s, Iv i s → ∃ (its : Array Value) (n : Nat), s.heap.get? l = some { cls := .type "list", data := .seq its n } ∧ its.size = N ∧ ∀ h : i < its.size, wpAny (model prog w) A.in1 (eqBool its[i] x) (fun r s' => r = B i ∧ Iv (i + 1) s') E s)
    (fT : ∀ i s, i < N → B i = true → Iv (i + 1) s → Q (.bool false) s) (fF : (∀ j, j < N → B j = false) → ∀ s, Iv N s → Q (.bool true) s) (h : Iv 0 s) : wpAny (model prog w) A (compareOp .NotIn x (.ref l)) Q E s := by
  obtain ⟨its, n, h1, _, _⟩ := hl _ _ h
  show wpAny _ A (do return .bool (!(← contains (.ref l) x))) Q E s
  refine wpAny_bind (wpAny_contains_slot ⟨_, h1, rfl⟩ PySem.F.slot_list_contains (wpAny_mono (call_here (Q := fun v s' => ∃ b, v = .bool b ∧ Q (.bool (!b)) s') PySem.F.slot_list_contains ⟨_, h1, rfl⟩ PySem.F.entry_list_contains (PySem.F.args_list_contains_2 _ _) ?_) (fun v s' hv => ?_) fun _ _ e => e))
  · have go := in_loopG (prog := prog) (w := w) (A := A) (R := wants (fun v s' => ∃ b, v = .bool b ∧ Q (.bool (!b)) s') E) l x N B Iv hl (fun i s hi hb q => ⟨true, rfl, fT i s hi hb q⟩) (fun hno s q => ⟨false, rfl, fF hno s q⟩) (N - 0) 0 rfl (Nat.zero_le _) (fun j hj => absurd hj (Nat.not_lt_zero j)) s h
    obtain ⟨hp, g, d, tk, os⟩ := s
    wp_walk
    exact ⟨plainId_quiet PySem.MeetsSeq.plain_contains_loop _, codeAny_builtin PySem.MeetsSeq.entry_contains_loop (by
      rw [Around.under_plainId PySem.MeetsSeq.plain_contains_loop _]
      exact go)⟩
  · obtain ⟨b, rfl, hq⟩ := hv
    exact wpAny_truthy_bool (wpAny_pure hq)
/-! ### [..].count(x) by an own __eq__ -/
theorem count_loopG {R : Result → Shared → Prop} (l : Addr) (x : Value) (N : Nat) (B : Nat → Bool) (Iv : Nat → Shared → Prop)
    (hl : ∀ i s, Iv i s → ∃ (its : Array Value) (n : Nat), s.heap.get? l = some { cls := .type "list", data := .seq its n } ∧ its.size = N ∧ ∀ h : i < its.size, wpAny (model prog w) A.in1 (eqBool its[i] x) (fun r s' => r = B i ∧ Iv (i + 1) s') (fun e s' => R (.error e) s') s)
    (fin : ∀ s t k, Iv N s → R (.ok (.ret (.int (((List.range N).countP B : Nat) : Int) t))) { s with toks := k }) (k : Nat) :
    ∀ i : Nat, N - i = k → i ≤ N → ∀ s, Iv i s →
      wpAny (model prog w) A.in1 (Builtin.«list.count.loop» ⟨[.ref l, x, rawInt i, rawInt ((((List.range i).countP B : Nat)) : Int)], []⟩) (FinOf prog w A R) (fun e s' => R (.error e) s') s := by
  induction k with
  | zero =>
    intro i hk hi s h
    obtain ⟨its, n, h1, hs, _⟩ := hl _ _ h
    have ei : i = N := by omega
    subst ei
    have hR := fin s
    obtain ⟨hp, g, d, tk, os⟩ := s
    wp_walk using wpAny_loadPart' h1
    have e1 : its[((i : Nat) : Int).toNat]? = none := by simp; omega
    rw [e1]
    wp_walk
    exact hR _ _ h
  | succ k ih =>
    intro i hk hi s h
    obtain ⟨its, n, h1, hs, turn⟩ := hl _ _ h
    have hlt : i < its.size := by omega
    have ht := turn hlt
    obtain ⟨hp, g, d, tk, os⟩ := s
    wp_walk using wpAny_loadPart' h1
    have e1 : its[((i : Nat) : Int).toNat]? = some its[i] := by simp [hlt]
    have hc : ((i : Int) + 1) = ((i + 1 : Nat) : Int) := by omega
    rw [e1]
    refine wpAny_bind (wpAny_mono ht (fun r s2 h2 => ?_) fun _ _ z => z)
    obtain ⟨hr, h2⟩ := h2
    subst hr
    have hrec := ih (i + 1) (by omega) (by omega) s2 h2
    have ec : (if B i = true then (((List.range i).countP B : Nat) : Int) + 1 else (((List.range i).countP B : Nat) : Int)) = (((List.range (i + 1)).countP B : Nat) : Int) := by
      rw [List.range_succ, List.countP_append]
      rw [show List.countP B [i] = if B i = true then 1 else 0 by rw [List.countP_cons]; simp]
      split <;> omega
    obtain ⟨hp2, g2, d2, tk2, os2⟩ := s2
    wp_walk
    rw [hc, ec]
    exact ⟨plainId_quiet PySem.MeetsSeq.plain_count_loop _, codeAny_builtin PySem.MeetsSeq.entry_count_loop (by
      rw [Around.under_plainId PySem.MeetsSeq.plain_count_loop _]
      exact hrec)⟩
end
def rNotInG (D : V → V → Hp → Bool → Prop) : R2 := fun x y H Q => ∃ (p : Addr) (xs : List V) (B : Nat → Bool), y = .ref p ∧ H p = some (.lst xs) ∧ (∀ i z, xs[i]? = some z → ∀ H', Ext H H' → D z x H' (B i)) ∧ ∀ H', Ext H H' → Q (.bl (!(List.range xs.length).any B)) H'
/-- the i-th thing of the list at p beside x, in whatever state came -/
theorem turn_lst {X : Cx} {n : Nat} {D : V → V → Hp → Bool → Prop} (h : EqB X n D) {A : Around} (sb : L2.Sub X n A) {pins : List (Addr × Obj)} {σ : L2.St} {H : Hp} {p : Addr} {xs : List V} {x : V} {v : Value} {B : Nat → Bool} (hp : H p = some (.lst xs)) (rx : RelV x v)
    (hD : ∀ i z, xs[i]? = some z → ∀ H', Ext H H' → D z x H' (B i)) : ∀ (i : Nat) (s' : Shared), LoopI X pins σ H s' → ∃ (its : Array Value) (k : Nat), s'.heap.get? p = some { cls := .type "list", data := .seq its k } ∧ its.size = xs.length ∧ ∀ h1 : i < its.size, wpAny (model X.prog X.w) A (eqBool its[i] v) (fun r s2 => r = B i ∧ LoopI X pins σ H s2) X.xe s' := by
  rintro i s' ⟨H', I', e⟩
  obtain ⟨z, its, k, r, ek⟩ := I'.hok p _ (e _ _ hp)
  refine ⟨its.toArray, k, ek, by rw [List.size_toArray, ← r.length], fun h1 => ?_⟩
  obtain ⟨y, hy, ry⟩ := get_arr r h1
  refine wpAny_mono (h A pins s' σ H' _ x _ v (B i) sb I' ry rx (hD i _ hy H' e)) (fun c s2 z2 => ?_) fun _ _ y => y
  obtain ⟨hc, H2, I2, e2⟩ := z2
  exact ⟨hc, H2, I2, e.trans e2⟩
theorem op_notInG {X : Cx} {n : Nat} {D : V → V → Hp → Bool → Prop} (h : EqB X n D) (hr : Room (n + 1) X.A) : OpR X (compareOp .NotIn) (rNotInG D) := by
  intro pins s σ H x y v u Q I rx ry hq
  obtain ⟨p, xs, B, rfl, hp, hD, q⟩ := hq
  cases (show u = Value.ref p from ry)
  have sb : L2.Sub X (n + 1) X.A := ⟨hr, rfl⟩
  refine notin_listG (A := X.A) p v xs.length B (fun _ s' => LoopI X pins σ H s') (fun i s' hl => turn_lst h sb.in1 hp rx hD i s' hl) ?_ ?_ ⟨H, I, Ext.rfl'⟩
  · rintro i s' hi hb ⟨H', I', e⟩
    refine ⟨.bl false, H', I', rfl, ?_⟩
    have z := q H' e
    have ea : (List.range xs.length).any B = true := List.any_eq_true.mpr ⟨i, List.mem_range.mpr hi, hb⟩
    rw [ea] at z
    exact z
  · rintro hno s' ⟨H', I', e⟩
    refine ⟨.bl true, H', I', rfl, ?_⟩
    have z := q H' e
    have ea : (List.range xs.length).any B = false := by
      rw [List.any_eq_false]
      intro j hj
      rw [hno j (List.mem_range.mp hj)]
      decide
    rw [ea] at z
    exact z
theorem op_notInO {X : Cx} {CX : CXT} {k j : Nat} {C : Addr} {qual : Str} {st : Stmt} {ps : List Str} {sp : Sp} {E : XK} (c : Cm X.prog X.w X.K X.mg X.base CX k C "__eq__" qual st ps sp) (b : Bd "__eq__" qual st ps) (hx : Passes CX X E) (hr : Room j X.A) (hk : k + 1 ≤ j) :
    OpR X (compareOp .NotIn) (rNotInG (DOwn X.K C sp E)) := by
  obtain ⟨f, fd, F, M, hc, G⟩ := c.ex
  exact op_notInG (eqB_own G M.1 M.2 (F.bindsN b) hx) (hr.mono hk)
/-- [..].count(x) -/
def rCountG (D : V → V → Hp → Bool → Prop) : V → List V → Hp → VK → Prop := fun y vs H Q => ∃ (p : Addr) (xs : List V) (x : V) (B : Nat → Bool), y = .ref p ∧ vs = [x] ∧ H p = some (.lst xs) ∧ (∀ i z, xs[i]? = some z → ∀ H', Ext H H' → D z x H' (B i)) ∧ ∀ H', Ext H H' → Q (.int (((List.range xs.length).countP B : Nat) : Int)) H'
theorem mt_countG {X : Cx} {n : Nat} {D : V → V → Hp → Bool → Prop} (h : EqB X n D) (hr : Room (n + 1) X.A) : MtR X "list.count" (rCountG D) := by
  intro pins s σ H y vs v us Q I ry rs hq
  obtain ⟨p, xs, x, B, rfl, rfl, hp, hD, q⟩ := hq
  cases (show v = Value.ref p from ry)
  obtain ⟨u, rfl, rx⟩ := vals1 rs
  have sb : L2.Sub X (n + 1) X.A := ⟨hr, rfl⟩
  obtain ⟨z, its, k, r, ek⟩ := I.hok p _ hp
  refine call_here PySem.F.slot_list_count ⟨_, ek, rfl⟩ PySem.F.entry_list_count (PySem.F.args_list_count_2 _ _) ?_
  have go := count_loopG (prog := X.prog) (w := X.w) (A := X.A) (R := wants (EP X pins σ Q) X.xe) p u xs.length B (fun _ s' => LoopI X pins σ H s') (fun i s' hl => turn_lst h sb.in1 hp rx hD i s' hl) (fun s' t k ⟨H', I', e⟩ => ⟨.int _, H', I'.tok _, ⟨t, rfl⟩, q H' e⟩) xs.length 0 rfl (Nat.zero_le _) s ⟨H, I, Ext.rfl'⟩
  obtain ⟨hp2, g, d, tk, os⟩ := s
  wp_walk
  exact ⟨plainId_quiet PySem.MeetsSeq.plain_count_loop _, codeAny_builtin PySem.MeetsSeq.entry_count_loop (by
    rw [Around.under_plainId PySem.MeetsSeq.plain_count_loop _]
    exact go)⟩
theorem mt_countO {X : Cx} {CX : CXT} {k j : Nat} {C : Addr} {qual : Str} {st : Stmt} {ps : List Str} {sp : Sp} {E : XK} (c : Cm X.prog X.w X.K X.mg X.base CX k C "__eq__" qual st ps sp) (b : Bd "__eq__" qual st ps) (hx : Passes CX X E) (hr : Room j X.A) (hk : k + 1 ≤ j) :
    MtR X "list.count" (rCountG (DOwn X.K C sp E)) := by
  obtain ⟨f, fd, F, M, hc, G⟩ := c.ex
  exact mt_countG (eqB_own G M.1 M.2 (F.bindsN b) hx) (hr.mono hk)
/-! ### {x} and {x!r} of instances with their own __str__ and __repr__ -/
def tFmtO (C : Addr) (sp : Sp) (E : XK) (te : TE) : TE := fun σ H Q => te σ H fun x H1 => ∃ (a dx : Addr) (fs : List (Str × V)), x = .ref a ∧ H1 a = some (.ins C dx fs) ∧ sp [.ref a] H1 (fun v H' => ∃ y : Str, v = .str y ∧ Q (.str y) H') E
section
variable {X : Cx} {CX : CXT} {k j : Nat} {C : Addr} {qual : Str} {st : Stmt} {ps : List Str} {sp : Sp} {E : XK} {e : Expr} {te : TE} {pos : Pos}
theorem run_own {A : Around} {n : Nat} {f : Addr} {fd : FuncData} {pins : List (Addr × Obj)} {σ : L2.St} {H : Hp} {s : Shared} {a : Addr} {Q : Str → Hp → Prop} {R : Value → Shared → Prop} (F : FnOk X.prog X.w X.K X.mg X.base CX n f fd ps sp) (hb : Binds X.K fd ps []) (hx : Passes CX X E) (sb : L2.Sub X n A) (I : Inv X pins σ H s)
    (hq : sp [.ref a] H (fun v H' => ∃ y : Str, v = .str y ∧ Q y H') E) (hR : ∀ y t s' H', Inv X pins σ H' s' → Q y H' → R (.str y t) s') : wpAny (model X.prog X.w) A (call (.ref f) [.ref a]) (PySem.W.StrBack R) X.xe s := by
  have hl : ([Value.ref a] ++ []).length = ps.length := (show ([V.ref a] : List V).length = _ from F.len _ _ _ _ hq)
  refine wpAny_call (codeAny_mono (F.run A X.stack s H ⟨[.ref a], []⟩ [.ref a] [.ref a] _ E sb.room (env_sub sb I) (hb s [.ref a] I.kIn hl) (.cons rfl .nil) hq) fun res s' hres => ?_)
  match res, hres with
  | .error er, hres => exact hx pins σ H s er s' I hres
  | .ok .next, hres => exact hres.elim
  | .ok .brk, hres => exact hres.elim
  | .ok .cont, hres => exact hres.elim
  | .ok (.ret u), hres =>
    obtain ⟨z, H', I', rz, y, rfl, q⟩ := I.after hres
    obtain ⟨t, rfl⟩ := rz
    exact hR y t s' H' I' q
theorem pe_fmtO (he : PE X e te) (c : Cm X.prog X.w X.K X.mg X.base CX k C "__str__" qual st ps sp) (b : Bd "__str__" qual st ps) (hfm : PySem.W.findIn X.K (.ref C) "__format__" = some (some (.builtin "object.__format__"))) (hm : PySem.W.mroIn X.K C (.type "object") = some true) (hr : Room j X.A) (hk : k + 1 ≤ j) (hx : Passes CX X E) :
    PE X (.FormattedValue e (-1) none pos) (tFmtO C sp E te) := by
  obtain ⟨f, fd, F, M, hc, G⟩ := c.ex
  have sb : L2.Sub X (k + 1) X.A := ⟨hr.mono hk, rfl⟩
  refine ⟨fun pins s σ H Q I h => ?_⟩
  refine wpAny_FormattedValue_plain (thn (he.run pins s σ H _ I h) fun v s1 hv => ?_)
  obtain ⟨x, H1, I1, r1, a, dx, fs, rfl, ea, q⟩ := hv
  cases (show v = Value.ref a from r1)
  obtain ⟨mA, J, _⟩ := ins_get I1.hok ea
  obtain ⟨od, J, _⟩ := J.look
  exact PySem.W.kfo_fieldS sb.in1.room.units0 I1.kIn J hfm hm M.1 M.2 (run_own G (F.bindsN b) hx sb.in1 (I1.tok _) q fun y t s' H' I' hq => ⟨.str y, H', I', ⟨t, rfl⟩, hq⟩)
theorem pe_fmtRO (he : PE X e te) (c : Cm X.prog X.w X.K X.mg X.base CX k C "__repr__" qual st ps sp) (b : Bd "__repr__" qual st ps) (hr : Room j X.A) (hk : k + 1 ≤ j) (hx : Passes CX X E) (hz : ∀ (a : Addr) H Q, sp [.ref a] H Q E → sp [.ref a] H (fun v H' => (∀ y, v = .str y → y.length ≤ sizeLine) ∧ Q v H') E) :
    PE X (.FormattedValue e 114 none pos) (tFmtO C sp E te) := by
  obtain ⟨f, fd, F, M, hc, G⟩ := c.ex
  have sb : L2.Sub X (k + 1) X.A := ⟨hr.mono hk, rfl⟩
  refine ⟨fun pins s σ H Q I h => ?_⟩
  refine wpAny_FormattedValue_repr (thn (he.run pins s σ H _ I h) fun v s1 hv => ?_)
  obtain ⟨x, H1, I1, r1, a, dx, fs, rfl, ea, q⟩ := hv
  cases (show v = Value.ref a from r1)
  obtain ⟨mA, J, _⟩ := ins_get I1.hok ea
  obtain ⟨od, J, _⟩ := J.look
  have q2 := hz _ _ _ q
  have sb0 : L2.Sub X k X.A := ⟨(hr.mono hk).mono (Nat.le_succ k), rfl⟩
  have go := run_own (Q := fun y H' => y.length ≤ sizeLine ∧ Q (.str y) H') (R := fun v s' => ∃ y t, v = .str y t ∧ y.length ≤ sizeLine ∧ ∃ H', Inv X pins σ H' s' ∧ Q (.str y) H') G (F.bindsN b) hx sb0 I1 (by
    have e : (fun v H' => (∀ y, v = V.str y → y.length ≤ sizeLine) ∧ ∃ y : Str, v = .str y ∧ Q (.str y) H') = fun v H' => ∃ y : Str, v = .str y ∧ (y.length ≤ sizeLine ∧ Q (.str y) H') := by
      funext v H'
      refine propext ⟨fun ⟨hl, y, e, hq⟩ => ⟨y, e, hl y e, hq⟩, fun ⟨y, e, hl, hq⟩ => ⟨fun z hz => ?_, y, e, hq⟩⟩
      rw [e] at hz
      cases hz
      exact hl
    rw [e] at q2
    exact q2) (fun y t s' H' I' hq => ⟨y, t, rfl, hq.1, H', I', hq.2⟩)
  unfold pyReprObj
  refine wpAny_bind (m := cRoomFor _ _) (wpAny_cRoomFor sb0.room.units0 ?_)
  refine wpAny_bind (wpAny_bind (J.type.here ((PySem.W.looks_findIn I1.kIn M.1).here ?_)))
  show wpAny _ _ (if (some (Value.ref f)).isNone = true then _ else _) _ _ _
  rw [if_neg (by simp)]
  refine wpAny_bind (m := callSpecialIfBound? (.ref a) (Str.ofString "__repr__") _) (PySem.W.ifBound_K I1.kIn J M.1 M.2 (wpAny_mono go (fun r s' hr => ?_) fun _ _ y => y))
  cases r <;> first | exact hr.elim | skip
  obtain ⟨y, t, e1, hl, H', I', hq⟩ := hr
  cases e1
  refine wpAny_bind (wpAny_isInstance (T := "str") (b := true) (typeIs_str _ _ _) isSubtype_str_str (wpAny_pure ?_))
  exact wpAny_formatField_str ⟨.str _, H', I', ⟨_, rfl⟩, hq⟩ ⟨.str _, H', I'.tok _, ⟨_, rfl⟩, hq⟩ hl
end
end MM
namespace MM
open PySem PySem.Spec PySem.Calls PyProof.Rows L2
/-! ### texts that write numbers -/
/-- the place of a sign among the figures, or -1 -/
def fv (c : Nat) : Int := Txt.find FIG ⟨#[c]⟩
theorem fv_dg {d : Nat} (h : d < 16) : fv (dg d) = (d : Int) := fig_find h
theorem fv_cases (c : Nat) : (fv c = -1 ∧ ∀ d, d < 16 → c ≠ dg d) ∨ ∃ d, d < 16 ∧ c = dg d ∧ fv c = (d : Int) := by
  rcases find_spec FIG ⟨#[c]⟩ with h | ⟨i, h1, h2, h3⟩
  · refine .inl ⟨h, fun d hd e => ?_⟩
    have := fv_dg hd
    rw [← e] at this
    unfold fv at this
    omega
  · have hl : (⟨#[c]⟩ : Str).length = 1 := rfl
    rw [hl] at h2 h3
    rw [fig_len] at h2
    have e : c = dg i := by
      have e1 : (Builtin.Str.strSub FIG i (i + 1)).cps.toList = [dg i] := by
        have : ∀ d : Fin 16, (Builtin.Str.strSub FIG d.val (d.val + 1)).cps.toList = [dg d.val] := by decide +kernel
        exact this ⟨i, by omega⟩
      rw [h3] at e1
      have e2 : [c] = [dg i] := e1
      injection e2
    exact .inr ⟨i, by omega, e, h1⟩
def ninL (b : Int) (cs : List Nat) : Int := cs.foldl (fun a c => a * b + fv c) 0
theorem ninL_app (b : Int) (cs : List Nat) (c : Nat) : ninL b (cs ++ [c]) = ninL b cs * b + fv c := by
  unfold ninL
  rw [List.foldl_append]
  rfl
def hasD (cs : List Nat) : Bool := cs.head? == some 45
/-- what stands behind a - -/
def unm (cs : List Nat) : List Nat := if hasD cs then cs.tail else cs
def nin (b : Int) (t : Str) : Int := if hasD t.cps.toList then - ninL b (unm t.cps.toList) else ninL b (unm t.cps.toList)
theorem unm_len (cs : List Nat) : (unm cs).length ≤ cs.length := by
  unfold unm
  split
  · rw [List.length_tail]
    omega
  · exact Nat.le_refl _
theorem len_cps (t : Str) : t.length = t.cps.toList.length := by simp [Str.length]
theorem sub_d (t : Str) : Builtin.Str.subAt t ("-" : Str) 0 = hasD t.cps.toList := by
  have h := sub_iff t ("-" : Str)
  rw [dash_len, dash_cps] at h
  unfold hasD
  cases hc : t.cps.toList with
  | nil =>
    rw [hc] at h
    cases hb : Builtin.Str.subAt t ("-" : Str) 0 with
    | false => rfl
    | true => exact absurd (h.mp hb) (by simp)
  | cons c cs =>
    rw [hc] at h
    simp only [List.take_succ_cons, List.take_zero] at h
    by_cases e : c = 45
    · rw [e] at h ⊢
      rw [h.mpr rfl]
      rfl
    · have : Builtin.Str.subAt t ("-" : Str) 0 = false := by
        cases hb : Builtin.Str.subAt t ("-" : Str) 0 with
        | false => rfl
        | true => exact absurd (by have := h.mp hb; simpa using this) e
      rw [this]
      simp [e]
theorem rp_gen (t : Str) : (Txt.removeprefix t ("-" : Str)).cps.toList = unm t.cps.toList := by
  unfold Txt.removeprefix unm
  rw [sub_d]
  cases h : hasD t.cps.toList with
  | false => rfl
  | true =>
    have hne : t.cps.toList ≠ [] := by
      intro z
      rw [z] at h
      cases h
    have hl := len_cps t
    have hp := List.length_pos_iff.mpr hne
    rw [dash_len]
    show (if (t.length - 1 == t.length) = true then t else Builtin.Str.strSub t 1 t.length).cps.toList = _
    rw [if_neg (by simp; omega)]
    show (t.cps.extract 1 t.length).toList = t.cps.toList.tail
    rw [Array.toList_extract, hl]
    simp
    exact List.take_of_length_le (by simp)
theorem sw_gen (t : Str) : Txt.startswith t ("-" : Str) = hasD t.cps.toList := by
  unfold Txt.startswith
  rw [sub_d, dash_len]
  cases h : hasD t.cps.toList with
  | false => rw [Bool.and_false]
  | true =>
    have hne : t.cps.toList ≠ [] := by
      intro z
      rw [z] at h
      cases h
    have hp := List.length_pos_iff.mpr hne
    have hl := len_cps t
    rw [Bool.and_true]
    exact decide_eq_true (by omega)
def valN (b : Nat) (ds : List Nat) : Nat := ds.foldl (fun a d => a * b + d) 0
theorem valN_app (b : Nat) (ds : List Nat) (d : Nat) : valN b (ds ++ [d]) = valN b ds * b + d := by
  unfold valN
  rw [List.foldl_append]
  rfl
theorem valN_lsd {b : Nat} (hb : 2 ≤ b) (n : Nat) : valN b (lsd b n).reverse = n := by
  unfold valN
  rw [List.foldl_reverse]
  exact lsd_val hb n
/-- a list, from its end -/
theorem rev_ind {P : List Nat → Prop} (h0 : P []) (h1 : ∀ es d, P es → P (es ++ [d])) (ds : List Nat) : P ds := by
  rw [← List.reverse_reverse ds]
  generalize ds.reverse = rs
  induction rs with
  | nil => exact h0
  | cons d rs ih =>
    rw [List.reverse_cons]
    exact h1 _ d ih
theorem ninL_dg (b : Nat) (ds : List Nat) : (∀ d ∈ ds, d < 16) → ninL (b : Int) (ds.map dg) = ((valN b ds : Nat) : Int) := by
  refine rev_ind (P := fun ds => (∀ d ∈ ds, d < 16) → ninL (b : Int) (ds.map dg) = ((valN b ds : Nat) : Int)) (fun _ => rfl) (fun es d ih h => ?_) ds
  rw [List.map_append]
  show ninL (b : Int) (es.map dg ++ [dg d]) = _
  rw [ninL_app, valN_app, ih fun x hx => h x (List.mem_append_left _ hx), fv_dg (h d (by simp))]
  push_cast
  rfl
theorem valN_pos {b : Nat} (hb : 1 ≤ b) (ds : List Nat) : ds ≠ [] → ds.head? ≠ some 0 → 0 < valN b ds := by
  refine rev_ind (P := fun ds => ds ≠ [] → ds.head? ≠ some 0 → 0 < valN b ds) (fun h => absurd rfl h) (fun es d ih _ h => ?_) ds
  rw [valN_app]
  by_cases he : es = []
  · subst he
    have : d ≠ 0 := fun z => h (by rw [z]; rfl)
    omega
  · have h2 : es.head? ≠ some 0 := fun z => h (by
      cases es with
      | nil => exact absurd rfl he
      | cons e es => simpa using z)
    have := Nat.mul_pos (ih he h2) hb
    omega
theorem lsd_back {b : Nat} (hb : 2 ≤ b) (ds : List Nat) : ds ≠ [] → (∀ d ∈ ds, d < b) → (ds.head? = some 0 → ds = [0]) → lsd b (valN b ds) = ds.reverse := by
  refine rev_ind (P := fun ds => ds ≠ [] → (∀ d ∈ ds, d < b) → (ds.head? = some 0 → ds = [0]) → lsd b (valN b ds) = ds.reverse) (fun h => absurd rfl h) (fun es d ih _ hs h0 => ?_) ds
  have hd : d < b := hs d (by simp)
  rw [valN_app, List.reverse_append]
  by_cases he : es = []
  · subst he
    show lsd b (0 * b + d) = [d]
    rw [Nat.zero_mul, Nat.zero_add, lsd_lt hd]
  · have h2 : es.head? ≠ some 0 := fun z => by
      have h3 : (es ++ [d]).head? = some 0 := by
        cases es with
        | nil => exact absurd rfl he
        | cons e es => simpa using z
      have h4 := h0 h3
      have h5 : es.length + 1 = 1 := by
        have := congrArg List.length h4
        simpa using this
      exact he (List.length_eq_zero_iff.mp (by omega))
    have hp := valN_pos (b := b) (by omega) es he h2
    have hge : b ≤ valN b es * b + d := by
      have := Nat.le_mul_of_pos_left b hp
      omega
    rw [lsd_ge hb hge]
    have e1 : (valN b es * b + d) % b = d := by rw [Nat.mul_comm, Nat.mul_add_mod, Nat.mod_eq_of_lt hd]
    have e2 : (valN b es * b + d) / b = valN b es := by rw [Nat.mul_comm, Nat.mul_add_div (by omega), Nat.div_eq_of_lt hd, Nat.add_zero]
    rw [e1, e2, ih he (fun x hx => hs x (List.mem_append_left _ hx)) (fun z => absurd z h2)]
    rfl
theorem numT_cps (b : Nat) (i : Int) : (numT b i).cps.toList = (if i < 0 then [45] else []) ++ (lsd b i.natAbs).reverse.map dg := by
  unfold numT
  split
  · rw [app_cps, dash_cps]
    rfl
  · rfl
theorem num_ds {b : Nat} (hb : 2 ≤ b) (h16 : b ≤ 16) (i : Int) : unm (numT b i).cps.toList = (lsd b i.natAbs).reverse.map dg ∧ hasD (numT b i).cps.toList = decide (i < 0) := by
  have hne : (lsd b i.natAbs).reverse ≠ [] := fun z => lsd_ne b i.natAbs (List.reverse_eq_nil_iff.mp z)
  have sm : ∀ d ∈ (lsd b i.natAbs).reverse, d < 16 := fun d hd => Nat.lt_of_lt_of_le (lsd_small hb _ d (List.mem_reverse.mp hd)) h16
  rw [numT_cps]
  by_cases h : i < 0
  · rw [if_pos h, decide_eq_true h]
    exact ⟨rfl, rfl⟩
  · rw [if_neg h, decide_eq_false h]
    have hd : hasD ((lsd b i.natAbs).reverse.map dg) = false := by
      cases hc : (lsd b i.natAbs).reverse with
      | nil => exact absurd hc hne
      | cons d ds =>
        have := dg_ne (sm d (by rw [hc]; simp))
        show (some (dg d) == some 45) = false
        simp [this]
    refine ⟨?_, hd⟩
    show (if hasD ((lsd b i.natAbs).reverse.map dg) = true then _ else _) = _
    rw [hd]
    rfl
theorem nin_num {b : Nat} (hb : 2 ≤ b) (h16 : b ≤ 16) (i : Int) : nin (b : Int) (numT b i) = i := by
  obtain ⟨h1, h2⟩ := num_ds hb h16 i
  unfold nin
  rw [h1, h2, ninL_dg b _ fun d hd => Nat.lt_of_lt_of_le (lsd_small hb _ d (List.mem_reverse.mp hd)) h16, valN_lsd hb]
  by_cases h : i < 0
  · rw [decide_eq_true h, if_pos rfl]
    omega
  · rw [decide_eq_false h, if_neg Bool.false_ne_true]
    omega
/-- the law's look at the signs -/
structure Wr (b : Nat) (t : Str) : Prop where
  all : ∀ c ∈ unm t.cps.toList, 0 ≤ fv c ∧ fv c < (b : Int)
  ne : unm t.cps.toList ≠ []
  no : ¬ ((unm t.cps.toList).head? = some 48 ∧ unm t.cps.toList ≠ [48])
  nd : t.cps.toList ≠ [45, 48]
theorem wr_num {b : Nat} (hb : 2 ≤ b) (h16 : b ≤ 16) (i : Int) : Wr b (numT b i) := by
  obtain ⟨h1, h2⟩ := num_ds hb h16 i
  have sm : ∀ d ∈ (lsd b i.natAbs).reverse, d < b := fun d hd => lsd_small hb _ d (List.mem_reverse.mp hd)
  have hne : (lsd b i.natAbs).reverse ≠ [] := fun z => lsd_ne b i.natAbs (List.reverse_eq_nil_iff.mp z)
  -- a nought ahead stands alone
  have lead : (lsd b i.natAbs).reverse.head? = some 0 → (lsd b i.natAbs).reverse = [0] := by
    generalize i.natAbs = n
    intro h
    rw [List.head?_reverse] at h
    induction n using Nat.strongRecOn with
    | _ n ih =>
      by_cases hn : n < b
      · rw [lsd_lt hn] at h ⊢
        have : n = 0 := by simpa using h
        rw [this]
        rfl
      · exfalso
        rw [lsd_ge hb (by omega)] at h
        have hnn := lsd_ne b (n / b)
        have h3 : (lsd b (n / b)).getLast? = some 0 := by
          cases hl : lsd b (n / b) with
          | nil => exact absurd hl hnn
          | cons x xs =>
            rw [hl] at h
            simpa using h
        have h4 := ih (n / b) (Nat.div_lt_self (by omega) (by omega)) h3
        have h5 : lsd b (n / b) = [0] := by
          have := congrArg List.reverse h4
          simpa using this
        have h6 := lsd_val hb (n / b)
        rw [h5] at h6
        have h7 : n / b = 0 := by simpa using h6.symm
        have := (Nat.div_eq_zero_iff).mp h7
        omega
  have dz : ∀ d, d < 16 → dg d = 48 → d = 0 := by decide
  refine ⟨?_, ?_, ?_, ?_⟩
  · rw [h1]
    intro c hc
    obtain ⟨d, hd, rfl⟩ := List.mem_map.mp hc
    have := sm d hd
    rw [fv_dg (by omega)]
    omega
  · rw [h1]
    intro z
    exact hne (List.map_eq_nil_iff.mp z)
  · rw [h1]
    rintro ⟨h3, h4⟩
    apply h4
    have h5 : (lsd b i.natAbs).reverse.head? = some 0 := by
      cases hc : (lsd b i.natAbs).reverse with
      | nil => exact absurd hc hne
      | cons d ds =>
        rw [hc] at h3
        have e : dg d = 48 := by simpa using h3
        have := dz d (Nat.lt_of_lt_of_le (sm d (by rw [hc]; simp)) h16) e
        rw [this]
        rfl
    rw [lead h5]
    rfl
  · intro z
    have hD : hasD (numT b i).cps.toList = true := by rw [z]; rfl
    rw [h2] at hD
    have hi : i < 0 := of_decide_eq_true hD
    have h3 : unm (numT b i).cps.toList = [48] := by rw [z]; rfl
    rw [h1] at h3
    have h4 : (lsd b i.natAbs).reverse = [0] := by
      cases hc : (lsd b i.natAbs).reverse with
      | nil => exact absurd hc hne
      | cons d ds =>
        rw [hc] at h3
        have e : dg d = 48 ∧ ds = [] := by simpa using h3
        rw [e.2, dz d (Nat.lt_of_lt_of_le (sm d (by rw [hc]; simp)) h16) e.1]
    have h5 := valN_lsd hb i.natAbs
    rw [h4] at h5
    have : i.natAbs = 0 := by
      rw [← h5]
      show 0 * b + 0 = 0
      omega
    omega
theorem num_wr {b : Nat} (hb : 2 ≤ b) (h16 : b ≤ 16) {t : Str} (w : Wr b t) : t = numT b (nin (b : Int) t) := by
  -- the signs are figures
  obtain ⟨ds, hds, sm⟩ : ∃ ds : List Nat, unm t.cps.toList = ds.map dg ∧ ∀ d ∈ ds, d < b := by
    have all := w.all
    generalize unm t.cps.toList = cs at all
    induction cs with
    | nil => exact ⟨[], rfl, fun d h => by cases h⟩
    | cons c cs ih =>
      obtain ⟨ds, h1, h2⟩ := ih fun x hx => all x (List.mem_cons_of_mem _ hx)
      have hc := all c (by simp)
      rcases fv_cases c with ⟨h3, _⟩ | ⟨d, h3, h4, h5⟩
      · omega
      · refine ⟨d :: ds, by rw [List.map_cons, h1, h4], fun x hx => ?_⟩
        rcases List.mem_cons.mp hx with rfl | hx
        · omega
        · exact h2 x hx
  have ne : ds ≠ [] := fun z => w.ne (by rw [hds, z]; rfl)
  have dz : ∀ d, d < 16 → dg d = 48 → d = 0 := by decide
  have lead : ds.head? = some 0 → ds = [0] := fun h => by
    have h3 : (unm t.cps.toList).head? = some 48 := by
      rw [hds]
      cases ds with
      | nil => exact absurd rfl ne
      | cons d ds =>
        have : d = 0 := by simpa using h
        rw [this]
        rfl
    have h4 : unm t.cps.toList = [48] := Classical.byContradiction fun z => w.no ⟨h3, z⟩
    rw [hds] at h4
    cases ds with
    | nil => exact absurd rfl ne
    | cons d ds =>
      have e : dg d = 48 ∧ ds = [] := by simpa using h4
      rw [e.2, dz d (Nat.lt_of_lt_of_le (sm d (by simp)) h16) e.1]
  have hv : ninL (b : Int) (unm t.cps.toList) = ((valN b ds : Nat) : Int) := by rw [hds, ninL_dg b ds fun d hd => Nat.lt_of_lt_of_le (sm d hd) h16]
  have hl := lsd_back hb ds ne sm lead
  refine str_ext ?_
  rw [numT_cps]
  unfold nin
  rw [hv]
  cases hD : hasD t.cps.toList with
  | true =>
    rw [if_pos rfl]
    have ht : t.cps.toList = 45 :: ds.map dg := by
      have h5 : unm t.cps.toList = t.cps.toList.tail := by unfold unm; rw [hD]; rfl
      cases hc : t.cps.toList with
      | nil =>
        rw [hc] at hD
        cases hD
      | cons c cs =>
        rw [hc] at hD h5
        have : c = 45 := by
          unfold hasD at hD
          simpa using hD
        rw [this]
        congr 1
        rw [← hds, hc, h5]
        rfl
    have hp : 0 < valN b ds := by
      by_cases h0 : ds.head? = some 0
      · exfalso
        have := lead h0
        rw [this] at ht
        exact w.nd ht
      · exact valN_pos (by omega) ds ne h0
    rw [if_pos (by omega), ht]
    have e : (-((valN b ds : Nat) : Int)).natAbs = valN b ds := by omega
    rw [e, hl, List.reverse_reverse]
    rfl
  | false =>
    rw [if_neg Bool.false_ne_true, if_neg (by omega)]
    have ht : t.cps.toList = ds.map dg := by
      rw [← hds]
      unfold unm
      rw [hD]
      rfl
    rw [ht]
    have e : (((valN b ds : Nat) : Int)).natAbs = valN b ds := by omega
    rw [e, hl, List.reverse_reverse]
    rfl
theorem ninL_sz {b : Nat} (h16 : b ≤ 16) (cs : List Nat) : (ninL (b : Int) cs).natAbs < 16 ^ (cs.length + 1) := by
  refine rev_ind (P := fun cs => (ninL (b : Int) cs).natAbs < 16 ^ (cs.length + 1)) (by show 0 < 16; decide) (fun es c ih => ?_) cs
  rw [ninL_app, List.length_append]
  have h1 : (fv c).natAbs ≤ 15 := by
    rcases fv_cases c with ⟨h, _⟩ | ⟨d, h3, h4, h5⟩ <;> omega
  have h2 : (ninL (b : Int) es * (b : Int) + fv c).natAbs ≤ (ninL (b : Int) es).natAbs * b + 15 := by
    have h3 := Int.natAbs_add_le (ninL (b : Int) es * (b : Int)) (fv c)
    rw [Int.natAbs_mul, Int.natAbs_natCast] at h3
    omega
  have h4 : (ninL (b : Int) es).natAbs * b ≤ (ninL (b : Int) es).natAbs * 16 := Nat.mul_le_mul_left _ h16
  have h5 : 16 ^ (es.length + [c].length + 1) = 16 ^ (es.length + 1) * 16 := by
    rw [show es.length + [c].length + 1 = (es.length + 1) + 1 from rfl, Nat.pow_succ]
  rw [h5]
  omega
theorem nin_sz {b : Nat} (h16 : b ≤ 16) {t : Str} {n : Nat} (hl : t.length ≤ n) : (nin (b : Int) t).natAbs < 2 ^ (4 * (n + 1)) := by
  have h1 := ninL_sz h16 (unm t.cps.toList)
  have h2 := unm_len t.cps.toList
  have h3 : 16 ^ ((unm t.cps.toList).length + 1) ≤ 16 ^ (n + 1) := Nat.pow_le_pow_right (by decide) (by rw [len_cps] at hl; omega)
  have h4 : (16 : Nat) ^ (n + 1) = 2 ^ (4 * (n + 1)) := by rw [Nat.pow_mul]
  unfold nin
  split
  · rw [Int.natAbs_neg]
    omega
  · omega
/-! ### == of flat things inside a builtin -/
theorem eqB_flat {X : Cx} : EqB X 0 (fun x y _ b => flatV x = true ∧ flatV y = true ∧ eqV x y = b) := by
  intro A pins s σ H x y u v b sb I rx ry d
  obtain ⟨fx, fy, e⟩ := d
  have q := eqAt_V (A := A) (s := s) rx ry fx fy
  rw [e] at q
  exact q X.prog X.w X.xe _ ⟨rfl, H, I, Ext.rfl'⟩
end MM
namespace MM
open PySem PySem.Spec PyProof.Rows L2
section
variable {J : It} {n : Nat} {G : Hp → Prop} {Y : Nat → Hp → V → Hp → Prop}
/-- a comprehension with a test, whose i-th thing is f i, and there where B i -/
theorem lc_fltV (w : Walk J n G Y) (hY : ∀ i H x H', Y i H x H' → Same H H') {g : TG} {tt : TT} {te : TE} {vs : List Nat} {σ : L2.St} {H : Hp} {D : Addr} {Qd : Hp → Prop} (nD : H D = none) (hn : n < sizeLine) (f : Nat → V) (B : Nat → Bool) (hG : ∀ H', Same H H' → G H')
    (hs : ∀ i x H1 H2 (R : V → Hp → Prop) (N : Hp → Prop), i < n → Same H H1 → Y i H1 x H2 → (B i = true → ∀ H3, Same H2 H3 → R (f i) H3) → (B i = false → ∀ H3, Same H2 H3 → N H3) → g x (wipe σ vs) H2 fun σ2 H3 => wipe σ2 vs = wipe σ vs ∧ tt σ2 H3 fun b H4 => if b = true then te σ2 H4 R else N H4)
    (hd : ∀ H', H' D = some (.lst (((List.range n).filter B).map f)) → Same H H' → Qd H') :
    ∃ W : Nat → Nat → Hp → Prop, (∃ m, W 0 m (L2.upd H D (.lst []))) ∧ ∀ i m H, W i m H →
      (J.stop i H ∧ Qd H) ∨ (J.go i H ∧ ∃ Nx : Hp → Prop, (∀ H', Nx H' → ∃ m', m' < m ∧ W (i + 1) m' H') ∧ ∀ x H', J.yld i H x H' → g x (wipe σ vs) H' fun σ2 H2 => wipe σ2 vs = wipe σ vs ∧ tt σ2 H2 fun b H3 =>
        if b = true then te σ2 H3 fun y H4 => ∃ acc, H4 D = some (.lst acc) ∧ acc.length < sizeLine ∧ Nx (L2.upd H4 D (.lst (acc ++ [y]))) else Nx H3) := by
  refine lc_it w (fun i H' => H' D = some (.lst (((List.range i).filter B).map f)) ∧ Same H H') ⟨upd_same, upd_keep nD (Same.refl H)⟩ (fun i H' _ ⟨_, s⟩ => hG H' s) ?_ (fun H' ⟨e, s⟩ => hd H' e s)
  rintro i x H1 H2 hi ⟨e, s⟩ y
  have s2 := hY _ _ _ _ y
  have el : (((List.range i).filter B).map f).length < sizeLine := by
    rw [List.length_map]
    have := List.length_filter_le B (List.range i)
    rw [List.length_range] at this
    omega
  refine hs i x H1 H2 _ _ hi s y (fun hB H3 s3 => ?_) (fun hB H3 s3 => ?_)
  · refine ⟨_, s3 _ _ (s2 _ _ e), el, ?_, upd_keep nD (s.trans (s2.trans s3))⟩
    rw [upd_same, List.range_succ, List.filter_append, List.map_append]
    simp [hB]
  · refine ⟨?_, s.trans (s2.trans s3)⟩
    rw [s3 _ _ (s2 _ _ e), List.range_succ, List.filter_append]
    simp [hB]
end
/-! ### sorted of pairs of a whole number and a truth -/
section
open SrtO Srt
variable {prog : Program} {w : World} {A : Around} {E : Value → Shared → Prop} {s : Shared}
/-- at v a pair of a whole number and a truth -/
def PrB (h : Heap) (v : Value) (x : Int) (b : Bool) : Prop := ∃ a o t n, v = .ref a ∧ h.get? a = some o ∧ o.cls = .type "tuple" ∧ o.data = .seq #[.int x t, .bool b] n
theorem PrB.keeps {h h' : Heap} {v : Value} {x : Int} {b : Bool} (p : PrB h v x b) (k : ∀ c o, h.get? c = some o → o.cls = .type "tuple" → h'.get? c = some o) : PrB h' v x b := by
  obtain ⟨a, o, t, n, rfl, e, c, d⟩ := p
  exact ⟨a, o, t, n, rfl, k a o e c, c, d⟩
theorem prb_firsts {h : Heap} : ∀ {vs : List Value}, (∀ v ∈ vs, ∃ x b, PrB h v x b) → ∃ fs : List Value, PySem.W.KatTups h vs fs ∧ fs.length = vs.length ∧ ∀ f ∈ fs, ∃ x t, f = Value.int x t
  | [], _ => ⟨[], .nil, rfl, fun _ z => absurd z List.not_mem_nil⟩
  | v :: vs, hp => by
    obtain ⟨fs, k, l, i⟩ := prb_firsts (vs := vs) fun u hu => hp u (List.mem_cons_of_mem _ hu)
    obtain ⟨x, b, a, o, t, n, rfl, ho, hc, hd⟩ := hp v List.mem_cons_self
    refine ⟨.int x t :: fs, .cons ho hc hd rfl k, congrArg Nat.succ l, fun f hf => ?_⟩
    rcases List.mem_cons.mp hf with rfl | hf
    · exact ⟨x, t, rfl⟩
    · exact i f hf
/-- the pair's key -/
def kB (p : Int × Bool) : Int × Int := (p.1, b2i p.2)
theorem prb_cmp {vs : List Value} {k : Value → Int × Bool} (hp : ∀ v ∈ vs, PrB s.heap v (k v).1 (k v).2) : Cmp prog w A s (tuples' true) (fun p => p.1 ∈ vs) (lt2 fun v u => lexB (kB (k v)) (kB (k u))) := by
  intro p q m1 m2
  obtain ⟨a, o, t, n, e, ho, hc, hd⟩ := hp _ m1
  obtain ⟨a', o', t', n', e', ho', hc', hd'⟩ := hp _ m2
  show wpAny (model prog w) A (keyLt' (tuples' true) p.1 q.1) (fun r s' => s' = s ∧ r = lexB (kB (k p.1)) (kB (k q.1))) (fun _ _ => False) s
  generalize (k p.1) = z at *
  generalize (k q.1) = z' at *
  obtain ⟨x, b⟩ := z
  obtain ⟨x', b'⟩ := z'
  rw [e, e']
  refine PySem.W.kat_lt ho hd ho' hd' (PySem.W.kat_cons (SeqAt.EqAt.int_int x t x' t' prog w _ _ (PySem.W.kat_go (fun e1 => ?_) (fun e1 => ?_))))
  · have ex : x = x' := by simpa using e1
    refine PySem.W.kat_yes (PySem.W.kat_cons (SeqAt.EqAt.bool_bool b b' prog w _ _ (PySem.W.kat_go (fun e2 => ?_) (fun e2 => ?_))))
    · have ey : b = b' := by simpa using e2
      refine PySem.W.kat_yes (PySem.W.kat_nil ⟨rfl, ?_⟩)
      show decide (2 < 2) = lexB (x, b2i b) (x', b2i b')
      rw [ex, ey]
      unfold lexB
      rw [if_pos rfl, decide_eq_false (Int.lt_irrefl _)]
      rfl
    · refine PySem.W.kat_no (PySem.W.kat_one _ _ (PyProof.Rows.lt_bool ?_))
      refine (show s = s ∧ decide (b2i b < b2i b') = lexB (x, b2i b) (x', b2i b') from ⟨rfl, ?_⟩)
      unfold lexB
      rw [if_pos ex]
  · have ex : ¬ x = x' := by simpa using e1
    refine PySem.W.kat_no (oneLt_int ⟨rfl, ?_⟩)
    show _ = lexB (x, b2i b) (x', b2i b')
    unfold lexB
    rw [if_neg ex]
theorem prb_sorted {l : Addr} {vs : List Value} {k : Value → Int × Bool} {Q : Value → Shared → Prop} (hl : s.heap.IsList l vs.toArray) (hz : vs.length ≤ sizeLine) (hp : ∀ v ∈ vs, PrB s.heap v (k v).1 (k v).2)
    (hs : Srtd (fun v u => lexB (kB (k v)) (kB (k u))) vs)
    (h : ∀ (h' : Heap) (d : Addr), (∀ b o, s.heap.get? b = some o → h'.get? b = some o) → s.heap.objs.size ≤ d → (∃ n, h'.get? d = some (seqObj "list" vs.toArray n)) → Q (.ref d) { s with heap := h' }) :
    wpAny (model prog w) A (call (.builtin "sorted") [.ref l]) Q E s := by
  have O : Swo fun v u => lexB (kB (k v)) (kB (k u)) := swo_lex fun v => kB (k v)
  refine sorted_ord O hl hz (fun h2 h₁ a ha kk => ?_) fun out so sb => ?_
  · intro h' keep
    have nt : ∀ o, h₁.get? a = some o → o.cls ≠ .type "tuple" := fun o e c => by
      rw [ha] at e
      cases e
      exact absurd (Value.type.inj c) (by decide)
    have hp' : ∀ v ∈ vs, PrB h' v (k v).1 (k v).2 := fun v hm => (hp v hm).keeps fun b o e c => keep b o (fun z => nt o (by rw [← z]; exact (kk b o e).2) c) (kk b o e).2
    obtain ⟨fs, f1, f2, f3⟩ := prb_firsts fun v hm => ⟨_, _, hp' v hm⟩
    refine ⟨tuples' true, fun Q E hq => ?_, prb_cmp hp'⟩
    refine PySem.W.kat_kind (T := .type "int") f1 (by omega) (fun f hm => ?_) (by rfl) ?_
    · obtain ⟨x, t, rfl⟩ := f3 f hm
      exact PySem.W.Looks.now
    · have e : (Value.type "int" != Value.type "tuple") = true := by first | rfl | decide +kernel
      rw [e]
      exact hq
  · obtain rfl : out = vs := stb_uniq O so hs sb
    exact h _ _ (fun b o e => sortedAll_old e) (Nat.le_succ _) (sortedAll_at s.heap out out.toArray)
end
/-- sorted(xs) of pairs that stand sorted already -/
def rSortedIB (K : PySem.W.Frag) : List V → Hp → VK → Prop := fun vs H Q => ∃ (a : Addr) (xs : List V) (k : V → Int × Bool), vs = [V.ref a] ∧ SqL K H a xs ∧ (∀ x ∈ xs, ∃ t, x = V.ref t ∧ H t = some (.tup [.int (k x).1, .bl (k x).2])) ∧
  xs.Pairwise (fun x y => SrtO.lexB (kB (k y)) (kB (k x)) = false) ∧ ∀ p, H p = none → Q (.ref p) (upd H p (.lst xs))
theorem cr_sortedIB {X : Cx} : CallR X (.builtin "sorted") (rSortedIB X.K) := by
  intro pins s σ H vs us Q I r h
  obtain ⟨a, xs, k, rfl, hs, hx, hp, q⟩ := h
  obtain ⟨its, rv, hl, hz⟩ := I.list hs
  obtain ⟨u, rfl, ru⟩ := vals1 r
  obtain rfl : u = Value.ref a := ru
  obtain ⟨e1, e2⟩ := refs_back rv fun x m => by
    obtain ⟨t, e, _⟩ := hx x m
    exact ⟨t, e⟩
  refine prb_sorted (k := fun u => k (backV u)) hl.isList (by rw [← rv.length]; exact hz) (fun v hv => ?_) ?_ fun h' d kp hd hn => ?_
  · obtain ⟨t, rfl⟩ := e2 v hv
    have hm : V.ref t ∈ xs := by rw [e1]; exact List.mem_map.mpr ⟨_, hv, rfl⟩
    obtain ⟨t', e, ht⟩ := hx _ hm
    cases e
    obtain ⟨_, its2, r2, o, ho, hc, n, hd⟩ := I.hok _ _ ht
    obtain ⟨u1, u2, rfl, ri, rj⟩ := vals2 r2
    obtain ⟨t1, rfl⟩ := ri
    cases (show u2 = Value.bool _ from rj)
    exact ⟨t, o, t1, n, rfl, ho, hc, hd⟩
  · rw [e1, List.pairwise_map] at hp
    exact hp
  · obtain ⟨n, hn⟩ := hn
    exact ⟨.ref d, upd H d (.lst xs), I.laid (t' := s.toks) kp hd ⟨hz, its, n, rv, hn⟩, rfl, q d (I.hok.fresh hd)⟩
end MM
namespace MM
open PySem PySem.Spec PySem.Calls PyProof.Rows L2
open AutoSeq1 (wpAny_loadPart')
open GQ (FinOf call_here ListI)
/-! ### lists of instances, != -/
section
variable {prog : Program} {w : World} {A : Around} {R : Result → Shared → Prop}
theorem ne_loop (l b : Addr) (N : Nat) (Iv : Nat → Shared → Prop) (hl : ListI prog w A (fun e s' => R (.error e) s') l b N Iv) (fin : ∀ s, Iv N s → R (.ok (.ret (.bool false))) s) (d : Nat) :
    ∀ i : Nat, N - i = d → i ≤ N → ∀ s, Iv i s → wpAny (model prog w) A.in1 (Builtin.«list.__eq__.loop» ⟨[.ref l, .ref b, rawInt i, rawInt 3], []⟩) (FinOf prog w A R) (fun e s' => R (.error e) s') s := by
  induction d with
  | zero =>
    intro i hd hi s h
    obtain ⟨xs, ys, n, m, gx, gy, zx, zy, _⟩ := hl _ _ h
    have hR : R (.ok (.ret (.bool false))) s := fin s ((show i = N by omega) ▸ h)
    obtain ⟨hp, g, dd, tk, os⟩ := s
    wp_walk using wpAny_loadPart' gx, wpAny_loadPart' gy
    rw [show xs[((i : Nat) : Int).toNat]? = none by simp; omega, show ys[((i : Nat) : Int).toNat]? = none by simp; omega]
    wp_walk using wpAny_loadPart' gx, wpAny_loadPart' gy
    show R (.ok (.ret (.bool (xs.size != ys.size)))) _
    rw [zx, zy]
    simpa using hR
  | succ d ih =>
    intro i hd hi s h
    obtain ⟨xs, ys, n, m, gx, gy, zx, zy, turn⟩ := hl _ _ h
    have l1 : i < xs.size := by omega
    have l2 : i < ys.size := by omega
    have ht := turn l1 l2
    obtain ⟨hp, g, dd, tk, os⟩ := s
    wp_walk using wpAny_loadPart' gx, wpAny_loadPart' gy
    have ec : ((i : Int) + 1) = ((i + 1 : Nat) : Int) := by omega
    rw [show xs[((i : Nat) : Int).toNat]? = some xs[i] by simp [l1], show ys[((i : Nat) : Int).toNat]? = some ys[i] by simp [l2]]
    refine wpAny_bind (wpAny_mono ht (fun r s2 q2 => ?_) fun _ _ x => x)
    obtain ⟨hr, q2⟩ := q2
    subst hr
    have again := ih (i + 1) (by omega) (by omega) s2 q2
    obtain ⟨hp2, g2, d2, tk2, os2⟩ := s2
    wp_walk
    rw [ec]
    exact ⟨plainId_quiet MeetsSeq3.plain_eq_loop _, codeAny_builtin MeetsSeq3.entry_eq_loop (by
      rw [Around.under_plainId MeetsSeq3.plain_eq_loop _]
      exact again)⟩
theorem list_ne (l b : Addr) (N : Nat) (Iv : Nat → Shared → Prop) (hl : ListI prog w A (fun e s' => R (.error e) s') l b N Iv) (fin : ∀ s, Iv N s → R (.ok (.ret (.bool false))) s) {s : Shared} (h : Iv 0 s) :
    wpAny (model prog w) A.in1 (Builtin.«list.__ne__» ⟨[.ref l, .ref b], []⟩) (FinOf prog w A R) (fun e s' => R (.error e) s') s := by
  obtain ⟨xs, ys, n, m, gx, gy, zx, zy, _⟩ := hl _ _ h
  have first := ne_loop (A := A) (R := R) l b N Iv hl fin _ 0 rfl (Nat.zero_le _) s h
  obtain ⟨hp, g, d, tk, os⟩ := s
  have f3 := AutoSeq1.sub_list_list
  have nz : ¬ (xs.size != ys.size) = true := by simp [zx, zy]
  wp_walk using wpAny_loadPart' gx, wpAny_loadPart' gy
  exact ⟨plainId_quiet MeetsSeq3.plain_eq_loop _, codeAny_builtin MeetsSeq3.entry_eq_loop (by
    rw [Around.under_plainId MeetsSeq3.plain_eq_loop _]
    exact first)⟩
end
theorem op_neLG {X : Cx} {n : Nat} {D : Eqv} (hD : Mon D) (h : EqG X n D) (hr : Room (n + 1) X.A) : OpR X (compareOp .NotEq) (rNeG (DList D)) := by
  intro pins s σ H x y v u Q I rx ry hq
  obtain ⟨⟨a, b, xs, ys, rfl, rfl, ha, hb, p⟩, q⟩ := hq
  cases (show v = Value.ref a from rx)
  cases (show u = Value.ref b from ry)
  have sb : L2.Sub X (n + 1) X.A := ⟨hr, rfl⟩
  have hL : ListI X.prog X.w X.A X.xe a b xs.length (fun _ s' => LoopI X pins σ H s') := fun i s' z => by
    obtain ⟨H1, I1, e1⟩ := id z
    obtain ⟨_, its, k, r, e⟩ := I1.hok a _ (e1 _ _ ha)
    obtain ⟨_, its2, k2, r2, e2⟩ := I1.hok b _ (e1 _ _ hb)
    exact ⟨its.toArray, its2.toArray, k, k2, e, e2, by rw [List.size_toArray, ← r.length], by rw [List.size_toArray, ← r2.length, ← p.1], fun h1 h2 => turnG hD h sb p r r2 i h1 h2 s' z⟩
  obtain ⟨xa, ya, n1, n2, g1, g2, _⟩ := hL 0 s ⟨H, I, Ext.rfl'⟩
  show wpAny (model X.prog X.w) X.A (richCompare .NotEq (.ref a) (.ref b)) (EP X pins σ Q) X.xe s
  refine wpAny_richCompare_same_room (op := .NotEq) ⟨_, g1, rfl⟩ ⟨_, g2, rfl⟩ PySem.F.slot_list_ne (call_here PySem.F.slot_list_ne ⟨_, g1, rfl⟩ PySem.F.entry_list_ne (PySem.F.args_list_ne_2 _ _) ?_) sb.room.units0
  refine list_ne (R := wants (fun v s' => v ≠ .notImplemented ∧ EP X pins σ Q v s') X.xe) a b xs.length _ hL (fun s' z => ⟨(fun x => nomatch x), ?_⟩) ⟨H, I, Ext.rfl'⟩
  obtain ⟨H', I', e'⟩ := z
  exact ⟨.bl false, H', I', rfl, q H' e'⟩
end MM
namespace MM
open PySem PySem.Spec PySem.Calls PyProof.Rows L2
open AutoSeq1 (wpAny_loadPart')
open GQ (FinOf call_here)
/-! ### lists whose first things differ, == -/
section
variable {prog : Program} {w : World} {A : Around} {R : Result → Shared → Prop}
def ListF (prog : Program) (w : World) (A : Around) (E : Value → Shared → Prop) (l b : Addr) (N : Nat) (I : Shared → Prop) : Prop :=
  ∀ s, I s → ∃ (xs ys : Array Value) (n m : Nat), s.heap.get? l = some { cls := .type "list", data := .seq xs n } ∧ s.heap.get? b = some { cls := .type "list", data := .seq ys m } ∧ xs.size = N ∧ ys.size = N ∧
    ∀ (h1 : 0 < xs.size) (h2 : 0 < ys.size), wpAny (model prog w) A.in1 (eqBool xs[0] ys[0]) (fun r s' => r = false ∧ I s') E s
theorem eq_loopF (l b : Addr) (N : Nat) (hN : 0 < N) (Iv : Shared → Prop) (hl : ListF prog w A (fun e s' => R (.error e) s') l b N Iv) (fin : ∀ s, Iv s → R (.ok (.ret (.bool false))) s) {s : Shared} (h : Iv s) :
    wpAny (model prog w) A.in1 (Builtin.«list.__eq__.loop» ⟨[.ref l, .ref b, rawInt 0, rawInt 2], []⟩) (FinOf prog w A R) (fun e s' => R (.error e) s') s := by
  obtain ⟨xs, ys, n, m, gx, gy, zx, zy, turn⟩ := hl _ h
  have l1 : 0 < xs.size := by omega
  have l2 : 0 < ys.size := by omega
  have ht := turn l1 l2
  obtain ⟨hp, g, dd, tk, os⟩ := s
  wp_walk using wpAny_loadPart' gx, wpAny_loadPart' gy
  rw [show xs[(0 : Int).toNat]? = some xs[0] by simp [l1], show ys[(0 : Int).toNat]? = some ys[0] by simp [l2]]
  refine wpAny_bind (wpAny_mono ht (fun r s2 q2 => ?_) fun _ _ x => x)
  obtain ⟨hr, q2⟩ := q2
  subst hr
  obtain ⟨xs2, ys2, n2, m2, gx2, gy2, zx2, zy2, _⟩ := hl _ q2
  have hR := fin _ q2
  have k1 : 0 < xs2.size := by omega
  have k2 : 0 < ys2.size := by omega
  obtain ⟨hp2, g2, d2, tk2, os2⟩ := s2
  wp_walk using wpAny_loadPart' gx2, wpAny_loadPart' gy2
  rw [show xs2[(0 : Int).toNat]? = some xs2[0] by simp [k1], show ys2[(0 : Int).toNat]? = some ys2[0] by simp [k2]]
  wp_walk
  exact hR
theorem list_eqF (l b : Addr) (N : Nat) (hN : 0 < N) (Iv : Shared → Prop) (hl : ListF prog w A (fun e s' => R (.error e) s') l b N Iv) (fin : ∀ s, Iv s → R (.ok (.ret (.bool false))) s) {s : Shared} (h : Iv s) :
    wpAny (model prog w) A.in1 (Builtin.«list.__eq__» ⟨[.ref l, .ref b], []⟩) (FinOf prog w A R) (fun e s' => R (.error e) s') s := by
  obtain ⟨xs, ys, n, m, gx, gy, zx, zy, _⟩ := hl _ h
  have first := eq_loopF (A := A) (R := R) l b N hN Iv hl fin h
  obtain ⟨hp, g, d, tk, os⟩ := s
  have f3 := AutoSeq1.sub_list_list
  have nz : ¬ (xs.size != ys.size) = true := by simp [zx, zy]
  wp_walk using wpAny_loadPart' gx, wpAny_loadPart' gy
  exact ⟨plainId_quiet MeetsSeq3.plain_eq_loop _, codeAny_builtin MeetsSeq3.entry_eq_loop (by
    rw [Around.under_plainId MeetsSeq3.plain_eq_loop _]
    exact first)⟩
end
/-- x == y, lists of one length whose first things are not == -/
def rEqLF (D : V → V → Hp → Bool → Prop) : R2 := fun x y H Q => ∃ (a b : Addr) (p q : V) (xs ys : List V), x = .ref a ∧ y = .ref b ∧ H a = some (.lst (p :: xs)) ∧ H b = some (.lst (q :: ys)) ∧ xs.length = ys.length ∧ (∀ H', Ext H H' → D p q H' false) ∧ ∀ H', Ext H H' → Q (.bl false) H'
theorem op_eqLF {X : Cx} {n : Nat} {D : V → V → Hp → Bool → Prop} (h : EqB X n D) (hr : Room (n + 1) X.A) : OpR X (compareOp .Eq) (rEqLF D) := by
  intro pins s σ H x y v u Q I rx ry hq
  obtain ⟨a, b, p, q, xs, ys, rfl, rfl, ha, hb, hlen, hD, k⟩ := hq
  cases (show v = Value.ref a from rx)
  cases (show u = Value.ref b from ry)
  have sb : L2.Sub X (n + 1) X.A := ⟨hr, rfl⟩
  have hL : ListF X.prog X.w X.A X.xe a b (xs.length + 1) (fun s' => LoopI X pins σ H s') := fun s' z => by
    obtain ⟨H1, I1, e1⟩ := id z
    obtain ⟨_, its, k, r, e⟩ := I1.hok a _ (e1 _ _ ha)
    obtain ⟨_, its2, k2, r2, e2⟩ := I1.hok b _ (e1 _ _ hb)
    refine ⟨its.toArray, its2.toArray, k, k2, e, e2, by rw [List.size_toArray, ← r.length]; rfl, by rw [List.size_toArray, ← r2.length, List.length_cons, hlen], fun h1 h2 => ?_⟩
    obtain ⟨p', hp', rp⟩ := get_arr r h1
    obtain ⟨q', hq', rq⟩ := get_arr r2 h2
    cases hp'
    cases hq'
    refine wpAny_mono (h X.A.in1 pins s' σ H1 _ _ _ _ false sb.in1 I1 rp rq (hD H1 e1)) (fun c s2 z2 => ?_) fun _ _ y => y
    obtain ⟨hc, H2, I2, x2⟩ := z2
    exact ⟨hc, H2, I2, e1.trans x2⟩
  obtain ⟨xa, ya, n1, n2, g1, g2, _⟩ := hL s ⟨H, I, Ext.rfl'⟩
  show wpAny (model X.prog X.w) X.A (richCompare .Eq (.ref a) (.ref b)) (EP X pins σ Q) X.xe s
  refine wpAny_richCompare_same_room (op := .Eq) ⟨_, g1, rfl⟩ ⟨_, g2, rfl⟩ PySem.F.slot_list_eq (call_here PySem.F.slot_list_eq ⟨_, g1, rfl⟩ PySem.F.entry_list_eq (PySem.F.args_list_eq_2 _ _) ?_) sb.room.units0
  refine list_eqF (R := wants (fun v s' => v ≠ .notImplemented ∧ EP X pins σ Q v s') X.xe) a b (xs.length + 1) (Nat.succ_pos _) _ hL (fun s' z => ⟨(fun x => nomatch x), ?_⟩) ⟨H, I, Ext.rfl'⟩
  obtain ⟨H', I', e'⟩ := z
  exact ⟨.bl false, H', I', rfl, k H' e'⟩
end MM
namespace MM
open PySem PySem.Spec PySem.Calls PyProof.Rows L2
/-! ### len(x) of an instance with its own __len__ -/
section
variable {prog : Program} {w : World} {A : Around} {E : Value → Shared → Prop} {s : Shared} {K : PySem.W.Frag} {x C f : Addr} {ox : Obj} {od : Option Obj}
open PySem.Builtin in
theorem len_fn {Q : Value → Shared → Prop} (X : K.In s.heap) (I : PySem.W.InstAt s.heap x ox C od) (hs : PySem.W.findIn K (.ref C) "__len__" = some (some (.ref f))) (hf : PySem.W.isFn K (.ref f) = true)
    (hcall : wpAny (model prog w) A.in1 (call (.ref f) [.ref x]) (fun r s' => ∃ n u, r = .int n u ∧ 0 ≤ n ∧ n < 2 ^ 63 ∧ Q (.int n s'.toks) { s' with toks := s'.toks + 1 }) E s) :
    wpAny (model prog w) A (call (.builtin "len") [.ref x]) Q E s := by
  refine PySem.Calls.call_function_entry kind_len plain_len entry_len (args_len1 _) ?_
  unfold Builtin.«len»
  refine wpAny_bind (m := oneArg "len" _) (wpAny_pure ?_)
  refine wpAny_bind (m := callSpecial? (.ref x) (Str.ofString "__len__")) (PySem.W.special_fn X I hs (beq_iff_eq.mp hf) (wpAny_mono hcall (fun r s' hr => ?_) fun _ _ y => y))
  obtain ⟨n, u, rfl, h0, h1, hq⟩ := hr
  refine wpAny_bind (wpAny_holding (wpAny_pure ?_))
  refine wpAny_bind (wpAny_letGo ?_)
  show wpAny _ _ (if n < 0 then _ else _) _ _ _
  rw [if_neg (by omega)]
  show wpAny _ _ (if n ≥ 2 ^ 63 then _ else _) _ _ _
  rw [if_neg (by omega)]
  exact wpAny_bind (wpAny_mkInt (wpAny_pure ⟨_, rfl, hq⟩))
end
def rLenO (C : Addr) (sp : Sp) (E : XK) : List V → Hp → VK → Prop := fun xs H Q => ∃ (a dx : Addr) (fs : List (Str × V)), xs = [.ref a] ∧ H a = some (.ins C dx fs) ∧ sp [.ref a] H (fun v H' => ∃ n : Nat, v = .int n ∧ n < 2 ^ 60 ∧ Q (.int n) H') E
theorem call_lenO {X : Cx} {CX : CXT} {k : Nat} {C f : Addr} {fd : FuncData} {ps : List Str} {sp : Sp} {E : XK} (F : FnOk X.prog X.w X.K X.mg X.base CX k f fd ps sp) (hs : PySem.W.findIn X.K (.ref C) "__len__" = some (some (.ref f))) (hf : PySem.W.isFn X.K (.ref f) = true) (hb : Binds X.K fd ps []) (hx : Passes CX X E) (hr : Room (k + 1) X.A) : CallR X (.builtin "len") (rLenO C sp E) := by
  intro pins s σ H xs us Q I r h
  obtain ⟨a, dx, fs, rfl, ha, hq⟩ := h
  obtain ⟨u, rfl, r1⟩ := vals1 r
  cases (show u = Value.ref a from r1)
  obtain ⟨mA, J, _⟩ := ins_get I.hok ha
  obtain ⟨od, J, _⟩ := J.look
  have hr1 : Room k X.A.in1 := hr.in1
  have hl : ([Value.ref a] ++ []).length = ps.length := (show ([V.ref a] : List V).length = _ from F.len _ _ _ _ hq)
  refine len_fn I.kIn J hs hf (wpAny_call (codeAny_mono (F.run X.A.in1 X.stack s H ⟨[.ref a], []⟩ [.ref a] [.ref a] _ E hr1 I.env0.in1 (hb s [.ref a] I.kIn hl) (.cons rfl .nil) hq) fun res s' hres => ?_))
  match res, hres with
  | .error er, hres => exact hx pins σ H s er s' I hres
  | .ok .next, hres => exact hres.elim
  | .ok .brk, hres => exact hres.elim
  | .ok .cont, hres => exact hres.elim
  | .ok (.ret u), hres =>
    obtain ⟨z, H', I', rz, n, rfl, hn, q⟩ := I.after hres
    obtain ⟨t, rfl⟩ := rz
    refine ⟨(n : Int), t, rfl, by omega, by omega, .int n, H', I'.tok _, ⟨_, rfl⟩, q⟩
theorem call_lenC {X : Cx} {CX : CXT} {k : Nat} {C : Addr} {qual : Str} {st : Stmt} {ps : List Str} {sp : Sp} {E : XK} (c : Cm X.prog X.w X.K X.mg X.base CX k C "__len__" qual st ps sp) (b : Bd "__len__" qual st ps) (hr : Room (k + 1) X.A) (hx : Passes CX X E) :
    CallR X (.builtin "len") (rLenO C sp E) := by
  obtain ⟨f, fd, F, M, hc, G⟩ := c.ex
  exact call_lenO G M.1 M.2 (F.bindsN b) hx hr
/-! ### classes whose __init__ has no defaults -/
theorem di_mk0 {K : PySem.W.Frag} {mg : Str → Option Value} {x qual : Str} {st : Stmt} {f C : Addr} {oc kV doc pm cdv ct : Value} {od an : Option Addr} {osl : Array (Option Value)} (hC : mg x = some (.ref C)) (a : PySem.W.findIn K (.ref C) "__init__" = some (some (.ref f))) (i : PySem.W.isFn K (.ref f) = true)
    (l : K.lookup f = some ⟨oc, od, .func (PySem.W.fnOf "__init__" qual (defArgs st) (defBody st) (defScope st) .none kV doc pm an cdv ct), osl⟩) (c : PySem.W.codeIn K cdv qual = true) (k : PySem.W.keepIn K (.ref f) = true)
    (mk : PySem.W.makesIn K C = true) (kc : PySem.W.keepIn K (.ref C) = true) : Di K mg x C qual st [] :=
  ⟨f, _, ⟨⟨oc, od, .none, kV, doc, pm, an, cdv, ct, osl, rfl, l, c, .inl ⟨rfl, rfl⟩, .inl rfl⟩, k⟩, ⟨mk, a, i, kc⟩, hC⟩
section
variable {X : Cx} {CX : CXT} {k j n d : Nat} {C : Addr} {x m qual : Str} {st : Stmt} {sp : Sp} {ps ks : List Str} {E : XK} {p pos apos : Pos} {e o : Expr} {es : List Expr} {kws : List Keyword} {ta : TE} {t tk : TA}
/-- C(e, ..), all by place -/
theorem pe_ciN (c : Ci X.prog X.w X.K X.mg X.base CX k x C qual st [] ps sp) (b : Bd "__init__" qual st ps) (hr : Room j X.A) (hk : k + 1 ≤ j) (hx : Passes CX X E) (hg : Gl X x) (ha : PA X (e :: es) t)
    (hdb : (x == ("__debug__" : Str)) = false := by decide) (he : starEach (e :: es) X.env = (false, eval e X.env) :: starEach es X.env := by rfl) (hpl : (backTo pos (starEach es X.env)).any (·.1) = false := by rfl) :
    PE X (.Call (.Name x p) (e :: es) [] pos) (tMake C sp [] E t) := by
  obtain ⟨f, fd, F, M, hm, G⟩ := c.ex
  exact pe_make M G (hr.mono hk) hg hm (F.bindsN b) .nil hx ha hdb he hpl
/-- o.m() -/
theorem pe_cm0 {pl : Sem Bool} (c : Cm X.prog X.w X.K X.mg X.base CX k C m qual st ps sp) (b : Bd m qual st ps) (hr : Room j X.A) (hk : k ≤ j) (hx : Passes CX X E) (he : PE X o ta)
    (ht : eval (.Call (.Attribute o m apos) [] [] pos) X.env = (do
      let ov ← eval o X.env
      standAt apos.atName
      let (f, first) ← holding [ov] (getMethod ov m pl)
      callWith pos f first (backTo pos (starEach [] X.env)) (backToKw pos (keywordEach [] X.env))) := by rfl) :
    PE X (.Call (.Attribute o m apos) [] [] pos) (tMeth C m sp [] E ta tNil) := by
  obtain ⟨f, fd, F, M, hc, G⟩ := c.ex
  exact pe_meth0 (pl := pl) he hc M G (hr.mono hk) (F.bindsN b) .nil hx ht
/-- C(k = v, ..), all by keywords -/
theorem pe_ciNK {g : {α : Type} → List α → List α → List α} (c : Ci X.prog X.w X.K X.mg X.base CX k x C qual st [] ps sp) (b : Kbm "__init__" qual st 1 ks ps g) (hrel : ∀ {vs : List V} {us : List Value} {zs : List V} {ws : List Value}, Vals vs us → Vals zs ws → Vals (g vs zs) (g us ws)) (hr : Room j X.A) (hk : k + 1 ≤ j) (hx : Passes CX X E) (hg : Gl X x) (hkw : PK X kws tk)
    (hall : (backToKw pos (keywordEach kws X.env)).all (·.1.isSome) = true := by rfl) (hks : (backToKw pos (keywordEach kws X.env)).filterMap (·.1) = ks := by rfl) (hdb : (x == ("__debug__" : Str)) = false := by decide)
    (hpl : ((backTo pos (starEach [] X.env)).any (·.1) || (backToKw pos (keywordEach kws X.env)).any (·.1.isNone)) = false := by rfl) :
    PE X (.Call (.Name x p) [] kws pos) (tMakeK C 0 ks.length sp g E tNil tk) := by
  obtain ⟨f, fd, F, M, hm, G⟩ := c.ex
  obtain ⟨kV, doc, pm, an, cdv, ct, rfl⟩ := FunD.none F
  exact pe_makeK0 (g := g) (gV := g) M G (hr.mono hk) hg hm ⟨fun s us ws _ l1 l2 => .of_eq (b.bind kV doc pm an cdv ct us ws l1 l2), hrel⟩ hx hkw hall hks hdb hpl
end
end MM
/-! len(set(xs)) of a list of any texts: how many unlike ones there are -/
namespace MM
open PySem PySem.Spec PyProof.Rows L2
/-- the unlike texts among the first i -/
def nun (xs : List Str) : Nat → Nat
  | 0 => 0
  | i + 1 => if (xs.take i).any (· == xs.getD i Str.empty) then nun xs i else nun xs i + 1
theorem nun_le (xs : List Str) : ∀ i, nun xs i ≤ i
  | 0 => Nat.le_refl 0
  | i + 1 => by
    have := nun_le xs i
    unfold nun
    split <;> omega
theorem take_one {xs : List Str} {i : Nat} (h : i < xs.length) : xs.take (i + 1) = xs.take i ++ [xs.getD i Str.empty] := by
  rw [List.take_succ, List.getD_eq_getElem?_getD, List.getElem?_eq_getElem h] <;> rfl
section
variable {prog : Program} {w : World} {A : Around} {R : Result → Shared → Prop} {I S : Addr} {fp wr : List Addr} {G : Array GenState → Array GenState → Prop} {n : Nat} {P : Nat → Value → Prop} {St : Nat → Shared → Prop}
theorem set_keep {h h' : Heap} {T : Str → Bool} {m : Nat} (q : h.SetOf (PySem.strKind prog w) S T m) (k : ∀ o, h.get? S = some o → h'.get? S = some o) : h'.SetOf (PySem.strKind prog w) S T m :=
  let ⟨o, es, ep, t, ho, z⟩ := q
  ⟨o, es, ep, t, k o ho, z⟩
theorem set_texts (W : WalksS prog w A.in1 I fp wr G n P St) (hS : S ∉ fp) (xs : List Str) (hl : xs.length = n) (hb : n < scanBound)
    (hv : ∀ i v, P i v → ∃ t, v = .str (xs.getD i Str.empty) t) (d : Nat) : ∀ (i : Nat) (s : Shared), n - i = d → i ≤ n → St i s →
      s.heap.SetOf (PySem.strKind prog w) S (fun k => (xs.take i).any (· == k)) (nun xs i) →
      (∀ s', Moved (S :: wr) G s s' → s'.heap.SetOf (PySem.strKind prog w) S (fun k => (xs.take n).any (· == k)) (nun xs n) → R (.ok (.ret .none)) s') →
      codeAny (model prog w) A (.builtin "set.update.loop" ⟨[.ref S, .ref I], []⟩) R s := by
  have hw : S ∉ wr := fun h => hS (W.sub _ h)
  have up : ∀ b ∈ wr, b ∈ S :: wr := fun b hb => List.mem_cons_of_mem _ hb
  induction d with
  | zero =>
    intro i s hd hi hst hs hR
    obtain rfl : i = n := by omega
    refine codeAny_builtin PyProof.Rows.F.entry_set_update_loop ?_
    rw [Around.under_plainId PyProof.Rows.F.plain_set_update_loop _]
    show wpAny _ A.in1 (pyNext (.ref I) >>= _) _ _ s
    refine wpAny_bind (W.done s _ _ hst fun s' hm => ?_)
    show wpAny _ A.in1 (ret Value.none) _ _ s'
    exact wpAny_pure (hR s' (hm.mono up) (set_keep hs fun o ho => hm.heap S o hw ho))
  | succ d ih =>
    intro i s hd hi hst hs hR
    have lt : i < n := by omega
    refine codeAny_builtin PyProof.Rows.F.entry_set_update_loop ?_
    rw [Around.under_plainId PyProof.Rows.F.plain_set_update_loop _]
    show wpAny _ A.in1 (pyNext (.ref I) >>= _) _ _ s
    refine wpAny_bind (W.item i s _ _ lt hst fun v s' hP hst' hm => ?_)
    obtain ⟨t, rfl⟩ := hv i v hP
    have hs' := set_keep (h' := s'.heap) hs fun o ho => hm.heap S o hw ho
    show wpAny _ A.in1 (holding [Value.str (xs.getD i Str.empty) t] (setAdd S (.str (xs.getD i Str.empty) t)) >>= _) _ _ s'
    refine wpAny_bind (wpAny_holding ?_)
    unfold setAdd
    refine wpAny_holding (wpAny_bind ((PySem.strKind prog w).pyHash (k := xs.getD i Str.empty) (strKind_is _ _ _ _) ?_))
    have nl := nun_le xs i
    refine wpAny_setAddHashed_of (knd := PySem.strKind prog w) (s := { s' with toks := s'.toks + 1 }) (strKind_is _ _ _ _) rfl hs' (by omega) fun h' sb new => ?_
    have new' : h'.SetOf (PySem.strKind prog w) S (fun k => (xs.take (i + 1)).any (· == k)) (nun xs (i + 1)) :=
      SetOf_congr new (fun k => by
        rw [take_one (by omega), List.any_append]
        simp only [List.any_cons, List.any_nil, Bool.or_false]
        congr 1
        by_cases e : k = xs.getD i Str.empty
        · subst e; simp
        · rw [decide_eq_false e]
          exact (beq_eq_false_iff_ne.mpr fun h => e h.symm).symm) rfl
    refine wpAny_pure ⟨plainId_quiet PyProof.Rows.F.plain_set_update_loop _, ih (i + 1) _ (by omega) lt (W.frame _ s' _ _ hst' (Nat.le_succ _) fun b hb o e => ?_) new' fun s'' hm' hs'' => ?_⟩
    · rw [sb.2 b (fun h : b = S => hS (by rw [← h]; exact hb))]
      exact e
    · refine hR s'' (Moved.trans W.gtrans ((hm.mono up).then_heap (Nat.le_succ _) fun b o hb e => ?_) hm') hs''
      rw [sb.2 b (fun h : b = S => hb (by rw [h]; exact List.mem_cons_self))]
      exact e
end
end MM
namespace MM
open PySem PySem.Spec PyProof.Rows L2
section
variable {prog : Program} {w : World} {A : Around} {E : Value → Shared → Prop} {s : Shared}
/-- the new set that set(xs) lays -/
def bareSet (led : Bool) : Obj := { cls := .type "set", dict := none, data := .set #[] 0 (.fresh 0 0 led) }
/-- what set.__init__ leaves -/
def Filled (prog : Program) (w : World) (s s2 : Shared) (xs : List Str) : Prop := ∃ h' tk, s2 = { s with heap := h', toks := tk } ∧
  h'.SetOf (PySem.strKind prog w) s.heap.objs.size (fun k => xs.any (· == k)) (nun xs xs.length) ∧ ∀ b o, b < s.heap.objs.size → s.heap.get? b = some o → h'.get? b = some o
theorem init_texts {l : Addr} {items : Array Value} {xs : List Str} (led : Bool) (hh : A.handled = none) (hl : s.heap.IsList l items) (hi : StrsAre items.toList xs) (hb : xs.length < scanBound) {Q : Fin → Shared → Prop} (h : ∀ s2, Filled prog w s s2 xs → Q (.done (.ret .none)) s2) :
    wpAny (model prog w) A (Builtin.«set.__init__» ⟨[.ref s.heap.objs.size, .ref l], []⟩) Q E { s with heap := s.heap.push (bareSet led) } := by
  obtain ⟨⟨cls, od, dt, sl⟩, ho, hc, nl, hd⟩ := hl
  simp only at hc hd
  subst hc
  subst hd
  have lS : l < s.heap.objs.size := Heap.lt_size ho
  have hS : (s.heap.push (bareSet led)).get? s.heap.objs.size = some (bareSet led) := Heap.get?_push_size _ rfl
  have ho' : (s.heap.push (bareSet led)).get? l = some { cls := .type "list", dict := od, data := .seq items nl, slots := sl } := Heap.get?_push_of_some _ ho
  have il : (s.heap.push (bareSet led)).IsList l items := ⟨_, ho', rfl, nl, rfl⟩
  have h1 := PySem.F.sub_list_set
  have h2 := PySem.F.sub_list_frozenset
  have h3 : (Value.type "list" == Value.type "dict") = false := by decide
  unfold Builtin.«set.__init__» noKeywords Builtin.Frozenset.updateFrom
  generalize hPI : pyIter = PI
  wp_walk
  subst hPI
  refine wpAny_pyIter_list il ?_
  refine wpAny_bind (wpAny_runValue ?_)
  have sz : xs.length = items.size := by rw [← StrsAre.len_eq hi, Array.length_toList]
  have ne : l ≠ (s.heap.push (bareSet led)).objs.size := by
    rw [Heap.size_push]
    exact Nat.ne_of_lt (Nat.lt_succ_of_lt lS)
  have out : s.heap.objs.size ∉ [(s.heap.push (bareSet led)).objs.size, l] := by
    rw [Heap.size_push]
    simp only [List.mem_cons, List.not_mem_nil, or_false, not_or]
    exact ⟨Nat.ne_of_lt (Nat.lt_succ_self _), Nat.ne_of_gt lS⟩
  have hh3 : A.in1.handled = none := by simp [hh]
  refine set_texts ((Walks.list hh3 _ l ne items).toS) out xs sz (by omega) (fun i v hv => SS.strs_at hi i v (by rw [Array.getElem?_toList]; exact hv)) (items.size - 0) 0 _ (by omega) (Nat.zero_le _)
    (by exact ⟨⟨_, Heap.get?_push_size _ rfl, rfl, rfl⟩, il.push _⟩) ?_ ?_
  · exact SetOf_congr ((setObjOf_fresh (knd := PySem.strKind prog w) led).setOf (Heap.get?_push_of_some _ hS) (by unfold scanBound; omega)) (fun _ => rfl) rfl
  · intro s' hm hs'
    obtain ⟨h', g', d', tk', os'⟩ := s'
    have e1 : g' = s.gens := hm.gens
    have e2 : d' = s.drawn := hm.drawn
    have e3 : os' = s.os := hm.os
    subst e1; subst e2; subst e3
    show wpAny _ _ _ _ _ _
    refine wpAny_pure ?_
    show wpAny _ _ (ret Value.none) _ _ _
    rw [← sz] at hs'
    refine wpAny_pure (h _ ⟨h', tk', rfl, by simpa using hs', fun b o hb e => ?_⟩)
    refine hm.heap b o ?_ (Heap.get?_push_of_some _ (Heap.get?_push_of_some _ e))
    rw [Heap.size_push]
    simp only [List.mem_cons, List.not_mem_nil, or_false, not_or]
    exact ⟨Nat.ne_of_lt hb, Nat.ne_of_lt (Nat.lt_succ_of_lt hb)⟩
theorem set_of_texts {l : Addr} {items : Array Value} {xs : List Str} {Q : Value → Shared → Prop}
    (hh : A.handled = none) (hl : s.heap.IsList l items) (hi : StrsAre items.toList xs) (hb : xs.length < scanBound)
    (h : ∀ s2, Filled prog w s s2 xs → Q (.ref s.heap.objs.size) s2) : wpAny (model prog w) A (call (.type "set") [.ref l]) Q E s := by
  obtain ⟨c, tl, hmro⟩ := PySem.F.called_set.mro
  have hmade := PySem.F.called_set.made
  have hsub := PySem.F.called_set.sub
  refine wpAny_call (codeAny_of_tree ?_)
  show wpAny _ _ (callAny (.type "set") _) _ _ _
  refine wpAny_pure ⟨Code.quiet_builtin _ (by decide +kernel), codeAny_builtin PySem.F.entry_type_call ?_⟩
  rw [Around.under_plain (weight_type_call_type "set" [.ref l] []) rfl]
  have h1 := PySem.F.called_set.notType
  have h2 := PySem.F.called_set.canCreate
  have h3 := PySem.F.typeCall_set_1 (.ref l)
  repeat (any_goals (first | assumption | wp_step))
  refine codeAny_mono (code_set_new_1 (.ref l) (E := E) (Q₁ := fun obj s₁ => ∃ led : Bool, obj = .ref s.heap.objs.size ∧ s₁ = { s with heap := s.heap.push (bareSet led) }) fun led => ⟨led, rfl, rfl⟩) fun r s₁ hr => ?_
  rcases r with e | (obj | _ | _ | _) <;> first | exact hr | exact hr.elim | skip
  obtain ⟨led, rfl, rfl⟩ := hr
  have hT : Shared.TypeIs { s with heap := s.heap.push (bareSet led) } (.ref s.heap.objs.size) "set" := ⟨_, Heap.get?_push_size _ rfl, rfl⟩
  have h4 := PySem.F.called_set.init.lookup
  have h5 := PySem.F.called_set.init.bind (.ref s.heap.objs.size)
  repeat (any_goals (first | assumption | wp_step))
  refine codeAny_mono (codeAny_call_builtin (R := wants (fun r s2 => r = .none ∧ Filled prog w s s2 xs) E) PySem.F.called_set.init.plain PySem.F.entry_set_init (check_set_init_1 hT (init_texts led ?_ hl hi hb fun s2 q => ⟨rfl, q⟩))) fun r s2 z => ?_
  · simp [hh]
  · rcases r with e | (v | _ | _ | _) <;> first | exact z | exact z.elim | skip
    obtain ⟨rfl, z⟩ := z
    repeat (any_goals (first | assumption | wp_step))
    exact h _ z
end
end MM
namespace L2
open PySem PySem.Spec PyProof.Rows MM
/-- len(set(xs)), xs a list of texts -/
def tLenSetL (K : PySem.W.Frag) (ta : TE) : TE := fun σ H Q => ta σ H fun x H1 => ∃ l, ∃ xs : List Str, x = .ref l ∧ SqL K H1 l (xs.map V.str) ∧ xs.length < scanBound ∧ Q (.int (nun xs xs.length : Nat)) H1
section
variable {X : Cx}
theorem pe_lenSetL {a : Expr} {ta : TE} {p p2 q pos : Pos} (hc : X.calm = true) (hg : Gl X "len") (hm : X.mg "len" = none) (hg2 : Gl X "set") (hm2 : X.mg "set" = none) (ha : PE X a ta)
    (na : starEach [a] X.env = (false, eval a X.env) :: starEach [] X.env := by rfl) : PE X (.Call (.Name "len" p) [.Call (.Name "set" p2) [a] [] q] [] pos) (tLenSetL X.K ta) := by
  refine ⟨fun pins s σ H Q I h => ?_⟩
  refine Call_ (ld_blt I hg hm boot_len ?_)
  refine PyProof.Rows.callWith_builtin1 (PyProof.Rows.args_cons ?_ rfl) rfl rfl
  refine Call_ (ld_blt I hg2 hm2 boot_set ?_)
  refine PyProof.Rows.callWith_type1 (PyProof.Rows.args_cons (thn (ha.run pins s σ H _ I h) fun v s1 ⟨x, H1, I1, r1, q1⟩ => PyProof.Rows.args_nil ?_) na) na rfl
  obtain ⟨l, xs, rfl, hq, hb, q1⟩ := q1
  cases r1
  obtain ⟨its, r, pl, hz⟩ := I1.list hq
  refine set_of_texts (I1.ok.hd hc) pl.isList (by simpa using strsAre_of r) hb fun s2 ⟨h', tk, e2, hS, hk⟩ => PyProof.Rows.args_nil ?_
  subst e2
  obtain ⟨o, es, ep, t, ho, hex, hd, _, _, hs, hf, hn⟩ := hS
  have I2 : Inv X pins σ H1 { s1 with heap := h', toks := tk } := I1.kept fun b o e => hk b o (Heap.lt_size e) e
  have lt := nun_le xs xs.length
  refine call_len_set ho hex hd hf (by unfold scanBound at hb; omega) ⟨.int (nun xs xs.length : Nat), H1, I2.tok _, ⟨_, by rw [hn]⟩, q1⟩
end
end L2
/-! ### how many are unlike -/
namespace MM
open PySem
theorem nun_all {xs : List Str} (h : xs.Nodup) : ∀ i, i ≤ xs.length → nun xs i = i
  | 0, _ => rfl
  | i + 1, hi => by
    have e := nun_all h i (by omega)
    have lt : i < xs.length := by omega
    have no : (xs.take i).any (· == xs.getD i Str.empty) = false := by
      rw [List.any_eq_false]
      intro y hy
      rw [List.getD_eq_getElem?_getD, List.getElem?_eq_getElem lt]
      simp only [Option.getD_some, beq_iff_eq]
      intro e
      obtain ⟨j, hj, rfl⟩ := List.mem_iff_getElem.mp hy
      rw [List.getElem_take] at e
      rw [List.length_take] at hj
      have := (List.getElem_inj h).mp e
      omega
    unfold nun
    rw [no, e]
    simp
theorem nun_less {xs : List Str} (h : ¬ xs.Nodup) : nun xs xs.length < xs.length := by
  have key : ∀ i, i ≤ xs.length → nun xs i = i → (xs.take i).Nodup := by
    intro i
    induction i with
    | zero => intro _ _; simp
    | succ i ih =>
      intro hi e
      have l := nun_le xs i
      have lt : i < xs.length := by omega
      unfold nun at e
      split at e
      · omega
      · rename_i c
        rw [take_one lt, List.nodup_append]
        refine ⟨ih (by omega) (by omega), by simp, ?_⟩
        intro a ha b hb e
        rw [List.mem_singleton] at hb
        refine c (List.any_eq_true.mpr ⟨a, ha, ?_⟩)
        rw [e, hb]
        exact beq_self_eq_true _
  have l := nun_le xs xs.length
  by_cases e : nun xs xs.length = xs.length
  · have := key _ (Nat.le_refl _) e
    rw [List.take_length] at this
    exact absurd this h
  · omega
end MM
/-! a text times a small number -/
namespace MM
open PySem PySem.Spec PyProof.Rows L2
def rpS (z : Str) (n : Nat) : Str := ⟨(List.replicate n z.cps).foldl (· ++ ·) #[]⟩
theorem rp_zero (z : Str) : rpS z 0 = Str.empty := rfl
theorem rp_one (z : Str) : rpS z 1 = z := by
  show (⟨#[] ++ z.cps⟩ : Str) = z
  rw [Array.empty_append]
theorem rp_nil {z : Str} (h : z.length = 0) (n : Nat) : rpS z n = z := by
  have e : z.cps = #[] := Array.size_eq_zero_iff.mp h
  have key : ∀ n : Nat, (List.replicate n (#[] : Array Nat)).foldl (· ++ ·) #[] = #[] := fun n => by
    induction n with
    | zero => rfl
    | succ n ih => rw [List.replicate_succ, List.foldl_cons, Array.append_empty, ih]
  unfold rpS
  cases z with
  | mk c =>
    cases (show c = #[] from e)
    rw [key]
theorem rp_len (z : Str) (n : Nat) : (rpS z n).length = n * z.length := by
  have key : ∀ (n : Nat) (a : Array Nat), ((List.replicate n z.cps).foldl (· ++ ·) a).size = a.size + n * z.cps.size := fun n => by
    induction n with
    | zero => intro a; simp
    | succ n ih =>
      intro a
      rw [List.replicate_succ, List.foldl_cons, ih, Array.size_append, Nat.succ_mul]
      omega
  show ((List.replicate n z.cps).foldl (· ++ ·) #[]).size = n * z.cps.size
  rw [key]
  simp
theorem op_mulR {X : Cx} : OpR X (binaryOp .Mult) (fun x y H Q => ∃ (z : Str) (n : Nat), x = .str z ∧ y = .int (n : Int) ∧ n ≤ 1000 ∧ z.length ≤ 1000 ∧ Q (.str (rpS z n)) H) := by
  intro pins s σ H x y v u Q I rx ry h
  obtain ⟨z, n, rfl, rfl, hn, hz, q⟩ := h
  obtain ⟨t, rfl⟩ := rx
  obtain ⟨t', rfl⟩ := ry
  have p1 : z.length * n ≤ 1000 * 1000 := Nat.mul_le_mul hz hn
  refine P.mul_str (by rw [decide_eq_false (by omega), decide_eq_false (by omega)]; rfl) (fun h1 _ => ?_) (fun _ _ => ?_) ?_
  · have h2 : (z.length : Int) ≤ (2 ^ 63 - 1) / (n : Int) := Int.le_ediv_of_mul_le (by omega) (by
      have : ((z.length * n : Nat) : Int) ≤ ((1000 * 1000 : Nat) : Int) := by exact_mod_cast p1
      rw [Int.natCast_mul] at this
      omega)
    omega
  · rw [Int.toNat_natCast]
    show decide (z.length * n > sizeLine) = false
    exact decide_eq_false (by rw [sizeLine_eq]; omega)
  · by_cases h0 : (n : Int) < 1
    · rw [if_pos h0]
      have e : n = 0 := by omega
      subst e
      exact ⟨by decide, ⟨.str Str.empty, H, I.tok _, ⟨_, rfl⟩, q⟩⟩
    · rw [if_neg h0]
      by_cases h1 : ((n : Int) == 1 || z.length == 0) = true
      · rw [if_pos h1]
        have e : rpS z n = z := by
          rcases Bool.or_eq_true _ _ ▸ h1 with h2 | h2
          · have e1 : n = 1 := by have := beq_iff_eq.mp h2; omega
            rw [e1, rp_one]
          · exact rp_nil (beq_iff_eq.mp h2) n
        rw [e] at q
        exact ⟨.str z, H, I, ⟨_, rfl⟩, q⟩
      · rw [if_neg h1]
        rw [Int.toNat_natCast]
        refine ⟨?_, ⟨.str (rpS z n), H, I.tok _, ⟨_, rfl⟩, q⟩⟩
        show (rpS z n).length ≤ sizeLine
        rw [rp_len, sizeLine_eq]
        rw [Nat.mul_comm] at p1
        omega
end MM
namespace MM
open PySem PySem.Spec PyProof.Rows L2
/-! ### a tuple that the run made, known to the object: tuple(xs), t.index(x) -/
/-- at t a tuple of these, known to the object -/
def Tf (H : Hp) (t : Addr) (xs : List V) : Prop := ∃ o : Obj, H t = some (.frz o (.tup xs)) ∧ o.cls = .type "tuple" ∧ o.dict = none
theorem Tf.same {H H1 : Hp} {t : Addr} {xs : List V} (h : Tf H t xs) (s : Same H H1) : Tf H1 t xs := let ⟨o, e, r⟩ := h; ⟨o, s _ _ e, r⟩
theorem Tf.sq {K : PySem.W.Frag} {H : Hp} {t : Addr} {xs : List V} (h : Tf H t xs) : SqT K H t xs := let ⟨o, e, _⟩ := h; .inl (.inr ⟨o, e⟩)
def rTupF (K : PySem.W.Frag) : List V → Hp → VK → Prop := fun xs H Q => ∃ p ys, xs = [.ref p] ∧ SqL K H p ys ∧ ∀ l o, o.cls = .type "tuple" → o.dict = none → H l = none → Q (.ref l) (L2.upd H l (.frz o (.tup ys)))
theorem call_tupF {X : Cx} : CallR X (.type "tuple") (rTupF X.K) := by
  intro pins s σ H xs us Q I r h
  obtain ⟨p, ys, rfl, hq, q⟩ := h
  obtain ⟨u, rfl, rx⟩ := vals1 r
  cases rx
  obtain ⟨its, rv, pl, hz⟩ := I.list hq
  have ln := rv.length
  refine call_tuple_list pl.isList (fun h2 kp => ?_) (by simp only [List.size_toArray] <;> omega)
  have J : Inv X pins σ H { s with heap := h2 } := Inv.kept (t' := s.toks) I kp
  have nw : ObjOk X.prog X.w (L2.upd H h2.objs.size (.frz { cls := .type "tuple", data := .seq its.toArray } (.tup ys))) (h2.push { cls := .type "tuple", data := .seq its.toArray }) h2.objs.size (.frz { cls := .type "tuple", data := .seq its.toArray } (.tup ys)) :=
    ⟨Heap.get?_push_size _ rfl, hz, its, rv, IsTup.new _ _⟩
  have J2 := J.laid (t' := s.toks) (fun c w e => Heap.get?_push_of_some _ e) (Nat.le_refl _) nw
  exact ⟨.ref h2.objs.size, _, J2, rfl, q _ _ rfl rfl (J.hok.fresh (Nat.le_refl _))⟩
def tTix (K : PySem.W.Frag) (to : TE) (t : TA) : TE := fun σ H Q => to σ H fun x H1 => ∃ (p : Addr) (zs : List V), x = .ref p ∧ Tf H1 p zs ∧ t σ H1 fun xs H2 => ∃ (ys : List Str) (z : Str) (j : Nat), xs = [.str z] ∧ SqT K H2 p (ys.map V.str) ∧ ys[j]? = some z ∧ (∀ m, m < j → ys[m]? ≠ some z) ∧ Q (.int (j : Nat)) H2
/-- t.index(x) -/
theorem pe_tix {X : Cx} {o e : Expr} {es : List Expr} {to : TE} {t : TA} {apos cpos : Pos} (ho : PE X o to) (ha : PA X (e :: es) t)
    (hb : attributeBase o "index" X.env (eval o X.env) = eval o X.env := by rfl)
    (hfew : ((backTo cpos (starEach (e :: es) X.env)).all (fun x => !x.1) && (backToKw cpos (keywordEach [] X.env)).all (fun x => x.1.isSome) && decide ((e :: es).length + ([] : List Keyword).length + (if ([] : List Keyword).isEmpty then 0 else 1) < 30)) = true := by rfl)
    (hln : (apos.endLine == cpos.line) = true := by rfl) (hs : starEach (e :: es) X.env = (false, eval e X.env) :: starEach es X.env := by rfl) (hpl : (backTo cpos (starEach es X.env)).any (·.1) = false := by rfl) :
    PE X (.Call (.Attribute o "index" apos) (e :: es) [] cpos) (tTix X.K to t) := by
  refine ⟨fun pins s σ H Q I h => ?_⟩
  refine wpAny_Call_method_late hb hfew hln rfl (thn (ho.run pins s σ H _ I h) fun v s1 ⟨x, H1, J, r1, p, zs, ex, ⟨ob, ep, ec, ed⟩, q1⟩ => ?_)
  subst ex
  cases r1
  obtain ⟨g, _⟩ := J.hok p _ ep
  refine ⟨"tuple", "tuple.index", PySem.F.plainAttrs_tuple, PySem.F.slot_tuple_index, PySem.F.type_tuple_index, ⟨ob, g, ec⟩, fun a e2 => ?_, ?_⟩
  · cases e2
    exact ⟨ob, g, ed⟩
  have hA := ha.run cpos pins s1 σ H1 _ J q1
  rw [hs] at hA ⊢
  refine Calls.callWith_builtin (by show (false || (backTo cpos (starEach es X.env)).any (·.1)) = false; rw [hpl] <;> rfl) (Calls.evalArgs_plain ?_)
  refine thn hA fun us s2 ⟨vs, H2, I2, r2, ys, z, j, ev, k1, k2, k3, q2⟩ => ?_
  exact mt_tup_index pins s2 σ H2 (.ref p) vs (.ref p) us Q I2 rfl r2 ⟨p, ys, z, j, rfl, ev, k1, k2, k3, q2⟩
end MM
namespace MM
open PySem PySem.Spec PySem.Calls PyProof.Rows L2
open GQ (FinOf call_here)
section
open PySem.AutoSeq1 (wpAny_loadPart')
open PySem.MeetsSeq PySem.MeetsSeq2 PySem.MeetsSeq3 PySem.SeqRoads2
variable {prog : Program} {w : World} {A : Around} {R : Result → Shared → Prop}
/-- lists of unlike lengths -/
theorem list_eqN (l b : Addr) {xs ys : Array Value} {n m : Nat} {s : Shared} (gx : s.heap.get? l = some { cls := .type "list", dict := none, data := .seq xs n, slots := #[] }) (gy : s.heap.get? b = some { cls := .type "list", dict := none, data := .seq ys m, slots := #[] })
    (hz : xs.size ≠ ys.size) (h : R (.ok (.ret (.bool false))) s) : wpAny (model prog w) A.in1 (Builtin.«list.__eq__» ⟨[.ref l, .ref b], []⟩) (FinOf prog w A R) (fun e s' => R (.error e) s') s := by
  obtain ⟨hp, g, d, tk, os⟩ := s
  have f3 := AutoSeq1.sub_list_list
  have nz : (xs.size != ys.size) = true := by simp [hz]
  wp_walk using wpAny_loadPart' gx, wpAny_loadPart' gy
  exact h
end
/-- x == y, lists of unlike lengths -/
def rEqLN : R2 := fun x y H Q => ∃ (a b : Addr) (xs ys : List V), x = .ref a ∧ y = .ref b ∧ H a = some (.lst xs) ∧ H b = some (.lst ys) ∧ xs.length ≠ ys.length ∧ Q (.bl false) H
theorem op_eqLN {X : Cx} {n : Nat} (hr : Room (n + 1) X.A) : OpR X (compareOp .Eq) rEqLN := by
  intro pins s σ H x y v u Q I rx ry hq
  obtain ⟨a, b, xs, ys, rfl, rfl, ha, hb, hlen, k⟩ := hq
  cases (show v = Value.ref a from rx)
  cases (show u = Value.ref b from ry)
  obtain ⟨_, its, k1, r, g1⟩ := I.hok a _ ha
  obtain ⟨_, its2, k2, r2, g2⟩ := I.hok b _ hb
  show wpAny (model X.prog X.w) X.A (richCompare .Eq (.ref a) (.ref b)) (EP X pins σ Q) X.xe s
  refine wpAny_richCompare_same_room (op := .Eq) ⟨_, g1, rfl⟩ ⟨_, g2, rfl⟩ PySem.F.slot_list_eq (call_here PySem.F.slot_list_eq ⟨_, g1, rfl⟩ PySem.F.entry_list_eq (PySem.F.args_list_eq_2 _ _) ?_) hr.units0
  refine list_eqN (R := wants (fun v s' => v ≠ .notImplemented ∧ EP X pins σ Q v s') X.xe) a b g1 g2 (by rw [List.size_toArray, List.size_toArray, ← r.length, ← r2.length]; exact hlen) ⟨(fun x => nomatch x), ?_⟩
  exact ⟨.bl false, H, I, rfl, k⟩
/-- list == list: of unlike lengths, or both empty -/
def rEqLE (K : PySem.W.Frag) : R2 := fun x y H Q => ∃ (a b : Addr) (xs ys : List V), x = .ref a ∧ y = .ref b ∧ H a = some (.lst xs) ∧ H b = some (.lst ys) ∧ ys = [] ∧ Q (.bl (decide (xs = []))) H
theorem op_eqLE {X : Cx} {n : Nat} (hr : Room (n + 1) X.A) : OpR X (compareOp .Eq) (rEqLE X.K) := by
  intro pins s σ H x y v u Q I rx ry hq
  obtain ⟨a, b, xs, ys, rfl, rfl, ha, hb, rfl, k⟩ := hq
  by_cases h : xs = []
  · subst h
    rw [decide_eq_true rfl] at k
    refine op_eqD hr.units pins s σ H _ _ v u Q I rx ry ?_
    exact ⟨.list [], .list [], .lst (SqL.of ha) .nil, .lst (SqL.of hb) .nil, by decide +kernel, by decide +kernel, by simpa [PyData.eqv, PyData.eqvAll] using k⟩
  · rw [decide_eq_false h] at k
    exact op_eqLN hr pins s σ H _ _ v u Q I rx ry ⟨a, b, xs, [], rfl, rfl, ha, hb, fun z => h (List.length_eq_zero_iff.mp z), k⟩
/-- // by a number above nought -/
def CDivP (_ j : Int) : Prop := 0 < j ∧ Sz 8900 j
theorem op_fdivP {X : Cx} : OpR X (binaryOp .FloorDiv) (rI CDivP fun i j => .int (i / j)) := opI fun i j _ _ _ _ _ hc q =>
  PyProof.Rows.floordiv_int (show j ≠ 0 from fun z => by have := hc.1; omega) (by rw [Int.fdiv_eq_ediv_of_nonneg i (Int.le_of_lt hc.1)]; exact q) (.inl (PyProof.noPylong_of_log2 (Nat.lt_of_lt_of_le (PySem.Flt.log2_lt_of (by decide) hc.2) (by decide))))
end MM
namespace MM
open PySem PySem.Spec PyProof.Rows L2
section
variable {J : It} {n : Nat} {G : Hp → Prop} {Y : Nat → Hp → V → Hp → Prop}
/-- a comprehension whose i-th thing is f i -/
theorem lc_fn (w : Walk J n G Y) (hY : ∀ i H x H', Y i H x H' → Same H H') {g : TG} {te : TE} {vs : List Nat} {σ : L2.St} {H : Hp} {D : Addr} {Qd : Hp → Prop} (nD : H D = none) (hn : n < sizeLine) (f : Nat → V) (hG : ∀ H', Same H H' → G H')
    (hs : ∀ i x H1 H2 (R : V → Hp → Prop), i < n → Same H H1 → Y i H1 x H2 → (∀ H3, Same H2 H3 → R (f i) H3) → g x (wipe σ vs) H2 fun σ2 H3 => wipe σ2 vs = wipe σ vs ∧ te σ2 H3 R)
    (hd : ∀ H', H' D = some (.lst ((List.range n).map f)) → Same H H' → Qd H') :
    ∃ W : Nat → Nat → Hp → Prop, (∃ m, W 0 m (L2.upd H D (.lst []))) ∧ ∀ i m H, W i m H →
      (J.stop i H ∧ Qd H) ∨ (J.go i H ∧ ∃ Nx : Hp → Prop, (∀ H', Nx H' → ∃ m', m' < m ∧ W (i + 1) m' H') ∧ ∀ x H', J.yld i H x H' → g x (wipe σ vs) H' fun σ2 H2 => wipe σ2 vs = wipe σ vs ∧ tYes σ2 H2 fun b H3 =>
        if b = true then te σ2 H3 fun y H4 => ∃ acc, H4 D = some (.lst acc) ∧ acc.length < sizeLine ∧ Nx (L2.upd H4 D (.lst (acc ++ [y]))) else Nx H3) := by
  refine lc_all w hY nD hn (fun i v _ => v = f i) (fun _ _ _ _ _ h => h) (fun _ _ _ _ _ _ h => h) hG (fun i x H1 H2 R hi s y k => hs i x H1 H2 R hi s y fun H3 s3 => k _ H3 s3 rfl) fun us H' l e s p => ?_
  have eu : us = (List.range n).map f := by
    refine List.ext_getElem? fun j => ?_
    by_cases hj : j < us.length
    · have h1 := List.getElem?_eq_getElem hj
      rw [h1, p j _ h1, List.getElem?_map, List.getElem?_range (by omega)]
      rfl
    · rw [List.getElem?_eq_none_iff.mpr (by omega), List.getElem?_eq_none_iff.mpr (by simp; omega)]
  subst eu
  exact hd H' e s
end
/-! ### lists of texts beside each other -/
def dlS (ns : List Str) : PyData := .list (ns.map PyData.str)
theorem dlS_ok {ns : List Str} (h : ∀ x ∈ ns, PyData.strOk x = true) : SeqAt.shaped (dlS ns) = true := by
  have k1 : ∀ ns : List Str, (∀ x ∈ ns, PyData.strOk x = true) → PyData.canLayAll0 (ns.map PyData.str) = true := fun ns => by
    induction ns with
    | nil => intro _; rfl
    | cons x r ih =>
      intro h
      simp only [List.map_cons, PyData.canLayAll0, PyData.canLay0, Bool.and_eq_true]
      exact ⟨h x List.mem_cons_self, ih fun y hy => h y (List.mem_cons_of_mem _ hy)⟩
  have k2 : ∀ ns : List Str, PyData.depthAll (ns.map PyData.str) ≤ 1 := fun ns => by
    induction ns with
    | nil => simp [PyData.depthAll]
    | cons x r ih => simp only [List.map_cons, PyData.depthAll, PyData.depth]; omega
  have k3 := k2 ns
  show (PyData.canLay0 (.list (ns.map PyData.str)) && decide (PyData.depth (.list (ns.map PyData.str)) ≤ 64)) = true
  rw [Bool.and_eq_true]
  refine ⟨?_, decide_eq_true ?_⟩
  · simp only [PyData.canLay0]
    exact k1 ns h
  · simp only [PyData.depth]
    omega
theorem dlS_eq (ns : List Str) : PyData.eqv (dlS ns) (dlS ns) = true := by
  have k : ∀ ns : List Str, PyData.eqvAll (ns.map PyData.str) (ns.map PyData.str) = true := fun ns => by
    induction ns with
    | nil => simp [PyData.eqvAll]
    | cons x r ih => simp [PyData.eqvAll, PyData.eqv, ih]
  unfold dlS
  simp only [PyData.eqv, k]
theorem dlS_iff (ns ms : List Str) : PyData.eqv (dlS ns) (dlS ms) = decide (ns = ms) := by
  have k : ∀ ns ms : List Str, PyData.eqvAll (ns.map PyData.str) (ms.map PyData.str) = decide (ns = ms) := fun ns => by
    induction ns with
    | nil => intro ms; cases ms <;> simp [PyData.eqvAll]
    | cons x r ih =>
      intro ms
      cases ms with
      | nil => simp [PyData.eqvAll]
      | cons y t =>
        simp only [List.map_cons, PyData.eqvAll, PyData.eqv, ih]
        by_cases h : x = y
        · subst h
          simp
        · simp [h]
  unfold dlS
  simp only [PyData.eqv, k]
theorem dlS_all (K : PySem.W.Frag) (H : Hp) : ∀ ns : List Str, DpAll K H (ns.map V.str) (ns.map PyData.str)
  | [] => .nil
  | x :: r => .cons (.str x) (dlS_all K H r)
theorem dlS_dp {K : PySem.W.Frag} {H : Hp} {p : Addr} {ns : List Str} (e : H p = some (.lst (ns.map V.str))) : Dp K H (.ref p) (dlS ns) := .lst (SqL.of e) (dlS_all K H ns)
end MM
namespace MM
open PySem PySem.Spec PySem.Calls PyProof.Rows L2
/-! ### defs that are called where no display is under way -/
structure FnG (P : Program) (w : World) (K : PySem.W.Frag) (mg : Str → Option Value) (base : Heap) (CX : CXT) (k : Nat) (f : Addr) (fd : FuncData) (ps : List Str) (sp : Sp) : Prop where
  len : ∀ vs H Q E, sp vs H Q E → vs.length = ps.length
  run : ∀ (A : Around) (out : List Env) (s : Shared) (H : Hp) (args : Args) (us : List Value) (vs : List V) (Q : VK) (E : XK), A.guards = some [] → Room k A → Env0 P w K mg base A out s H → BindsTo s fd args (ps.zip us) → Vals vs us → sp vs H Q E →
    codeAny (model P w) A (.call (.ref f) args) (CR CX out P w H s Q E) s
structure CaG (P : Program) (w : World) (K : PySem.W.Frag) (mg : Str → Option Value) (base : Heap) (CX : CXT) (k : Nat) (x : Str) (st : Stmt) (dvs : List V) (ps : List Str) (sp : Sp) : Prop where
  ex : ∃ (f : Addr) (fd : FuncData), FunD K x x (defArgs st) (defBody st) (defScope st) dvs [] f fd ∧ mg x = some (.ref f) ∧ FnG P w K mg base CX k f fd ps sp
structure CmG (P : Program) (w : World) (K : PySem.W.Frag) (mg : Str → Option Value) (base : Heap) (CX : CXT) (k : Nat) (C : Addr) (m qual : Str) (st : Stmt) (ps : List Str) (sp : Sp) : Prop where
  ex : ∃ (f : Addr) (fd : FuncData), FunD K m qual (defArgs st) (defBody st) (defScope st) [] [] f fd ∧ Meth K C m f ∧ Cls K C ∧ FnG P w K mg base CX k f fd ps sp
section
variable {P : Program} {w : World} {K : PySem.W.Frag} {mg : Str → Option Value} {base : Heap} {x m qual : Str} {C : Addr} {st : Stmt} {dvs : List V} {N ps : List Str} {k : Nat} {sp : Sp}
theorem fnG_of {f : Addr} {name : Str} {params : Arguments} {body : List Stmt} {scope : Scope} {dV kV doc pm cdv ct oc : Value} {an od : Option Addr} {osl : Array (Option Value)}
    (lk : K.lookup f = some ⟨oc, od, .func (PySem.W.fnOf name qual params body scope dV kV doc pm an cdv ct), osl⟩) (hcd : PySem.W.codeIn K cdv qual = true) (S : FnScope N ps scope) (len : ∀ vs H Q E, sp vs H Q E → vs.length = ps.length)
    (hbody : ∀ (A : Around) (out : List Env) (s : Shared) (H : Hp) (vs : List V) (Q : VK) (E : XK), (A.deeper (envOfC qual scope s.heap.objs.size f cdv)).guards = some [] → Room k (A.deeper (envOfC qual scope s.heap.objs.size f cdv)) → sp vs H Q E →
      ∃ t, PSs (cxOf CX0 P w K mg base N qual scope f cdv A out s H E).nox body t ∧ t { nx := fun _ H' => Q .non H', rt := Q } (start N vs) H) :
    FnG P w K mg base CX0 (k + 1) f (PySem.W.fnOf name qual params body scope dV kV doc pm an cdv ct) ps sp := by
  refine ⟨len, fun A out s H args us vs Q E gd rm en bd rl want => ?_⟩
  have kin : K.In s.heap := en.mod.kin.keeps fun c o e => (en.bs c o e).1
  have nlm : s.heap.NoLimit := en.mod.nolimit.keeps fun c o e => (en.bs c o e).1
  have kinds : ∀ z ∈ ps.zip us, scope.names.lookup z.1 = some .local ∨ (scope.names.lookup z.1 = some .cell ∧ ((cellsFrom (s.heap.objs.size + 1) scope.names []).lookup z.1).isSome = true) := by
    rintro ⟨n, v⟩ hz
    exact (S.par n (List.of_mem_zip hz).1).elim .inl fun q => .inr ⟨q, PySem.W.cellsFrom_some _ _ _ (.inl q)⟩
  refine codeAny_call_function rm.depth (kin _ _ lk) rfl S.co S.gen rfl (PySem.W.codeRec_of kin hcd) (bd _ _ _ _ ?_)
  refine wpAny_newFunctionEnv_cells S.kind kinds fun env henv s1 ic => ?_
  subst henv
  refine ⟨nlm.keeps ic.toInCall.keep, codeAny_func ?_⟩
  obtain ⟨t, ht0, hq⟩ := hbody A out s H vs Q E gd (rm.deeper _) want
  have ht := ht0.nox
  have J : Inv (cxOf CX0 P w K mg base N qual scope f cdv A out s H E) [] (start N vs) H s1 := inv_start S rm.hd en (len _ _ _ _ want) rl ic
  refine wpAny_mono (ht.run [] s1 (start N vs) H _ J hq) (fun fl s2 out2 => ?_) fun _ _ z => z
  cases fl with
  | ret u =>
    obtain ⟨v, _, H2, J2, rv, q⟩ := out2
    exact ⟨v, H2, J2.os, J2.bare, J2.base, J2.hok, rv, q⟩
  | next =>
    obtain ⟨_, H2, J2, q⟩ := out2
    exact ⟨V.non, H2, J2.os, J2.bare, J2.base, J2.hok, rfl, q⟩
  | brk => exact out2.elim fun _ z => z.elim fun _ z => z.2.elim
  | cont => exact out2.elim fun _ z => z.elim fun _ z => z.2.elim
theorem cag0 (D : Df K mg x st dvs) (S : FnScope N ps (defScope st)) (len : ∀ vs H Q E, sp vs H Q E → vs.length = ps.length)
    (body : ∀ (f : Addr) (cdv : Value) (A : Around) (outer : List Env) (s : Shared) (H : Hp) (vs : List V) (Q : VK) (E : XK), (A.deeper (envOfC x (defScope st) s.heap.objs.size f cdv)).guards = some [] → Room k (A.deeper (envOfC x (defScope st) s.heap.objs.size f cdv)) → sp vs H Q E →
      ∃ t, PSs (cxOf CX0 P w K mg base N x (defScope st) f cdv A outer s H E).nox (defBody st) t ∧ t { nx := fun _ H' => Q .non H', rt := Q } (start N vs) H) : CaG P w K mg base CX0 (k + 1) x st dvs ps sp := by
  obtain ⟨f, fd, F, hm⟩ := D.ex
  refine ⟨f, fd, F, hm, ?_⟩
  obtain ⟨oc, od, dV, kV, doc, pm, an, cdv, ct, osl, rfl, lk, hcd, _, _⟩ := F.ex
  exact fnG_of lk hcd S len fun A outer s H vs Q E => body f cdv A outer s H vs Q E
theorem cmg0 (D : Dm K C m qual st) (S : FnScope N ps (defScope st)) (len : ∀ vs H Q E, sp vs H Q E → vs.length = ps.length)
    (body : ∀ (f : Addr) (cdv : Value) (A : Around) (outer : List Env) (s : Shared) (H : Hp) (vs : List V) (Q : VK) (E : XK), (A.deeper (envOfC qual (defScope st) s.heap.objs.size f cdv)).guards = some [] → Room k (A.deeper (envOfC qual (defScope st) s.heap.objs.size f cdv)) → sp vs H Q E →
      ∃ t, PSs (cxOf CX0 P w K mg base N qual (defScope st) f cdv A outer s H E).nox (defBody st) t ∧ t { nx := fun _ H' => Q .non H', rt := Q } (start N vs) H) : CmG P w K mg base CX0 (k + 1) C m qual st ps sp := by
  obtain ⟨f, fd, F, M, hc⟩ := D.ex
  refine ⟨f, fd, F, M, hc, ?_⟩
  obtain ⟨oc, od, dV, kV, doc, pm, an, cdv, ct, osl, rfl, lk, hcd, _, _⟩ := F.ex
  exact fnG_of lk hcd S len fun A outer s H vs Q E => body f cdv A outer s H vs Q E
end
section
variable {X : Cx} {k j : Nat} {C : Addr} {x : Str} {st : Stmt} {sp : Sp} {ps : List Str} {p pos : Pos} {e : Expr} {es : List Expr} {t : TA}
/-- f(e, ..) of such a def -/
theorem pe_caG (c : CaG X.prog X.w X.K X.mg X.base CX0 k x st [] ps sp) (b : Bd x x st ps) (gd : X.A.guards = some []) (hr : Room j X.A) (hk : k ≤ j) (hg : Gl X x) (ha : PA X (e :: es) t)
    (hdb : (x == ("__debug__" : Str)) = false := by decide) (he : starEach (e :: es) X.env = (false, eval e X.env) :: starEach es X.env := by rfl) (hpl : (backTo pos (starEach es X.env)).any (·.1) = false := by rfl) :
    PE X (.Call (.Name x p) (e :: es) [] pos) (tCall sp [] E0 t) := by
  obtain ⟨f, fd, F, hm, G⟩ := c.ex
  have hb := F.bindsN b
  refine ⟨fun pins s σ H Q I h => ?_⟩
  refine wpAny_Call_Name_kw (ld_glob I hg hm ?_ hdb)
  refine PySem.W.callWith_K (h₀ := X.base) I.ok.mod.kin F.kp (thn (ha.run pos pins s σ H _ I h) fun us s1 ⟨vs, H1, I1, r, q⟩ => ⟨I1.kIn, ?_⟩) he hpl
  have q : sp (vs ++ []) H1 Q E0 := q
  rw [List.append_nil] at q
  have hl : us.length = ps.length := by rw [← r.length]; exact G.len _ _ _ _ q
  have hbs := hb s1 us I1.kIn (by rw [List.append_nil]; exact hl)
  rw [List.append_nil] at hbs
  refine wpAny_call (codeAny_mono (G.run X.A X.stack s1 H1 ⟨us, []⟩ us vs Q E0 gd (hr.mono hk) I1.env0 hbs r q) fun res s2 got => ?_)
  match res, got with
  | .error er, got => exact False.elim got
  | .ok .next, got => exact got.elim
  | .ok .brk, got => exact got.elim
  | .ok .cont, got => exact got.elim
  | .ok (.ret u), got => exact I1.after got
/-- repr(o) of such an own __repr__ -/
theorem call_reprG {qual : Str} (c : CmG X.prog X.w X.K X.mg X.base CX0 k C "__repr__" qual st ps sp) (b : Bd "__repr__" qual st ps) (gd : X.A.guards = some []) (hr : Room (k + 1) X.A) : CallR X (.builtin "repr") (rReprO C sp E0) := by
  obtain ⟨f, fd, F, M, hc, G⟩ := c.ex
  have hb := F.bindsN b
  intro pins s σ H xs us Q I r h
  obtain ⟨a, dx, fs, rfl, ha, hq⟩ := h
  obtain ⟨u, rfl, r1⟩ := vals1 r
  cases (show u = Value.ref a from r1)
  obtain ⟨mA, J, _⟩ := ins_get I.hok ha
  obtain ⟨od, J, _⟩ := J.look
  obtain ⟨_, fr⟩ := I.fr
  have rm : Room k X.A.in1 := hr.in1
  have hl : ([Value.ref a] ++ []).length = ps.length := (show ([V.ref a] : List V).length = _ from G.len _ _ _ _ hq)
  refine PySem.W.repr_K rm.units0 fr I.ok.mod.kin J M.1 M.2 (wpAny_call (codeAny_mono (G.run X.A.in1 X.stack s H ⟨[.ref a], []⟩ [.ref a] [.ref a] _ E0 gd rm I.env0.in1 (hb s [.ref a] I.kIn hl) (.cons rfl .nil) hq) fun res s2 got => ?_))
  match res, got with
  | .error er, got => exact False.elim got
  | .ok .next, got => exact got.elim
  | .ok .brk, got => exact got.elim
  | .ok .cont, got => exact got.elim
  | .ok (.ret u), got =>
    obtain ⟨z, H2, J2, rz, y, rfl, q⟩ := I.after got
    obtain ⟨tk, rfl⟩ := rz
    exact ⟨.str y, H2, J2, ⟨tk, rfl⟩, q⟩
/-! ### repr of a list of texts -/
def shS (ys : List Str) : Str := (dlS ys).shown
theorem shS_txt (ys : List Str) : shS ys = ("[" : Str) ++ Str.join ", " (ys.map reprText) ++ "]" := by
  unfold shS dlS
  rw [PyData.shown_list, PyData.shownAll_strs]
theorem dlS_show (ys : List Str) : (dlS ys).showable = true := by
  unfold dlS
  simp only [PyData.showable]
  exact PyData.showableAll_strs ys
theorem dlS_hd (ys : List Str) : (dlS ys).hasDict = false := by
  have k : ∀ ys : List Str, PyData.hasDictAll (ys.map PyData.str) = false := fun ys => by
    induction ys with
    | nil => simp [PyData.hasDictAll]
    | cons x r ih => simp [PyData.hasDictAll, PyData.hasDict, ih]
  unfold dlS
  simp only [PyData.hasDict]
  exact k ys
theorem dlS_depth (ys : List Str) : (dlS ys).depth ≤ 2 := by
  have k : ∀ ys : List Str, PyData.depthAll (ys.map PyData.str) ≤ 1 := fun ys => by
    induction ys with
    | nil => simp [PyData.depthAll]
    | cons x r ih => simp only [List.map_cons, PyData.depthAll, PyData.depth]; omega
  have := k ys
  unfold dlS
  simp only [PyData.depth]
  omega
def rReprL : List V → Hp → VK → Prop := fun xs H Q => ∃ (p : Addr) (ys : List Str), xs = [.ref p] ∧ H p = some (.lst (ys.map V.str)) ∧ (shS ys).length ≤ sizeLine ∧ Q (.str (shS ys)) H
theorem call_reprL (gd : X.A.guards = some []) (hr : Room 1 X.A) : CallR X (.builtin "repr") rReprL := by
  intro pins s σ H xs us Q I r h
  obtain ⟨p, ys, rfl, hp, hz, q⟩ := h
  obtain ⟨u, rfl, r1⟩ := vals1 r
  cases (show u = Value.ref p from r1)
  obtain ⟨as, rd⟩ := Dp.reads I (dlS ys) (.ref p) (.ref p) (dlS_dp hp) rfl
  have hu := hr.units
  have hd := dlS_depth ys
  refine repr_of_reads' rd (dlS_show ys) (fun z => by rw [dlS_hd] at z; cases z) gd (by omega) (fun _ _ e => e) (fun h2 u tk kp => ?_) hz
  exact ⟨.str (shS ys), H, Inv.kept (t' := tk) I kp, ⟨u, rfl⟩, q⟩
/-- {x!r} of a list of texts -/
def tFmtRL (te : TE) : TE := fun σ H Q => te σ H fun x H1 => ∃ (p : Addr) (ys : List Str), x = .ref p ∧ H1 p = some (.lst (ys.map V.str)) ∧ (shS ys).length ≤ sizeLine ∧ Q (.str (shS ys)) H1
theorem pe_fmtRL {te : TE} (gd : X.A.guards = some []) (hr : Room 1 X.A) (he : PE X e te) : PE X (.FormattedValue e 114 none pos) (tFmtRL te) := by
  refine ⟨fun pins s σ H Q I h => ?_⟩
  refine wpAny_FormattedValue_repr (thn (he.run pins s σ H _ I h) fun v s1 hv => ?_)
  obtain ⟨y, H1, I1, r1, p, ys, rfl, hp, hz, q⟩ := hv
  cases (show v = Value.ref p from r1)
  obtain ⟨as, rd⟩ := Dp.reads I1 (dlS ys) (.ref p) (.ref p) (dlS_dp hp) rfl
  have hu := hr.units
  have hd := dlS_depth ys
  refine pyReprObj_of_reads rd (dlS_show ys) (fun z => by rw [dlS_hd] at z; cases z) gd (by omega) (fun _ _ e => e) (fun h2 u tk kp => ?_) hz
  have J : Inv X pins σ H1 { s1 with heap := h2, toks := tk } := Inv.kept (t' := tk) I1 kp
  exact wpAny_formatField_str ⟨.str (shS ys), H1, J, ⟨u, rfl⟩, q⟩ ⟨.str (shS ys), H1, J.tok _, ⟨_, rfl⟩, q⟩ hz
end
end MM
namespace MM
open PySem PySem.Spec PySem.Calls PyProof.Rows L2
/-! ### the law's own call, no display being under way -/
section
variable {P : Program} {w : World} {K : PySem.W.Frag} {mg mb : Str → Option Value} {k : Nat} {fa a : Addr} {fd : FuncData} {x : Str} {sp : Sp} {z : Shared} {vs : List Value} {ns : List Int}
theorem law_callG (kin : K.In z.heap) (hns : z.heap.Ns mainGlobals mg) (hb : z.heap.Ns builtinsNs mb) (hbb : ∀ y : Str, y ≠ "__name__" → mb y = bootBuiltins y) (hlim : z.heap.NoLimit) (hg : z.gens = #[])
    (ha : z.heap.get? a = some { cls := .type "list", data := .seq vs.toArray }) (hi : IntsAre vs ns) (hl : ns.length ≤ sizeLine) (rm : Room k callerA)
    (F : ∀ base : Heap, K.In base → base.Ns mainGlobals mg → FnG P w K mg base CX0 k fa fd [x] sp) (bnd : ∀ (s : Shared) (u : Value), BindsTo s fd ⟨[u], []⟩ [(x, u)])
    (want : ∀ H : Hp, Only H → SqL K H a (ns.map V.int) → sp [.ref a] H (fun v _ => v = .bl true) fun _ _ _ => False) :
    codeAny (model P w) callerA (.call (.ref fa) ⟨[.ref a], []⟩) (fun r s2 => r = .ok (.ret (.bool true)) ∧ OldK z.heap s2.heap ∧ s2.os = z.os ∧ AllBare s2.gens) z := by
  have rel := vals_ints hi
  have len : vs.length = ns.length := hi.length
  have from_ : ∀ H : Hp, Only H → SqL K H a (ns.map V.int) → HOk P w H z.heap → (∀ c u, H c = some u → c = a ∧ K.lookup a = none) →
      codeAny (model P w) callerA (.call (.ref fa) ⟨[.ref a], []⟩) (fun r s2 => r = .ok (.ret (.bool true)) ∧ OldK z.heap s2.heap ∧ s2.os = z.os ∧ AllBare s2.gens) z := by
    intro H only sq hok one
    have keep : ∀ {c : Addr} {o : Obj}, z.heap.get? c = some o → H c = none → (hidT z.heap H).get? c = some o := fun e n => hidT_get e n
    have free : ∀ {c : Addr}, c ≠ a → H c = none := fun {c} n => by
      cases q : H c with
      | none => rfl
      | some u => exact absurd (one c u q).1 n
    have nsk : ∀ {c : Addr} {m : Str → Option Value}, z.heap.Ns c m → (hidT z.heap H).Ns c m := by
      rintro c m ⟨o, es, ep, e, d, r⟩
      refine ⟨o, es, ep, keep e (free fun q => ?_), d, r⟩
      rw [q, ha] at e
      cases e
      exact nomatch d
    have kb : K.In (hidT z.heap H) := fun c o e => keep (kin c o e) (by
      cases q : H c with
      | none => rfl
      | some u =>
        obtain ⟨rfl, n⟩ := one c u q
        rw [n] at e
        cases e)
    have md : Mod K mg (hidT z.heap H) := ⟨kb, nsk hns, ⟨mb, nsk hb, hbb⟩, hlim.elim fun mc h => ⟨mc, nsk h.1, h.2⟩⟩
    have en : Env0 P w K mg (hidT z.heap H) callerA [] z H := ⟨rfl, md, fun c o e => of_hidT e, Nat.le_of_eq (hidT_size _ _), True.intro, fun c h => absurd h List.not_mem_nil, hok, .of_eq hg⟩
    refine codeAny_mono ((F _ kb (nsk hns)).run callerA [] z H ⟨[.ref a], []⟩ [.ref a] [.ref a] _ _ rfl rm en (bnd z (.ref a)) (.cons rfl .nil) (want H only sq)) fun r s2 got => ?_
    match r, got with
    | .error er, got => exact False.elim got
    | .ok .next, got => exact got.elim
    | .ok .brk, got => exact got.elim
    | .ok .cont, got => exact got.elim
    | .ok (.ret u), got =>
      obtain ⟨v, H2, os, bare, un, hok2, rv, q⟩ := got
      have q : v = .bl true := q
      subst q
      obtain rfl : u = Value.bool true := rv
      refine ⟨rfl, OldK.of_keep fun c o e => ?_, os, bare⟩
      rcases only c with n | ⟨ob, xs, n⟩
      · exact un.keep c o e n List.not_mem_nil List.not_mem_nil
      · obtain ⟨e1, _⟩ := hok c _ n
        obtain ⟨e2, _⟩ := hok2 c _ (un.frzs c ob _ n)
        rw [e] at e1
        cases e1
        exact e2
  cases hk : K.lookup a with
  | some o =>
    have e := kin a o hk
    rw [ha] at e
    cases e
    exact from_ (fun _ => none) (fun _ => .inl rfl) (.inr ⟨_, vs.toArray, _, hk, rfl, rfl, rfl, by rw [List.size_toArray, len]; exact hl, by simpa using rel⟩) (fun c u q => nomatch q) fun c u q => nomatch q
  | none =>
    have val : ∀ {c : Addr} {u : HO}, (fun c => if c = a then some (.frz { cls := .type "list", data := .seq vs.toArray } (.lst (ns.map V.int))) else none : Hp) c = some u → c = a ∧ u = .frz { cls := .type "list", data := .seq vs.toArray } (.lst (ns.map V.int)) := by
      intro c u q
      by_cases hc : c = a
      · exact ⟨hc, (Option.some.inj ((if_pos hc).symm.trans q)).symm⟩
      · exact nomatch (if_neg hc).symm.trans q
    refine from_ (fun c => if c = a then some (.frz { cls := .type "list", data := .seq vs.toArray } (.lst (ns.map V.int))) else none) (fun c => ?_) (.inl (.inr ⟨{ cls := .type "list", data := .seq vs.toArray }, if_pos rfl⟩)) (fun c u q => ?_) fun c u q => ⟨(val q).1, hk⟩
    · by_cases hc : c = a
      · exact .inr ⟨_, _, if_pos hc⟩
      · exact .inl (if_neg hc)
    · obtain ⟨rfl, rfl⟩ := val q
      exact ⟨ha, by rw [List.length_map]; exact hl, vs, _, rel, ha⟩
end
theorem walk_G {l : PySem.W.OpenLaw} {q : Program} {loose : List Str} {XP : (Str → Option Value) → Heap → Prop} {YP : World → Heap → Prop} {d : DefRec} {K : Params → PySem.W.Frag} {k : Nat} {x : Str} {sp : World → Sp} (hn : l.most = some 63) (hdf : d.params.defaults = []) (rm : Room k callerA)
    (hY : ∀ (w : World) (h : Heap), YP w h → (K w.params).In h)
    (F : ∀ (w : World) (mg : Str → Option Value) (fa : Addr) (h : Heap), (K w.params).In h → h.Ns mainGlobals mg → mg d.name = some (.ref fa) →
      ∃ fd : FuncData, (∀ (s : Shared) (u : Value), BindsTo s fd ⟨[u], []⟩ [(x, u)]) ∧ ∀ base : Heap, (K w.params).In base → base.Ns mainGlobals mg → FnG l.prog w (K w.params) mg base CX0 k fa fd [x] (sp w))
    (want : ∀ (w : World) (H : Hp) (a : Addr) (ns : List Int), ns.length ≤ 63 → Only H → SqL (K w.params) H a (ns.map V.int) → sp w [.ref a] H (fun v _ => v = .bl true) fun _ _ _ => False) :
    PySem.W.WalkO q loose XP YP l.row.toRowW d [] (fun f vs => PySem.call f vs) := by
  refine Att.attach_call hn hdf fun w s0 s1 mg mb fa o pm cd doc a vs ns G Y ho hd hcd hmg hobj hints hlen hg => ?_
  have kin := hY w _ Y
  obtain ⟨fd, hb, hF⟩ := F w mg fa _ kin G.T.g hmg
  exact law_callG kin G.T.g G.T.b G.T.builtins G.T.nolimit hg hobj hints (Nat.le_trans hlen (by decide)) rm hF hb fun H only sq => want w H a ns hlen only sq
end MM
namespace MM
open PySem PySem.Spec PyProof.Rows L2
/-- the text by places -/
def top (i : Nat) : Stmt := PySem.Challenge.pw_meanmoon_k61_wheels.main.body.getD i (.Pass ⟨0, 0, 0, 0⟩)
abbrev s_NoWheel_init : Stmt := inClass (top 1) 0
theorem c_NoWheel_init : FnScope ["self", "names"] ["self", "names"] (defScope s_NoWheel_init) := ⟨rfl, rfl, rfl, by decide +kernel, rfl, by decide +kernel, by decide +kernel⟩
theorem b_NoWheel_init : Bd "__init__" "NoWheel.__init__" s_NoWheel_init ["self", "names"] := fun _ _ _ _ _ _ us hl => match us, hl with | [_, _], _ => rfl
abbrev s_NoName_init : Stmt := inClass (top 2) 0
theorem c_NoName_init : FnScope ["self", "name"] ["self", "name"] (defScope s_NoName_init) := ⟨rfl, rfl, rfl, by decide +kernel, rfl, by decide +kernel, by decide +kernel⟩
theorem b_NoName_init : Bd "__init__" "NoName.__init__" s_NoName_init ["self", "name"] := fun _ _ _ _ _ _ us hl => match us, hl with | [_, _], _ => rfl
abbrev s_numeral : Stmt := top 5
theorem c_numeral : FnScope ["number", "base", "rest", "signs"] ["number", "base"] (defScope s_numeral) := ⟨rfl, rfl, rfl, by decide +kernel, rfl, by decide +kernel, by decide +kernel⟩
abbrev s_Wheel_init : Stmt := inClass (top 7) 0
theorem c_Wheel_init : FnScope ["self", "names", "first"] ["self", "names", "first"] (defScope s_Wheel_init) := ⟨rfl, rfl, rfl, by decide +kernel, rfl, by decide +kernel, by decide +kernel⟩
abbrev s_Wheel_name_on : Stmt := inClass (top 7) 1
theorem c_Wheel_name_on : FnScope ["self", "day"] ["self", "day"] (defScope s_Wheel_name_on) := ⟨rfl, rfl, rfl, by decide +kernel, rfl, by decide +kernel, by decide +kernel⟩
theorem b_Wheel_name_on : Bd "name_on" "Wheel.name_on" s_Wheel_name_on ["self", "day"] := fun _ _ _ _ _ _ us hl => match us, hl with | [_, _], _ => rfl
abbrev s_Wheel_next_named : Stmt := inClass (top 7) 2
theorem c_Wheel_next_named : FnScope ["self", "day", "name"] ["self", "day", "name"] (defScope s_Wheel_next_named) := ⟨rfl, rfl, rfl, by decide +kernel, rfl, by decide +kernel, by decide +kernel⟩
theorem b_Wheel_next_named : Bd "next_named" "Wheel.next_named" s_Wheel_next_named ["self", "day", "name"] := fun _ _ _ _ _ _ us hl => match us, hl with | [_, _, _], _ => rfl
abbrev s_Wheel_len : Stmt := inClass (top 7) 3
theorem c_Wheel_len : FnScope ["self"] ["self"] (defScope s_Wheel_len) := ⟨rfl, rfl, rfl, by decide +kernel, rfl, by decide +kernel, by decide +kernel⟩
theorem b_Wheel_len : Bd "__len__" "Wheel.__len__" s_Wheel_len ["self"] := fun _ _ _ _ _ _ us hl => match us, hl with | [_], _ => rfl
abbrev s_Wheel_eq : Stmt := inClass (top 7) 4
theorem c_Wheel_eq : FnScope ["self", "other"] ["self", "other"] (defScope s_Wheel_eq) := ⟨rfl, rfl, rfl, by decide +kernel, rfl, by decide +kernel, by decide +kernel⟩
theorem b_Wheel_eq : Bd "__eq__" "Wheel.__eq__" s_Wheel_eq ["self", "other"] := fun _ _ _ _ _ _ us hl => match us, hl with | [_, _], _ => rfl
abbrev s_Wheel_str : Stmt := inClass (top 7) 5
theorem c_Wheel_str : FnScope ["self"] ["self"] (defScope s_Wheel_str) := ⟨rfl, rfl, rfl, by decide +kernel, rfl, by decide +kernel, by decide +kernel⟩
theorem b_Wheel_str : Bd "__str__" "Wheel.__str__" s_Wheel_str ["self"] := fun _ _ _ _ _ _ us hl => match us, hl with | [_], _ => rfl
abbrev s_Wheel_repr : Stmt := inClass (top 7) 6
theorem c_Wheel_repr : FnScope ["self"] ["self"] (defScope s_Wheel_repr) := ⟨rfl, rfl, rfl, by decide +kernel, rfl, by decide +kernel, by decide +kernel⟩
theorem b_Wheel_repr : Bd "__repr__" "Wheel.__repr__" s_Wheel_repr ["self"] := fun _ _ _ _ _ _ us hl => match us, hl with | [_], _ => rfl
abbrev s_names_from_nought : Stmt := top 8
theorem c_names_from_nought : FnScope ["wheel", "at"] ["wheel"] (defScope s_names_from_nought) := ⟨rfl, rfl, rfl, by decide +kernel, rfl, by decide +kernel, by decide +kernel⟩
theorem b_names_from_nought : Bd "names_from_nought" "names_from_nought" s_names_from_nought ["wheel"] := fun _ _ _ _ _ _ us hl => match us, hl with | [_], _ => rfl
abbrev s_named_day : Stmt := top 9
theorem c_named_day : FnScope ["wheel", "name"] ["wheel", "name"] (defScope s_named_day) := ⟨rfl, rfl, rfl, by decide +kernel, rfl, by decide +kernel, by decide +kernel⟩
theorem b_named_day : Bd "named_day" "named_day" s_named_day ["wheel", "name"] := fun _ _ _ _ _ _ us hl => match us, hl with | [_, _], _ => rfl
abbrev s_first_alike : Stmt := top 10
theorem c_first_alike : FnScope ["day", "step", "after"] ["day", "step", "after"] (defScope s_first_alike) := ⟨rfl, rfl, rfl, by decide +kernel, rfl, by decide +kernel, by decide +kernel⟩
theorem b_first_alike : Bd "first_alike" "first_alike" s_first_alike ["day", "step", "after"] := fun _ _ _ _ _ _ us hl => match us, hl with | [_, _, _], _ => rfl
abbrev s_l_draws : Stmt := top 12
theorem c_l_draws : FnScope ["_law_cell", "_law_cut", "_law_k"] ["_law_cell"] (defScope s_l_draws) := ⟨rfl, rfl, rfl, by decide +kernel, rfl, by decide +kernel, by decide +kernel⟩
theorem b_l_draws : Bd "_law_draws" "_law_draws" s_l_draws ["_law_cell"] := fun _ _ _ _ _ _ us hl => match us, hl with | [_], _ => rfl
abbrev s_l_next : Stmt := top 13
theorem c_l_next : FnScope ["_law_draws_here", "_law_k", "_law_number"] ["_law_draws_here"] (defScope s_l_next) := ⟨rfl, rfl, rfl, by decide +kernel, rfl, by decide +kernel, by decide +kernel⟩
theorem b_l_next : Bd "_law_next" "_law_next" s_l_next ["_law_draws_here"] := fun _ _ _ _ _ _ us hl => match us, hl with | [_], _ => rfl
abbrev s_l_whole : Stmt := top 14
theorem c_l_whole : FnScope ["_law_told"] ["_law_told"] (defScope s_l_whole) := ⟨rfl, rfl, rfl, by decide +kernel, rfl, by decide +kernel, by decide +kernel⟩
theorem b_l_whole : Bd "_law_whole" "_law_whole" s_l_whole ["_law_told"] := fun _ _ _ _ _ _ us hl => match us, hl with | [_], _ => rfl
abbrev s_l_unlike : Stmt := top 15
theorem c_l_unlike : FnScope ["_law_draws_here", "_law_most", "_law_pick", "_law_many", "_law_letters", "_law_told", "_law_k", "_law_a_name"] ["_law_draws_here", "_law_most"] (defScope s_l_unlike) := ⟨rfl, rfl, rfl, by decide +kernel, rfl, by decide +kernel, by decide +kernel⟩
theorem b_l_unlike : Bd "_law_unlike" "_law_unlike" s_l_unlike ["_law_draws_here", "_law_most"] := fun _ _ _ _ _ _ us hl => match us, hl with | [_, _], _ => rfl
abbrev s_l_far : Stmt := top 16
theorem c_l_far : FnScope ["_law_draws_here", "_law_pick"] ["_law_draws_here"] (defScope s_l_far) := ⟨rfl, rfl, rfl, by decide +kernel, rfl, by decide +kernel, by decide +kernel⟩
theorem b_l_far : Bd "_law_far" "_law_far" s_l_far ["_law_draws_here"] := fun _ _ _ _ _ _ us hl => match us, hl with | [_], _ => rfl
abbrev s_l_day : Stmt := top 17
theorem c_l_day : FnScope ["_law_draws_here", "_law_pick", "_law_some"] ["_law_draws_here"] (defScope s_l_day) := ⟨rfl, rfl, rfl, by decide +kernel, rfl, by decide +kernel, by decide +kernel⟩
theorem b_l_day : Bd "_law_day" "_law_day" s_l_day ["_law_draws_here"] := fun _ _ _ _ _ _ us hl => match us, hl with | [_], _ => rfl
abbrev s_l_on : Stmt := top 18
theorem c_l_on : FnScope ["_law_a_names", "_law_a_first", "_law_a_day"] ["_law_a_names", "_law_a_first", "_law_a_day"] (defScope s_l_on) := ⟨rfl, rfl, rfl, by decide +kernel, rfl, by decide +kernel, by decide +kernel⟩
theorem b_l_on : Bd "_law_on" "_law_on" s_l_on ["_law_a_names", "_law_a_first", "_law_a_day"] := fun _ _ _ _ _ _ us hl => match us, hl with | [_, _, _], _ => rfl
abbrev s_l_from_nought : Stmt := top 19
theorem c_l_from_nought : FnScope ["_law_a_names", "_law_a_first", "_law_a_day"] ["_law_a_names", "_law_a_first"] (defScope s_l_from_nought) := ⟨rfl, rfl, rfl, by decide +kernel, rfl, by decide +kernel, by decide +kernel⟩
theorem b_l_from_nought : Bd "_law_from_nought" "_law_from_nought" s_l_from_nought ["_law_a_names", "_law_a_first"] := fun _ _ _ _ _ _ us hl => match us, hl with | [_, _], _ => rfl
abbrev s_l_other : Stmt := top 20
theorem c_l_other : FnScope ["_law_draws_here", "_law_a_names", "_law_a_first", "_law_pick", "_law_by", "_law_turned", "_law_at", "_law_some", "_law_told", "_law_k"] ["_law_draws_here", "_law_a_names", "_law_a_first"] (defScope s_l_other) := ⟨rfl, rfl, rfl, by decide +kernel, rfl, by decide +kernel, by decide +kernel⟩
theorem b_l_other : Bd "_law_other" "_law_other" s_l_other ["_law_draws_here", "_law_a_names", "_law_a_first"] := fun _ _ _ _ _ _ us hl => match us, hl with | [_, _, _], _ => rfl
abbrev s_l_next_day : Stmt := top 21
theorem c_l_next_day : FnScope ["_law_a_names", "_law_a_first", "_law_a_day", "_law_a_name", "_law_k"] ["_law_a_names", "_law_a_first", "_law_a_day", "_law_a_name"] (defScope s_l_next_day) := ⟨rfl, rfl, rfl, by decide +kernel, rfl, by decide +kernel, by decide +kernel⟩
theorem b_l_next_day : Bd "_law_next_day" "_law_next_day" s_l_next_day ["_law_a_names", "_law_a_first", "_law_a_day", "_law_a_name"] := fun _ _ _ _ _ _ us hl => match us, hl with | [_, _, _, _], _ => rfl
abbrev s_l_days_right : Stmt := top 22
theorem c_l_days_right : FnScope ["_law_draws_here", "_law_wheel", "_law_a_names", "_law_a_first", "_law_days", "_law_a_day", "_law_a_name", "_law_told", "_law_due"] ["_law_draws_here", "_law_wheel", "_law_a_names", "_law_a_first"] (defScope s_l_days_right) := ⟨rfl, rfl, rfl, by decide +kernel, rfl, by decide +kernel, by decide +kernel⟩
theorem b_l_days_right : Bd "_law_days_right" "_law_days_right" s_l_days_right ["_law_draws_here", "_law_wheel", "_law_a_names", "_law_a_first"] := fun _ _ _ _ _ _ us hl => match us, hl with | [_, _, _, _], _ => rfl
abbrev s_l_fields_right : Stmt := top 23
theorem c_l_fields_right : FnScope ["_law_wheel", "_law_a_names", "_law_a_first"] ["_law_wheel", "_law_a_names", "_law_a_first"] (defScope s_l_fields_right) := ⟨rfl, rfl, rfl, by decide +kernel, rfl, by decide +kernel, by decide +kernel⟩
theorem b_l_fields_right : Bd "_law_fields_right" "_law_fields_right" s_l_fields_right ["_law_wheel", "_law_a_names", "_law_a_first"] := fun _ _ _ _ _ _ us hl => match us, hl with | [_, _, _], _ => rfl
abbrev s_l_right : Stmt := top 24
theorem c_l_right : FnScope ["_law_draws_here", "_law_a_names", "_law_a_first", "_law_handed", "_law_wheel", "_law_thing", "_law_others", "_law_start", "_law_other_here", "_law_due"] ["_law_draws_here"] (defScope s_l_right) := ⟨rfl, rfl, rfl, by decide +kernel, rfl, by decide +kernel, by decide +kernel⟩
theorem b_l_right : Bd "_law_right" "_law_right" s_l_right ["_law_draws_here"] := fun _ _ _ _ _ _ us hl => match us, hl with | [_], _ => rfl
abbrev s_law : Stmt := top 25
theorem c_law : FnScope ["_law_script", "_law_cell"] ["_law_script"] (defScope s_law) := ⟨rfl, rfl, rfl, by decide +kernel, rfl, by decide +kernel, by decide +kernel⟩
theorem b_law : Bd "law" "law" s_law ["_law_script"] := fun _ _ _ _ _ _ us hl => match us, hl with | [_], _ => rfl
def mu2 (i : Nat) : L2.St → Hp → Nat := fun σ _ => match σ[i]? with
  | some (some (.int b)) => b.natAbs
  | _ => 0
/-! ### the law's draws -/
theorem md {j : Int} (h : 0 < j := by decide) : 0 < j := h
/-- at l stand draws, of which at most n were taken -/
def Dr (H : Hp) (l : Addr) (n : Nat) : Prop := ∃ (d k : Int) (f : Bool), H l = some (.lst [.int d, .int k, .bl f]) ∧ 0 ≤ k ∧ k ≤ n
/-- all but what stands at l is as it was -/
def But (l : Addr) (H H' : Hp) : Prop := ∀ b o, b ≠ l → H b = some o → H' b = some o
theorem But.refl {l : Addr} {H : Hp} : But l H H := fun _ _ _ h => h
theorem But.trans {l : Addr} {H H1 H2 : Hp} (a : But l H H1) (b : But l H1 H2) : But l H H2 := fun c o hc h => b c o hc (a c o hc h)
theorem But.same {l : Addr} {H H1 : Hp} (a : Same H H1) : But l H H1 := fun c o _ h => a c o h
theorem But.upd {l : Addr} {H H1 : Hp} {p : Addr} {o : HO} (a : But l H H1) (h : H1 p = none) : But l H (upd H1 p o) := fun c u hc e => by
  rw [upd_ne (ne_of_none (a c u hc e) h)]
  exact a c u hc e
theorem But.tup {l p : Addr} {H H1 : Hp} {n : Nat} {xs : List V} (a : But l H H1) (d : Dr H l n) (h : H p = some (.tup xs)) : H1 p = some (.tup xs) := by
  obtain ⟨_, _, _, hl, _⟩ := d
  exact a _ _ (ne_of h hl (by intro z; cases z)) h
theorem But.ins {l p C dx : Addr} {H H1 : Hp} {n : Nat} {fs : List (Str × V)} (a : But l H H1) (d : Dr H l n) (h : H p = some (.ins C dx fs)) : H1 p = some (.ins C dx fs) := by
  obtain ⟨_, _, _, hl, _⟩ := d
  exact a _ _ (ne_of h hl (by intro z; cases z)) h
theorem Same.upd {H H1 : Hp} {p : Addr} {o : HO} (a : Same H H1) (h : H1 p = none) : Same H (upd H1 p o) := fun c u e => by
  rw [upd_ne (ne_of_none (a c u e) h)]
  exact a c u e
theorem Same.new {H : Hp} {p : Addr} {o : HO} (h : H p = none) : Same H (L2.upd H p o) := Same.upd (Same.refl H) h
theorem Dr.same {H H1 : Hp} {l : Addr} {n m : Nat} (d : Dr H l n) (s : Same H H1) (h : n ≤ m) : Dr H1 l m := by
  obtain ⟨d, k, f, hl, h1, h2⟩ := d
  exact ⟨d, k, f, s _ _ hl, h1, by omega⟩
theorem Dr.mono {H : Hp} {l : Addr} {n m : Nat} (d : Dr H l n) (h : n ≤ m) : Dr H l m := d.same (Same.refl H) h
theorem Dr.new {H : Hp} {l p : Addr} {n : Nat} {o : HO} (d : Dr H l n) (h : H p = none) : Dr (L2.upd H p o) l n := d.same (Same.new h) (Nat.le_refl _)
def spDraws : Sp := fun vs H Q _ => ∃ c : Int, vs = [.int c] ∧ ∀ p H', H p = none → Same H H' → Dr H' p 0 → Q (.ref p) H'
def spNext : Sp := fun vs H Q _ => ∃ (l : Addr) (n : Nat), vs = [.ref l] ∧ Dr H l n ∧ n ≤ 1000000 ∧ ∀ v H', 0 ≤ v → v < 306783369 → But l H H' → Dr H' l (n + 1) → Q (.int v) H'
section
variable {P : Program} {w : World} {K : PySem.W.Frag} {mg : Str → Option Value} {base : Heap}
theorem ok_draws (D : Df K mg "_law_draws" s_l_draws []) (hra : mg "range" = none) : Ca P w K mg base CX0 1 "_law_draws" s_l_draws [] ["_law_cell"] spDraws := by
  refine ca0 (k := 0) D c_l_draws (fun vs H Q E h => ?_) fun f cdv A outer s H vs Q E hr h => ?_
  · obtain ⟨c, rfl, _⟩ := h
    rfl
  · obtain ⟨c, rfl, q⟩ := h
    refine ⟨_, pss_cons (ps_set (i := 1) c_l_draws.nd rfl (.inl rfl) (pe_op op_pow pe_int pe_int))
      (pss_cons (ps_for PassesOwn.never rfl (pi_range1 rfl hra (pa_cons pe_int pa_nil)) (pg_name (i := 2) c_l_draws.nd rfl (.inl rfl)) (pss_one (ps_set (i := 1) c_l_draws.nd rfl (.inl rfl) (pe_op op_mulA (pv 1) (pv 1)))))
      (pss_one (ps_ret (pe_lst (pa_cons (pe_op op_mod (pv 0) (pv 1)) (pa_cons pe_int (pa_cons (pe_cmpR op_ge (pv 0) (pe_op op_pow pe_int pe_int) (nomark _)) pa_nil))))))), ?_⟩
    refine ⟨_, _, rfl, rfl, ⟨by decide, by decide, by decide⟩, 7, rfl, by decide, by decide, ?_⟩
    refine for_range (n := 7) (fun i σ H' => ∃ (z : Int) (v : Option V), σ = [some (.int c), some (.int z), v] ∧ 0 < z ∧ Sz (200 * 2 ^ i) z ∧ H' = H) ⟨_, _, rfl, by decide, (by show (10 ^ 60 : Int).natAbs < 2 ^ (200 * 2 ^ 0); decide), rfl⟩ ?_ ?_
    · rintro i σ H' hi ⟨z, v, rfl, h0, hz, rfl⟩
      have l1 : 2 ^ i ≤ 2 ^ 6 := Nat.pow_le_pow_right (by decide) (by omega)
      have hz' : Sz 100000 z := hz.mono (Nat.le_trans (Nat.mul_le_mul_left 200 l1) (by decide))
      refine ⟨_, rfl, _, rfl, _, _, rfl, rfl, ⟨hz', hz'⟩, ⟨z * z, _, rfl, Int.mul_pos h0 h0, ?_, rfl⟩⟩
      exact (hz.mul hz).mono (by rw [Nat.pow_succ]; omega)
    · rintro σ H' ⟨z, v, rfl, h0, hz, rfl⟩
      refine ⟨_, rfl, _, rfl, _, _, rfl, rfl, h0, _, rfl, _, _, rfl, rfl, ⟨by decide, by decide, by decide⟩, _, _, rfl, rfl, (by show 3 ≤ sizeLine; decide), fun p hp => ?_⟩
      exact q p _ hp (Same.new hp) ⟨_, _, _, upd_same, by decide, by decide⟩
end
section
variable {P : Program} {w : World} {K : PySem.W.Frag} {mg : Str → Option Value} {base : Heap}
theorem ok_next (D : Df K mg "_law_next" s_l_next []) : Ca P w K mg base CX0 1 "_law_next" s_l_next [] ["_law_draws_here"] spNext := by
  refine ca0 (k := 0) D c_l_next (fun vs H Q E h => ?_) fun f cdv A outer s H vs Q E hr h => ?_
  · obtain ⟨l, n, rfl, _⟩ := h
    rfl
  · obtain ⟨l, n, rfl, ⟨d, k, fl, hl, k0, k1⟩, hn, q⟩ := h
    refine ⟨_, pss_cons (ps_asg (pe_op op_add (pe_ix ix_list (pv 0) pe_int (fun _ _ => rfl)) pe_int) (pg_sub (pv 0) pe_int set_list))
      (pss_cons (ps_set (i := 1) c_l_next.nd rfl (.inl rfl) (pe_ix ix_list (pv 0) pe_int (fun _ _ => rfl)))
      (pss_cons (ps_if (pt_val (pe_ix ix_list (pv 0) pe_int (fun _ _ => rfl)))
        (pss_cons (ps_set (i := 2) c_l_next.nd rfl (.inl rfl) (pe_op op_mod (pe_ix ix_list (pv 0) pe_int (fun _ _ => rfl)) (pe_op op_pow pe_int pe_int)))
        (pss_cons (ps_asg (pe_op op_fdiv (pe_ix ix_list (pv 0) pe_int (fun _ _ => rfl)) (pe_op op_pow pe_int pe_int)) (pg_sub (pv 0) pe_int set_list))
        (pss_one (ps_ret (pv 2))))) pss_nil)
      (pss_cons (ps_set (i := 2) c_l_next.nd rfl (.inl rfl) (pe_op op_mod (pe_op op_mul (pe_op op_add (pe_op op_add (pe_op op_mod (pe_ix ix_list (pv 0) pe_int (fun _ _ => rfl)) pe_int) (pe_op op_mul (pe_op op_mul (pv 1) (pv 1)) pe_int)) (pv 1)) pe_int) pe_int))
      (pss_cons (ps_set (i := 2) c_l_next.nd rfl (.inl rfl) (pe_op op_mod (pe_op op_mul (pv 2) (pv 2)) pe_int))
      (pss_one (ps_ret (pe_op op_fdiv (pe_op op_mod (pe_op op_mul (pv 2) (pe_op op_add (pv 2) pe_int)) pe_int) pe_int))))))), ?_⟩
    refine ⟨_, rfl, l, _, _, _, rfl, rfl, SqL.of hl, rfl, _, _, rfl, rfl, _, rfl, l, _, _, _, rfl, rfl, hl, rfl, ?_⟩
    refine ⟨_, rfl, l, _, _, _, rfl, rfl, SqL.of upd_same, rfl, ?_⟩
    refine ⟨_, rfl, l, _, _, _, rfl, rfl, SqL.of upd_same, rfl, _, rfl, ?_⟩
    cases fl with
    | true =>
      refine iteT ?_
      refine ⟨_, rfl, l, _, _, _, rfl, rfl, SqL.of upd_same, rfl, _, _, rfl, rfl, ⟨by decide, by decide, by decide⟩, _, _, rfl, rfl, md, ?_⟩
      refine ⟨_, rfl, l, _, _, _, rfl, rfl, SqL.of upd_same, rfl, _, _, rfl, rfl, ⟨by decide, by decide, by decide⟩, _, _, rfl, rfl, ⟨by decide, by decide⟩, _, rfl, l, _, _, _, rfl, rfl, upd_same, rfl, ?_⟩
      refine ⟨_, rfl, ?_⟩
      have h1 := Int.emod_nonneg d (show (1000000 : Int) ≠ 0 by decide)
      have h2 := Int.emod_lt_of_pos d (show (0 : Int) < 1000000 by decide)
      refine q (d % 1000000) _ h1 (by omega) (fun b o hb e => ?_) ⟨_, _, _, upd_same, by omega, by omega⟩
      rw [upd_ne hb, upd_ne hb]
      exact e
    | false =>
      refine iteF ?_
      have g1 := Int.emod_nonneg ((d % 1000003 + (k + 1) * (k + 1) * 7919 + (k + 1)) * 48271) (show (2147483629 : Int) ≠ 0 by decide)
      have g2 := Int.emod_lt_of_pos ((d % 1000003 + (k + 1) * (k + 1) * 7919 + (k + 1)) * 48271) (show (0 : Int) < 2147483629 by decide)
      refine ⟨_, rfl, l, _, _, _, rfl, rfl, SqL.of upd_same, rfl, _, _, rfl, rfl, md, _, rfl, _, rfl, _, _, rfl, rfl, .inl ⟨by omega, by omega⟩, _, _, rfl, rfl, .inr ⟨by decide, by decide⟩, _, _, rfl, rfl, _, rfl, _, _, rfl, rfl, _, _, rfl, rfl, .inr ⟨by decide, by decide⟩, _, _, rfl, rfl, md, ?_⟩
      refine ⟨_, rfl, _, rfl, _, _, rfl, rfl, .inl ⟨Int.lt_of_lt_of_le (by decide) g1, Int.lt_trans g2 (by decide)⟩, _, _, rfl, rfl, md, ?_⟩
      generalize hz : ((d % 1000003 + (k + 1) * (k + 1) * 7919 + (k + 1)) * 48271 % 2147483629) * ((d % 1000003 + (k + 1) * (k + 1) * 7919 + (k + 1)) * 48271 % 2147483629) = z
      have i1 := Int.emod_nonneg z (show (2147483587 : Int) ≠ 0 by decide)
      have i2 := Int.emod_lt_of_pos z (show (0 : Int) < 2147483587 by decide)
      refine ⟨_, rfl, _, rfl, _, _, rfl, rfl, _, _, rfl, rfl, .inl ⟨Int.lt_of_lt_of_le (by decide) i1, Int.lt_trans i2 (by decide)⟩, _, _, rfl, rfl, md, _, _, rfl, rfl, ⟨by decide, by decide⟩, ?_⟩
      have j1 := Int.emod_nonneg (z % 2147483587 * (z % 2147483587 + 2)) (show (2147483579 : Int) ≠ 0 by decide)
      have j2 := Int.emod_lt_of_pos (z % 2147483587 * (z % 2147483587 + 2)) (show (0 : Int) < 2147483579 by decide)
      refine q (z % 2147483587 * (z % 2147483587 + 2) % 2147483579 / 7) _ (by omega) (by omega) (fun b o hb e => ?_) ⟨_, _, _, upd_same, by omega, by omega⟩
      rw [upd_ne hb]
      exact e
end
/-! ### the __init__ of own errors -/
/-- a def of a class that is an exception's -/
structure Dx (K : PySem.W.Frag) (C : Addr) (qual : Str) (st : Stmt) : Prop where
  ex : ∃ (f : Addr) (fd : FuncData), FunD K "__init__" qual (defArgs st) (defBody st) (defScope st) [] [] f fd ∧ PySem.W.findIn K (.ref C) "__init__" = some (some (.ref f)) ∧ PySem.W.typeIn K (.ref f) = some (.type "function")
structure Cx1 (P : Program) (w : World) (K : PySem.W.Frag) (mg : Str → Option Value) (base : Heap) (k : Nat) (C : Addr) (qual : Str) (st : Stmt) (ps : List Str) (sp : Sp) : Prop where
  ex : ∃ (f : Addr) (fd : FuncData), FunD K "__init__" qual (defArgs st) (defBody st) (defScope st) [] [] f fd ∧ PySem.W.findIn K (.ref C) "__init__" = some (some (.ref f)) ∧ PySem.W.typeIn K (.ref f) = some (.type "function") ∧ FnOk P w K mg base CX0 k f fd ps sp
theorem str_app_len (a b : Str) : (a ++ b).length = a.length + b.length := by
  show (a.cps ++ b.cps).size = a.cps.size + b.cps.size
  exact Array.size_append
/-! ### figures of numbers -/
def spNum : Sp := fun vs H Q _ => ∃ (i : Int) (b : Nat), vs = [.int i, .int (b : Int)] ∧ 2 ≤ b ∧ b ≤ 16 ∧ Sz 200 i ∧ ∀ H', Same H H' → Q (.str (numT b i)) H'
theorem numT_len {b : Nat} {i : Int} (hb : 2 ≤ b) (h : Sz 200 i) : (numT b i).length ≤ 201 := by
  have h1 := lsd_len hb 200 i.natAbs h (by decide)
  unfold numT
  split
  · rw [dash_txt_len, List.length_reverse]
    omega
  · rw [txt_len, List.length_reverse]
    omega
theorem abs_nat (i : Int) : (if i < 0 then -i else i) = ((i.natAbs : Nat) : Int) := by
  split <;> omega
theorem sum_one : ∀ ds : List Nat, ((ds.map sg).map (·.length)).sum = ds.length
  | [] => rfl
  | d :: ds => by
    rw [List.map_cons, List.map_cons, List.sum_cons, sum_one ds, List.length_cons]
    show 1 + _ = _
    omega
theorem len_sg {ds : List Nat} (h : ds.length ≤ 200) : ((ds.map sg).reverse.map (·.length)).sum + (ds.map sg).reverse.length * ("" : Str).length ≤ 16777216 := by
  have e : ("" : Str).length = 0 := by decide +kernel
  rw [e, Nat.mul_zero, ← List.map_reverse, sum_one, List.length_reverse]
  omega
theorem len_dash {ds : List Nat} (h : ds.length ≤ 200) : ((ds.map sg ++ [("-" : Str)]).reverse.map (·.length)).sum + (ds.map sg ++ [("-" : Str)]).reverse.length * ("" : Str).length ≤ 16777216 := by
  have e : ("" : Str).length = 0 := by decide +kernel
  rw [e, Nat.mul_zero, List.reverse_append, List.map_append, List.sum_append, ← List.map_reverse, sum_one, List.length_reverse]
  have e2 : (List.map (fun x : Str => x.length) [("-" : Str)].reverse).sum = 1 := by decide +kernel
  rw [e2]
  omega
theorem szb {b n : Nat} (h : b ≤ 16) (hn : 5 ≤ n) : Sz n ((b : Nat) : Int) := Nat.lt_of_lt_of_le (show ((b : Nat) : Int).natAbs < 2 ^ 5 by omega) (Nat.pow_le_pow_right (by decide) hn)
section
variable {P : Program} {w : World} {K : PySem.W.Frag} {mg : Str → Option Value} {base : Heap}
theorem ok_num (D : Df K mg "numeral" s_numeral [.int 10]) {tk : Tok} (h_FIGURES : mg "FIGURES" = some (.str FIG tk)) (g_abs : mg "abs" = none) (g_reversed : mg "reversed" = none) : Ca P w K mg base CX0 1 "numeral" s_numeral [.int 10] ["number", "base"] spNum := by
  refine ca0 (k := 0) D c_numeral (fun vs H Q E h => ?_) fun f cdv A outer s H vs Q E hr h => ?_
  · obtain ⟨i, b, rfl, _⟩ := h
    rfl
  · obtain ⟨i, b, rfl, h2, h16, zi, q⟩ := h
    refine ⟨_, (pss_cons (ps_set (i := 2) c_numeral.nd rfl (.inl rfl) (pe_callB call_abs rfl g_abs (by decide +kernel) (pa_cons (pv 0) pa_nil)))
      (pss_cons (ps_set (i := 3) c_numeral.nd rfl (.inl rfl) (pe_lst (pa_cons (pe_ix ix_str (pe_glob (v := .str FIG) rfl h_FIGURES ⟨_, rfl⟩) (pe_op op_mod (pv 2) (pv 1)) (fun _ _ => rfl)) pa_nil)))
      (pss_cons (ps_while PassesOwn.never (pt_cmpR op_ge (pv 2) (pv 1) (nomark _)) (pss_cons (ps_set (i := 2) c_numeral.nd rfl (.inl rfl) (pe_op op_fdivA (pv 2) (pv 1)))
      (pss_one (ps_expr (pe_bm PySem.F.plainAttrs_list PySem.F.slot_list_append PySem.F.type_list_append mt_append (pv 3) (pa_cons (pe_ix ix_str (pe_glob (v := .str FIG) rfl h_FIGURES ⟨_, rfl⟩) (pe_op op_mod (pv 2) (pv 1)) (fun _ _ => rfl)) pa_nil))))))
      (pss_cons (ps_if (pt_cmpR op_lt (pv 0) pe_int (nomark _)) (pss_one (ps_expr (pe_bm PySem.F.plainAttrs_list PySem.F.slot_list_append PySem.F.type_list_append mt_append (pv 3) (pa_cons pe_str pa_nil)))) pss_nil)
      (pss_one (ps_ret (pe_joinRev rfl pe_str rfl g_reversed (pv 3)))))))), ?_⟩
    have hl := lsd_len h2 200 i.natAbs zi (by decide)
    have hb0 : (0 : Int) < (b : Int) := by omega
    have md' : ∀ r : Nat, ((r : Nat) : Int) % (b : Int) = ((r % b : Nat) : Int) := fun r => (Int.natCast_emod r b).symm
    have dv' : ∀ r : Nat, ((r : Nat) : Int).fdiv (b : Int) = ((r / b : Nat) : Int) := fun r => by
      rw [Int.fdiv_eq_ediv_of_nonneg _ (by omega)]
      exact (Int.natCast_ediv r b).symm
    have lt16 : ∀ r : Nat, r % b < 16 := fun r => Nat.lt_of_lt_of_le (Nat.mod_lt _ (by omega)) h16
    have fa : ∀ r : Nat, atI FIG.cps.toList (((r : Nat) : Int) % (b : Int)) = some (dg (r % b)) := fun r => by
      rw [md']
      exact fig_at (lt16 r)
    have fl : FIG.length ≤ sizeLine := by rw [fig_len]; decide
    refine ⟨_, rfl, i, rfl, ?_⟩
    rw [abs_nat]
    refine ⟨_, rfl, _, rfl, _, _, rfl, rfl, hb0, FIG, _, dg (i.natAbs % b), rfl, rfl, fl, fa _, (by show 1 ≤ sizeLine; decide), fun l nl => ?_⟩
    have e0 : ([V.str ⟨#[dg (i.natAbs % b)]⟩] : List V) = ((([] : List Nat) ++ [i.natAbs % b]).map sg).map V.str := rfl
    rw [e0]
    refine while_by (fun σ H' => ∃ (pre : List Nat) (r : Nat), σ = [some (.int i), some (.int (b : Int)), some (.int ((r : Nat) : Int)), some (.ref l)] ∧ pre ++ lsd b r = lsd b i.natAbs ∧ H' = L2.upd H l (.lst (((pre ++ [r % b]).map sg).map V.str))) (mu2 2) ⟨[], i.natAbs, rfl, rfl, rfl⟩ ?_ (fun σ H' R R' hq ⟨v, h1, v2, h12, a, c, h2, h3, k, h4, h5⟩ => ⟨v, h1, v2, h12, a, c, h2, h3, k, h4, hq _ _ h5⟩)
    rintro σ H' ⟨pre, r, rfl, hp, rfl⟩
    refine ⟨_, rfl, _, rfl, _, _, rfl, rfl, _, rfl, ?_⟩
    have plen : (pre ++ [r % b]).length ≤ 200 := by
      have h3 : (pre ++ lsd b r).length ≤ 200 := by rw [hp]; exact hl
      have h4 : 0 < (lsd b r).length := List.length_pos_iff.mpr (lsd_ne b r)
      rw [List.length_append] at h3 ⊢
      simp only [List.length_singleton]
      omega
    by_cases hr' : b ≤ r
    · rw [decide_eq_true (show ((r : Nat) : Int) ≥ (b : Int) by omega)]
      refine iteT ?_
      refine ⟨_, rfl, _, rfl, _, _, rfl, rfl, ⟨by omega, szb h16 (by decide)⟩, ?_⟩
      rw [show (fun i j : Int => V.int (Int.fdiv i j)) ((r : Nat) : Int) (b : Int) = V.int ((r / b : Nat) : Int) from congrArg V.int (dv' r)]
      refine ⟨_, rfl, .inl ⟨rfl, _, SqL.of upd_same⟩, _, rfl, _, rfl, _, _, rfl, rfl, hb0, FIG, _, dg (r / b % b), rfl, rfl, fl, fa _, l, _, _, rfl, rfl, upd_same, ?_, ?_⟩
      · rw [List.length_map, List.length_map]
        exact Nat.lt_of_le_of_lt plen (by decide)
      · refine ⟨⟨pre ++ [r % b], r / b, rfl, ?_, ?_⟩, ?_⟩
        · rw [← hp, lsd_ge h2 hr', List.append_assoc]
          rfl
        · rw [upd_upd]
          congr 1
          rw [List.map_append (l₁ := pre ++ [r % b]), List.map_append (l₁ := (pre ++ [r % b]).map sg)]
          rfl
        · show (((r / b : Nat) : Int)).natAbs < (((r : Nat) : Int)).natAbs
          rw [Int.natAbs_natCast, Int.natAbs_natCast]
          exact Nat.div_lt_self (show 0 < r by omega) (show 1 < b by omega)
    · rw [decide_eq_false (show ¬ ((r : Nat) : Int) ≥ (b : Int) by omega)]
      refine iteF ?_
      have er : pre ++ [r % b] = lsd b i.natAbs := by
        rw [← hp, lsd_lt (by omega), Nat.mod_eq_of_lt (by omega)]
      rw [er]
      refine ⟨_, rfl, _, _, rfl, rfl, _, rfl, ?_⟩
      by_cases hn : i < 0
      · rw [decide_eq_true hn]
        refine iteT ?_
        refine ⟨_, rfl, .inl ⟨rfl, _, SqL.of upd_same⟩, l, _, _, rfl, rfl, upd_same, ?_, ?_⟩
        · rw [List.length_map, List.length_map]
          exact Nat.lt_of_le_of_lt hl (by decide)
        rw [upd_upd]
        have e1 : ((lsd b i.natAbs).map sg).map V.str ++ [V.str ("-" : Str)] = ((lsd b i.natAbs).map sg ++ [("-" : Str)]).map V.str := by
          rw [List.map_append]
          rfl
        rw [e1]
        refine ⟨⟨_, rfl⟩, _, rfl, _, l, _, rfl, rfl, SqL.of upd_same, ?_, ?_⟩
        · exact len_dash hl
        · rw [join_dash]
          have q2 := q _ (Same.new (o := .lst (((lsd b i.natAbs).map sg ++ [("-" : Str)]).map V.str)) nl)
          unfold numT at q2
          rw [if_pos hn] at q2
          exact q2
      · rw [decide_eq_false hn]
        refine iteF ?_
        refine ⟨⟨_, rfl⟩, _, rfl, _, l, _, rfl, rfl, SqL.of upd_same, ?_, ?_⟩
        · exact len_sg hl
        · rw [join_sg]
          have q2 := q _ (Same.new (o := .lst (((lsd b i.natAbs).map sg).map V.str)) nl)
          unfold numT at q2
          rw [if_neg hn] at q2
          exact q2
end
theorem kit_self {K : PySem.W.Frag} {C : Addr} : PySem.W.kitOne K (.ref C) (.ref C) = some true := by
  unfold PySem.W.kitOne
  rw [if_pos (by simp)]
/-! ### Wheel, its names a tuple that is known to the object -/
structure WhT (K : PySem.W.Frag) (C : Addr) : Prop where
  cl : Cls K C
  n1 : NoAttr K C "names"
  n2 : NoAttr K C "first"
def wfs (t : Addr) (i : Int) : List (Str × V) := putF "first" (.int i) (putF "names" (.ref t) [])
theorem nf_ : ¬ (("names" : Str) = "first") := by decide +kernel
theorem wf_names (t : Addr) (i : Int) : (wfs t i).lookup ("names" : Str) = some (.ref t) := by
  unfold wfs
  rw [lookup_putF, if_neg nf_, lookup_putF, if_pos rfl]
theorem wf_first (t : Addr) (i : Int) : (wfs t i).lookup ("first" : Str) = some (.int i) := by
  unfold wfs
  rw [lookup_putF, if_pos rfl]
theorem wf_no (t : Addr) (i : Int) {x : Str} (h1 : ¬ (x = ("first" : Str))) (h2 : ¬ (x = ("names" : Str))) : (wfs t i).lookup x = none := by
  unfold wfs
  rw [lookup_putF, if_neg h1, lookup_putF, if_neg h2]
  rfl
/-- names, and the day that the first of them has -/
abbrev Wd : Type := List Str × Int
/-- names of which a wheel can be made -/
structure NmG (ns : List Str) : Prop where
  ne : ns ≠ []
  nd : ns.Nodup
  len : ns.length ≤ 62
theorem NmG.pos {ns : List Str} (g : NmG ns) : 0 < ns.length := List.length_pos_iff.mpr g.ne
/-- at p a Wheel of these names -/
def Wf (C : Addr) (H : Hp) (p : Addr) (x : Wd) : Prop := ∃ dx t, H p = some (.ins C dx (wfs t x.2)) ∧ Tf H t (x.1.map V.str)
theorem Wf.same {C : Addr} {H H1 : Hp} {p : Addr} {x : Wd} (h : Wf C H p x) (s : Same H H1) : Wf C H1 p x :=
  let ⟨dx, t, e, e1⟩ := h
  ⟨dx, t, s _ _ e, e1.same s⟩
theorem Wf.but {C l : Addr} {H H1 : Hp} {p : Addr} {x : Wd} {n : Nat} (h : Wf C H p x) (d : Dr H l n) (b : But l H H1) : Wf C H1 p x := by
  obtain ⟨_, _, _, hl, _⟩ := d
  obtain ⟨dx, t, e, o, e1, r⟩ := h
  exact ⟨dx, t, b _ _ (ne_of e hl (by intro z; cases z)) e, o, b _ _ (ne_of e1 hl (by intro z; cases z)) e1, r⟩
/-- the name of a day -/
def nmA (x : Wd) (d : Int) : Str := x.1.getD ((d - x.2) % (x.1.length : Int)).toNat Str.empty
/-- a day of a name -/
def dyA (x : Wd) (n : Str) : Int := x.2 + (x.1.idxOf n : Int)
theorem nmA_mem {x : Wd} (g : NmG x.1) (d : Int) : nmA x d ∈ x.1 := by
  have l0 := g.pos
  have h0 := Int.emod_nonneg (d - x.2) (show (x.1.length : Int) ≠ 0 by omega)
  have h1 := Int.emod_lt_of_pos (d - x.2) (show (0 : Int) < (x.1.length : Int) by omega)
  unfold nmA
  rw [List.getD_eq_getElem?_getD, List.getElem?_eq_getElem (by omega)]
  exact List.getElem_mem _
theorem nod_idx {ns : List Str} (h : ns.Nodup) {i : Nat} (hi : i < ns.length) : ns.idxOf ns[i] = i := by
  have h1 : ns.idxOf ns[i] < ns.length := List.idxOf_lt_length_iff.mpr (List.getElem_mem hi)
  have h2 := List.getElem_idxOf h1
  exact (List.getElem_inj h).mp h2
/-- two days have one name just where they lie whole rounds apart -/
theorem nmA_eq {x : Wd} (g : NmG x.1) (d e : Int) : nmA x d = nmA x e ↔ (x.1.length : Int) ∣ d - e := by
  have l0 := g.pos
  have h0 := Int.emod_nonneg (d - x.2) (show (x.1.length : Int) ≠ 0 by omega)
  have h1 := Int.emod_lt_of_pos (d - x.2) (show (0 : Int) < (x.1.length : Int) by omega)
  have k0 := Int.emod_nonneg (e - x.2) (show (x.1.length : Int) ≠ 0 by omega)
  have k1 := Int.emod_lt_of_pos (e - x.2) (show (0 : Int) < (x.1.length : Int) by omega)
  have key : (d - x.2) % (x.1.length : Int) = (e - x.2) % (x.1.length : Int) ↔ (x.1.length : Int) ∣ d - e := by
    rw [Int.emod_eq_emod_iff_emod_sub_eq_zero]
    rw [show d - x.2 - (e - x.2) = d - e by omega]
    exact (Int.dvd_iff_emod_eq_zero).symm
  rw [← key]
  unfold nmA
  rw [List.getD_eq_getElem?_getD, List.getD_eq_getElem?_getD, List.getElem?_eq_getElem (by omega), List.getElem?_eq_getElem (by omega)]
  constructor
  · intro h
    have h : x.1[((d - x.2) % (x.1.length : Int)).toNat]'(by omega) = x.1[((e - x.2) % (x.1.length : Int)).toNat]'(by omega) := h
    have := (List.getElem_inj g.nd).mp h
    omega
  · intro h
    simp only [h]
/-- the days of a name -/
theorem nmA_iff {x : Wd} (g : NmG x.1) {n : Str} (h : n ∈ x.1) (d : Int) : nmA x d = n ↔ (x.1.length : Int) ∣ d - dyA x n := by
  have hi : x.1.idxOf n < x.1.length := List.idxOf_lt_length_iff.mpr h
  have e : nmA x (dyA x n) = n := by
    unfold nmA dyA
    rw [show x.2 + (x.1.idxOf n : Int) - x.2 = (x.1.idxOf n : Int) by omega, Int.emod_eq_of_lt (by omega) (by omega)]
    rw [Int.toNat_natCast, List.getD_eq_getElem?_getD, List.getElem?_eq_getElem hi]
    exact List.getElem_idxOf hi
  rw [← nmA_eq g, e]
def spWzI (C : Addr) : Sp := fun vs H Q _ => ∃ (p dx l : Addr) (i : Int) (ns : List Str), vs = [.ref p, .ref l, .int i] ∧ H p = some (.ins C dx []) ∧ H l = some (.lst (ns.map V.str)) ∧ NmG ns ∧ ∀ H', But p H H' → Wf C H' p (ns, i) → Q .non H'
def spNo (C : Addr) : Sp := fun vs H Q _ => ∃ (p : Addr) (d : Int) (x : Wd), vs = [.ref p, .int d] ∧ Wf C H p x ∧ NmG x.1 ∧ Q (.str (nmA x d)) H
def spWn (C : Addr) : Sp := fun vs H Q _ => ∃ (p : Addr) (x : Wd), vs = [.ref p] ∧ Wf C H p x ∧ NmG x.1 ∧ Q (.int (x.1.length : Nat)) H
def spNaG (C : Addr) : Sp := fun vs H Q _ => ∃ (p : Addr) (n : Str) (x : Wd), vs = [.ref p, .str n] ∧ Wf C H p x ∧ NmG x.1 ∧ n ∈ x.1 ∧ Q (.int (dyA x n)) H
def spAlk : Sp := fun vs H Q _ => ∃ a s b : Int, vs = [.int a, .int s, .int b] ∧ 0 < s ∧ Q (.int (b + (a - b) % s)) H
theorem inV_dec (x : Str) (ns : List Str) : inV (V.str x) (ns.map V.str) = decide (x ∈ ns) := by
  unfold inV
  rw [List.any_map]
  by_cases h : x ∈ ns
  · rw [decide_eq_true h, List.any_eq_true]
    exact ⟨x, h, by simp [eqV]⟩
  · rw [decide_eq_false h, List.any_eq_false]
    intro y hy e
    exact h (by simp [eqV] at e; rw [← e]; exact hy)
theorem idx_first {n : Str} : ∀ {ns : List Str} (m : Nat), m < ns.idxOf n → ns[m]? ≠ some n
  | [], m, h => by simp at h
  | y :: r, 0, h => by
    intro e
    have e : y = n := Option.some.inj e
    subst e
    simp at h
  | y :: r, m + 1, h => by
    rw [List.getElem?_cons_succ]
    refine idx_first m ?_
    rw [List.idxOf_cons] at h
    cases hb : (y == n) with
    | true => rw [hb] at h; simp at h
    | false => rw [hb] at h; simp at h; omega
section
variable {P : Program} {w : World} {K : PySem.W.Frag} {mg : Str → Option Value} {base : Heap} {C : Addr}
theorem ok_wzI (D : Di K mg "Wheel" C "Wheel.__init__" s_Wheel_init [.int 0]) (W : WhT K C) (g_len : mg "len" = none) (g_set : mg "set" = none) (g_tuple : mg "tuple" = none) :
    Ci P w K mg base CX0 3 "Wheel" C "Wheel.__init__" s_Wheel_init [.int 0] ["self", "names", "first"] (spWzI C) := by
  refine ci0 (k := 2) D c_Wheel_init (fun vs H Q E h => ?_) fun f cdv A outer s H vs Q E hr h => ?_
  · obtain ⟨p, dx, l, i, ns, rfl, _⟩ := h
    rfl
  · obtain ⟨p, dx, l, i, ns, rfl, hp, hl, g, q⟩ := h
    have hn := g.len
    have h1 : ns.length ≠ 0 := fun z => g.ne (List.length_eq_zero_iff.mp z)
    refine ⟨_, (pss_cons (ps_if (PW.pt (pw_or (pt_cmpR op_eq (pe_callB call_len_seq rfl g_len (by decide +kernel) (pa_cons (pv 1) pa_nil)) pe_int (nomark _)) (pw_or1 (pt_cmpR op_lt (pe_lenSetL rfl rfl g_len rfl g_set (pv 1)) (pe_callB call_len_seq rfl g_len (by decide +kernel) (pa_cons (pv 1) pa_nil)) (nomark _))))) (pss_one ps_never) pss_nil)
      (pss_cons (ps_fld (pv 0) (pe_callTy call_tupF rfl g_tuple (by decide +kernel) (pa_cons (pv 1) pa_nil)) rfl)
      (pss_one (ps_fld (pv 0) (pv 2) rfl)))), ?_⟩
    refine ⟨_, rfl, l, _, rfl, .inl (SqL.of hl), rfl, _, rfl, ?_⟩
    rw [List.length_map, decide_eq_false (show ¬ V.int ((ns.length : Nat) : Int) = V.int 0 from fun z => by injection z with z; omega)]
    refine iteF ⟨_, rfl, l, ns, rfl, SqL.of hl, (by unfold scanBound; omega), _, rfl, l, _, rfl, .inl (SqL.of hl), ?_⟩
    refine ⟨_, _, rfl, rfl, _, rfl, ?_⟩
    rw [List.length_map, nun_all g.nd _ (Nat.le_refl _), decide_eq_false (by omega)]
    refine iteF ⟨_, rfl, l, _, rfl, SqL.of hl, fun t o oc od nt => ?_⟩
    have st := Same.new (o := .frz o (.tup (ns.map V.str))) nt
    refine ⟨_, rfl, p, C, dx, _, rfl, st _ _ hp, W.cl, W.n1, (by show 0 < 1000; decide), ?_⟩
    refine ⟨_, rfl, _, rfl, p, C, dx, _, rfl, upd_same, W.cl, W.n2, (by show 1 < 1000; decide), ?_⟩
    rw [upd_upd]
    have ntp : t ≠ p := fun z => by rw [z, hp] at nt; cases nt
    refine q _ (fun b o hb e => ?_) ⟨dx, t, upd_same, o, ?_, oc, od⟩
    · rw [upd_ne hb]
      exact st _ _ e
    · rw [upd_ne ntp]
      exact upd_same
theorem ok_wno (D : Dm K C "name_on" "Wheel.name_on" s_Wheel_name_on) (W : WhT K C) (g_len : mg "len" = none) : Cm P w K mg base CX0 1 C "name_on" "Wheel.name_on" s_Wheel_name_on ["self", "day"] (spNo C) := by
  refine cm0 (k := 0) D c_Wheel_name_on (fun vs H Q E h => ?_) fun f cdv A outer s H vs Q E hr h => ?_
  · obtain ⟨p, d, x, rfl, _⟩ := h
    rfl
  · obtain ⟨p, d, x, rfl, ⟨dx, t, hp, ht⟩, g, q⟩ := h
    have l0 := g.pos
    have h0 := Int.emod_nonneg (d - x.2) (show (x.1.length : Int) ≠ 0 by omega)
    have h1 := Int.emod_lt_of_pos (d - x.2) (show (0 : Int) < (x.1.length : Int) by omega)
    refine ⟨_, (pss_one (ps_ret (pe_ix ix_tup (pe_fld (pv 0) rfl) (pe_op op_mod (pe_op op_sub (pv 1) (pe_fld (pv 0) rfl)) (pe_callB call_len_seq rfl g_len (by decide +kernel) (pa_cons (pe_fld (pv 0) rfl) pa_nil))) (fun _ _ => rfl)))), ?_⟩
    refine ⟨_, rfl, p, C, dx, _, _, rfl, hp, W.cl, W.n1, wf_names _ _, ?_⟩
    refine ⟨_, rfl, _, rfl, p, C, dx, _, _, rfl, hp, W.cl, W.n2, wf_first _ _, _, _, rfl, rfl, ?_⟩
    refine ⟨_, rfl, p, C, dx, _, _, rfl, hp, W.cl, W.n1, wf_names _ _, t, _, rfl, .inr ht.sq, _, _, rfl, rfl, (by rw [List.length_map]; omega), ?_⟩
    rw [List.length_map]
    refine ⟨t, _, _, _, rfl, rfl, ht.sq, ?_, q⟩
    unfold nmA
    rw [List.getD_eq_getElem?_getD]
    generalize hz : (d - x.2) % (x.1.length : Int) = z at *
    unfold atI ixN
    rw [if_pos h0, if_pos (by rw [List.length_map]; omega)]
    show (x.1.map V.str)[z.toNat]? = _
    rw [List.getElem?_map, List.getElem?_eq_getElem (by omega)]
    rfl
theorem ok_wln (D : Dm K C "__len__" "Wheel.__len__" s_Wheel_len) (W : WhT K C) (g_len : mg "len" = none) : Cm P w K mg base CX0 1 C "__len__" "Wheel.__len__" s_Wheel_len ["self"] (spWn C) := by
  refine cm0 (k := 0) D c_Wheel_len (fun vs H Q E h => ?_) fun f cdv A outer s H vs Q E hr h => ?_
  · obtain ⟨p, x, rfl, _⟩ := h
    rfl
  · obtain ⟨p, x, rfl, ⟨dx, t, hp, ht⟩, g, q⟩ := h
    refine ⟨_, (pss_one (ps_ret (pe_callB call_len_seq rfl g_len (by decide +kernel) (pa_cons (pe_fld (pv 0) rfl) pa_nil)))), ?_⟩
    refine ⟨_, rfl, p, C, dx, _, _, rfl, hp, W.cl, W.n1, wf_names _ _, t, _, rfl, .inr ht.sq, ?_⟩
    rw [List.length_map]
    exact q
theorem ok_naG (D : Df K mg "named_day" s_named_day []) (W : WhT K C) : Ca P w K mg base CX0 1 "named_day" s_named_day [] ["wheel", "name"] (spNaG C) := by
  refine ca0 (k := 0) D c_named_day (fun vs H Q E h => ?_) fun f cdv A outer s H vs Q E hr h => ?_
  · obtain ⟨p, n, x, rfl, _⟩ := h
    rfl
  · obtain ⟨p, n, x, rfl, ⟨dx, t, hp, ht⟩, g, hn, q⟩ := h
    refine ⟨_, (pss_cons (ps_if (pt_cmpR op_notIn_seq (pv 1) (pe_fld (pv 0) rfl) rfl) (pss_one ps_never) pss_nil)
      (pss_one (ps_ret (pe_op op_add (pe_fld (pv 0) rfl) (pe_tix (pe_fld (pv 0) rfl) (pa_cons (pv 1) pa_nil)))))), ?_⟩
    refine ⟨_, rfl, _, rfl, p, C, dx, _, _, rfl, hp, W.cl, W.n1, wf_names _ _, t, _, rfl, .inr ht.sq, rfl, flat_strs _, _, rfl, ?_⟩
    rw [show (if true = true then !inV (V.str n) (x.1.map V.str) else inV (V.str n) (x.1.map V.str)) = false by rw [inV_dec, decide_eq_true hn]; rfl]
    refine iteF ?_
    refine ⟨_, rfl, p, C, dx, _, _, rfl, hp, W.cl, W.n2, wf_first _ _, ?_⟩
    refine ⟨_, rfl, p, C, dx, _, _, rfl, hp, W.cl, W.n1, wf_names _ _, t, _, rfl, ht, _, rfl, x.1, n, x.1.idxOf n, rfl, ht.sq, ?_, idx_first, _, _, rfl, rfl, q⟩
    have hi : x.1.idxOf n < x.1.length := List.idxOf_lt_length_iff.mpr hn
    rw [List.getElem?_eq_getElem hi, List.getElem_idxOf hi]
theorem ok_alk (D : Df K mg "first_alike" s_first_alike []) : Ca P w K mg base CX0 1 "first_alike" s_first_alike [] ["day", "step", "after"] spAlk := by
  refine ca0 (k := 0) D c_first_alike (fun vs H Q E h => ?_) fun f cdv A outer s H vs Q E hr h => ?_
  · obtain ⟨a, st, b, rfl, _⟩ := h
    rfl
  · obtain ⟨a, st, b, rfl, h0, q⟩ := h
    refine ⟨_, (pss_one (ps_ret (pe_op op_add (pv 2) (pe_op op_mod (pe_op op_sub (pv 0) (pv 2)) (pv 1))))), ?_⟩
    exact ⟨_, rfl, _, rfl, _, rfl, _, _, rfl, rfl, _, rfl, _, _, rfl, rfl, h0, _, _, rfl, rfl, q⟩
end
/-! ### Wheel: its names from the day 0 on, as a text, beside anything -/
theorem sqSame {K : PySem.W.Frag} {H H1 : Hp} {t : Addr} {xs : List V} (h : SqT K H t xs) (s : Same H H1) : SqT K H1 t xs := by
  rcases h with (h | ⟨o, h⟩) | h
  · exact .inl (.inl (s _ _ h))
  · exact .inl (.inr ⟨o, s _ _ h⟩)
  · exact .inr h
theorem slA_anyS {K : PySem.W.Frag} {H : Hp} {Q : VK} {a : Addr} {xs : List V} {lo hi : Option Int} (ha : SqT K H a xs) (q : ∀ b H', Same H H' → SqT K H' b (cutV xs lo hi) → Q (.ref b) H') : rSlA K (.ref a) lo hi H Q := by
  refine ⟨a, xs, rfl, ha, fun w => q a H (Same.refl _) ?_, fun _ p np => q p _ (Same.new np) (SqT.of upd_same)⟩
  unfold cutV
  rw [w.1, w.2, List.drop_zero, Nat.sub_zero, List.take_length]
  exact ha
theorem catA_anyS {K : PySem.W.Frag} {H : Hp} {Q : VK} {a b : Addr} {xs ys : List V} (ha : SqT K H a xs) (hb : SqT K H b ys) (hz : xs.length + ys.length ≤ sizeLine) (q : ∀ c H', Same H H' → SqT K H' c (xs ++ ys) → Q (.ref c) H') : rCatA K (.ref a) (.ref b) H Q := by
  refine ⟨a, b, xs, ys, rfl, rfl, ha, hb, hz, fun e => q b H (Same.refl _) (by rw [e, List.nil_append]; exact hb), fun _ e => q a H (Same.refl _) (by rw [e, List.append_nil]; exact ha), fun _ _ p np => q p _ (Same.new np) (SqT.of upd_same)⟩
theorem tk_min (ys : List Str) (i : Nat) : ys.take (min i ys.length) = ys.take i := by
  by_cases h : i ≤ ys.length
  · rw [Nat.min_eq_left h]
  · rw [Nat.min_eq_right (by omega), List.take_length, List.take_of_length_le (by omega)]
theorem dr_min (ys : List Str) (i : Nat) : ys.drop (min i ys.length) = ys.drop i := by
  by_cases h : i ≤ ys.length
  · rw [Nat.min_eq_left h]
  · rw [Nat.min_eq_right (by omega), List.drop_length, List.drop_of_length_le (by omega)]
theorem cut_map (ys : List Str) (lo hi : Option Int) : cutV (ys.map V.str) lo hi = ((ys.drop (HT.sIx ys.length 0 lo)).take (HT.sIx ys.length ys.length hi - HT.sIx ys.length 0 lo)).map V.str := by
  unfold cutV
  rw [List.length_map, List.map_take, List.map_drop]
theorem cut_lo (ys : List Str) (i : Nat) : cutV (ys.map V.str) none (some ((i : Nat) : Int)) = (ys.take i).map V.str := by
  rw [cut_map]
  have e1 : HT.sIx ys.length 0 none = 0 := rfl
  have e2 : HT.sIx ys.length ys.length (some ((i : Nat) : Int)) = min i ys.length := HT.sIx_nat _ _ i
  rw [e1, e2, List.drop_zero, Nat.sub_zero, tk_min]
theorem cut_hi (ys : List Str) (i : Nat) : cutV (ys.map V.str) (some ((i : Nat) : Int)) none = (ys.drop i).map V.str := by
  rw [cut_map]
  have e1 : HT.sIx ys.length ys.length none = ys.length := rfl
  have e2 : HT.sIx ys.length 0 (some ((i : Nat) : Int)) = min i ys.length := HT.sIx_nat _ _ i
  rw [e1, e2, dr_min, List.take_of_length_le (by rw [List.length_drop]; omega)]
/-- the names of the days 0, 1, .. of a round -/
def fnW (x : Wd) : List Str := (List.range x.1.length).map fun (d : Nat) => nmA x (d : Int)
theorem fnW_len (x : Wd) : (fnW x).length = x.1.length := by
  unfold fnW
  rw [List.length_map, List.length_range]
theorem fnW_mem {x : Wd} (g : NmG x.1) : ∀ n ∈ fnW x, n ∈ x.1 := by
  intro n hn
  unfold fnW at hn
  obtain ⟨d, _, rfl⟩ := List.mem_map.mp hn
  exact nmA_mem g _
theorem fnW_cut {x : Wd} (g : NmG x.1) {m : Nat} (h : (-x.2) % (x.1.length : Int) = (m : Int)) : x.1.drop m ++ x.1.take m = fnW x := by
  have l0 := g.pos
  have h1 := Int.emod_lt_of_pos (-x.2) (show (0 : Int) < (x.1.length : Int) by omega)
  have hm : m < x.1.length := by omega
  refine List.ext_getElem (by rw [fnW_len, List.length_append, List.length_drop, List.length_take]; omega) fun d hd hd2 => ?_
  rw [fnW_len] at hd2
  have key : ((d : Int) - x.2) % (x.1.length : Int) = ((d + m : Nat) : Int) % (x.1.length : Int) := by
    rw [Int.natCast_add, ← h, Int.add_emod_emod]
    rfl
  have rhs : (fnW x)[d]'(by rw [fnW_len]; exact hd2) = x.1.getD ((d + m) % x.1.length) Str.empty := by
    unfold fnW
    rw [List.getElem_map, List.getElem_range]
    unfold nmA
    rw [key, ← Int.natCast_emod, Int.toNat_natCast]
  rw [rhs]
  have hlt : (d + m) % x.1.length < x.1.length := Nat.mod_lt _ l0
  rw [List.getD_eq_getElem?_getD, List.getElem?_eq_getElem hlt]
  by_cases hc : d < x.1.length - m
  · rw [List.getElem_append_left (by rw [List.length_drop]; exact hc), List.getElem_drop]
    simp only [Option.getD_some]
    congr 1
    rw [Nat.mod_eq_of_lt (by omega)]
    omega
  · rw [List.getElem_append_right (by rw [List.length_drop]; omega), List.getElem_take]
    simp only [Option.getD_some, List.length_drop]
    congr 1
    have : d + m = (d - (x.1.length - m)) + x.1.length := by omega
    rw [this, Nat.add_mod_right, Nat.mod_eq_of_lt (by omega)]
def dlT (ns : List Str) : PyData := .tuple (ns.map PyData.str)
theorem dlT_ok {ns : List Str} (h : ∀ x ∈ ns, PyData.strOk x = true) : SeqAt.shaped (dlT ns) = true := by
  have k := dlS_ok h
  have k' : (PyData.canLay0 (dlS ns) && decide (PyData.depth (dlS ns) ≤ 64)) = true := k
  show (PyData.canLay0 (dlT ns) && decide (PyData.depth (dlT ns) ≤ 64)) = true
  unfold dlT
  unfold dlS at k'
  simp only [PyData.canLay0, PyData.depth] at k' ⊢
  exact k'
theorem dlT_iff (ns ms : List Str) : PyData.eqv (dlT ns) (dlT ms) = decide (ns = ms) := by
  have k := dlS_iff ns ms
  unfold dlS at k
  unfold dlT
  simp only [PyData.eqv] at k ⊢
  exact k
theorem dlT_dp {K : PySem.W.Frag} {H : Hp} {p : Addr} {ns : List Str} (e : SqT K H p (ns.map V.str)) : Dp K H (.ref p) (dlT ns) := .tup e (dlS_all K H ns)
/-- names of plain signs, not long -/
structure NmT (ns : List Str) : Prop where
  g : NmG ns
  ok : ∀ x ∈ ns, PyData.strOk x = true
  ln : ∀ x ∈ ns, x.length ≤ 200
theorem sumL {l : List Nat} {b : Nat} (h : ∀ x ∈ l, x ≤ b) : l.sum ≤ l.length * b := by
  induction l with
  | nil => simp
  | cons a r ih =>
    have h1 := ih fun x hx => h x (List.mem_cons_of_mem _ hx)
    have h2 := h a List.mem_cons_self
    rw [List.sum_cons, List.length_cons, Nat.succ_mul]
    omega
theorem shS_len {ns : List Str} (g : NmT ns) : (shS ns).length ≤ 200000 := by
  have h1 : ∀ x ∈ ns, (reprText x).length ≤ 2002 := fun x hx => by
    have k := PySem.StrLaws.reprText_len x (fun c hc => by
      have h := g.ok x hx
      unfold PyData.strOk at h
      rw [Array.all_eq_true_iff_forall_mem] at h
      have := of_decide_eq_true (h c (by simpa using hc))
      exact Nat.lt_of_lt_of_le this (by decide))
    have := g.ln x hx
    omega
  have h2 := sumL (l := (ns.map reprText).map (·.length)) (b := 2002) (by
    intro k hk
    rw [List.map_map] at hk
    obtain ⟨y, hy, rfl⟩ := List.mem_map.mp hk
    exact h1 y hy)
  have h3 := PySem.StrLaws.join_length_le ", " (ns.map reprText)
  have h4 := g.g.len
  have e2 : ((", " : Str)).length = 2 := by decide +kernel
  have e3 : (("[" : Str)).length = 1 := by decide +kernel
  have e4 : (("]" : Str)).length = 1 := by decide +kernel
  rw [List.length_map, List.length_map] at h2
  rw [List.length_map, e2] at h3
  rw [shS_txt, str_app_len, str_app_len, e3, e4]
  have h6 : ns.length * 2002 ≤ 62 * 2002 := Nat.mul_le_mul_right _ h4
  omega
theorem sl_lenW {a : Str} {n : Nat} (h : a.length ≤ n) (hn : n ≤ 500000 := by decide) : a.length ≤ sizeLine := Nat.le_trans h (Nat.le_trans hn (by decide))
theorem ap_len {a b : Str} {n m : Nat} (ha : a.length ≤ n) (hb : b.length ≤ m) : (a ++ b).length ≤ n + m := by
  rw [str_app_len]
  omega
theorem lit_len {s : Str} {n : Nat} (h : Nat.ble s.length n = true := by decide +kernel) : s.length ≤ n := Nat.le_of_ble_eq_true h
def spFrW (K : PySem.W.Frag) (C : Addr) : Sp := fun vs H Q _ => ∃ (p : Addr) (x : Wd), vs = [.ref p] ∧ Wf C H p x ∧ NmG x.1 ∧ ∀ t H', Same H H' → SqT K H' t ((fnW x).map V.str) → Q (.ref t) H'
def spWfS (C : Addr) : Sp := fun vs H Q _ => ∃ (p : Addr) (x : Wd), vs = [.ref p] ∧ Wf C H p x ∧ NmT x.1 ∧ ∀ H', Same H H' → Q (.str (Txt.join (" " : Str) (fnW x))) H'
def spWfE (K : PySem.W.Frag) (C : Addr) : Sp := fun vs H Q _ => ∃ (p : Addr) (y : V) (x : Wd), vs = [.ref p, y] ∧ Wf C H p x ∧ NmT x.1 ∧
  ((∃ (r : Addr) (x' : Wd), y = .ref r ∧ Wf C H r x' ∧ NmT x'.1 ∧ ∀ H', Same H H' → Q (.bl (decide (fnW x = fnW x'))) H') ∨ (∃ t, TyX K H y t ∧ PySem.W.kitOne K t (.ref C) = some false ∧ Q (.bl false) H))
def whR (x : Wd) : Str := (((Str.empty ++ ("Wheel(" : Str)) ++ shS x.1) ++ (", first=" : Str)) ++ numT 10 x.2 ++ (")" : Str)
def spWfR (C : Addr) : Sp := fun vs H Q _ => ∃ (p : Addr) (x : Wd), vs = [.ref p] ∧ Wf C H p x ∧ NmT x.1 ∧ Sz 200 x.2 ∧ ∀ H', Same H H' → Q (.str (whR x)) H'
def spNxG (C : Addr) : Sp := fun vs H Q _ => ∃ (p : Addr) (d : Int) (n : Str) (x : Wd), vs = [.ref p, .int d, .str n] ∧ Wf C H p x ∧ NmG x.1 ∧ n ∈ x.1 ∧ Q (.int (d + (dyA x n - d) % (x.1.length : Int))) H
theorem bd_numeral1 : Bd1 "numeral" "numeral" s_numeral ["number", "base"] 1 0 1 := fun _ _ _ _ _ _ _ us its hu hi => match us, hu, its, hi with | [_], _, [_], _ => ⟨_, rfl, rfl⟩
section
variable {P : Program} {w : World} {K : PySem.W.Frag} {mg : Str → Option Value} {base : Heap} {C : Addr}
theorem ok_frW (D : Df K mg "names_from_nought" s_names_from_nought []) (W : WhT K C) (g_len : mg "len" = none) : Ca P w K mg base CX0 1 "names_from_nought" s_names_from_nought [] ["wheel"] (spFrW K C) := by
  refine ca0 (k := 0) D c_names_from_nought (fun vs H Q E h => ?_) fun f cdv A outer s H vs Q E hr h => ?_
  · obtain ⟨p, x, rfl, _⟩ := h
    rfl
  · obtain ⟨p, x, rfl, ⟨dx, t, hp, ht⟩, g, q⟩ := h
    have l0 := g.pos
    have h0 := Int.emod_nonneg (-x.2) (show (x.1.length : Int) ≠ 0 by omega)
    refine ⟨_, (pss_cons (ps_set (i := 1) c_names_from_nought.nd rfl (.inl rfl) (pe_op op_mod (pe_un un_neg (pe_fld (pv 0) rfl)) (pe_callB call_len_seq rfl g_len (by decide +kernel) (pa_cons (pe_fld (pv 0) rfl) pa_nil))))
      (pss_one (ps_ret (pe_op op_catA (pe_slice sl_tupA (pe_fld (pv 0) rfl) (po_some (pv 1)) po_none) (pe_slice sl_tupA (pe_fld (pv 0) rfl) po_none (po_some (pv 1))))))), ?_⟩
    refine ⟨_, rfl, p, C, dx, _, _, rfl, hp, W.cl, W.n2, wf_first _ _, _, rfl, _, rfl, p, C, dx, _, _, rfl, hp, W.cl, W.n1, wf_names _ _, t, _, rfl, .inr ht.sq, _, _, rfl, rfl, (by rw [List.length_map]; omega), ?_⟩
    rw [List.length_map]
    obtain ⟨m, hm⟩ : ∃ m : Nat, (-x.2) % (x.1.length : Int) = (m : Int) := ⟨((-x.2) % (x.1.length : Int)).toNat, by omega⟩
    dsimp only
    rw [hm]
    refine ⟨_, rfl, p, C, dx, _, _, rfl, hp, W.cl, W.n1, wf_names _ _, _, rfl, _, rfl, ?_⟩
    dsimp only [tNoPart]
    refine slA_anyS ht.sq fun b H1 s1 hb => ?_
    rw [cut_hi] at hb
    refine ⟨_, rfl, p, C, dx, _, _, rfl, s1 _ _ hp, W.cl, W.n1, wf_names _ _, ?_⟩
    dsimp only [tNoPart]
    refine ⟨_, rfl, _, rfl, slA_anyS (ht.same s1).sq fun c H2 s2 hc => ?_⟩
    rw [cut_lo] at hc
    refine catA_anyS (sqSame hb s2) hc ?_ fun r H3 s3 hr' => q r H3 ((s1.trans s2).trans s3) (by rw [← fnW_cut g hm, List.map_append]; exact hr')
    have := g.len
    rw [List.length_map, List.length_map, List.length_drop, List.length_take]
    exact Nat.le_trans (show _ ≤ 200 by omega) (by decide)
theorem ok_wfS (D : Dm K C "__str__" "Wheel.__str__" s_Wheel_str) (f_names_from_nought : Ca P w K mg base CX0 1 "names_from_nought" s_names_from_nought [] ["wheel"] (spFrW K C)) : Cm P w K mg base CX0 2 C "__str__" "Wheel.__str__" s_Wheel_str ["self"] (spWfS C) := by
  refine cm0 (k := 1) D c_Wheel_str (fun vs H Q E h => ?_) fun f cdv A outer s H vs Q E hr h => ?_
  · obtain ⟨p, x, rfl, _⟩ := h
    rfl
  · obtain ⟨p, x, rfl, hw, g, q⟩ := h
    refine ⟨_, (pss_one (ps_ret (pe_m1 PySem.F.slot_str_join PySem.F.type_str_join mt_join pe_str (pe_ca f_names_from_nought b_names_from_nought hr (by decide) pass0 rfl (pa_cons (pv 0) pa_nil))))), ?_⟩
    refine ⟨⟨_, rfl⟩, _, rfl, p, x, rfl, hw, g.g, fun t H1 s1 ht => ?_⟩
    refine ⟨_, t, fnW x, rfl, rfl, .inr ht, ?_, q H1 s1⟩
    have h1 := sumL (l := (fnW x).map (·.length)) (b := 200) (by
      intro k h
      obtain ⟨y, hy, rfl⟩ := List.mem_map.mp h
      exact g.ln y (fnW_mem g.g y hy))
    have h2 : ((" " : Str)).length = 1 := by decide +kernel
    have h3 := g.g.len
    rw [List.length_map, fnW_len] at h1
    rw [fnW_len, h2]
    have : x.1.length * 200 ≤ 62 * 200 := Nat.mul_le_mul_right _ h3
    omega
theorem ok_wfE (D : Dm K C "__eq__" "Wheel.__eq__" s_Wheel_eq) (wty : ∀ (H : Hp) (a dx : Addr) (fs : List (Str × V)), H a = some (.ins C dx fs) → TyX K H (.ref a) (.ref C)) (h_Wheel : mg "Wheel" = some (.ref C)) (g_isinstance : mg "isinstance" = none) (f_names_from_nought : Ca P w K mg base CX0 1 "names_from_nought" s_names_from_nought [] ["wheel"] (spFrW K C)) :
    Cm P w K mg base CX0 2 C "__eq__" "Wheel.__eq__" s_Wheel_eq ["self", "other"] (spWfE K C) := by
  refine cm0 (k := 1) D c_Wheel_eq (fun vs H Q E h => ?_) fun f cdv A outer s H vs Q E hr h => ?_
  · obtain ⟨p, y, x, rfl, _⟩ := h
    rfl
  · obtain ⟨p, y, x, rfl, hw, g, hy⟩ := h
    refine ⟨_, (pss_one (ps_ret (pe_and (pe_callB call_isi rfl g_isinstance (by decide +kernel) (pa_cons (pv 1) (pa_cons (pe_glob (v := .ref C) rfl h_Wheel rfl) pa_nil))) (pe_one (pe_cmpR (op_eqD hr.units) (pe_ca f_names_from_nought b_names_from_nought hr (by decide) pass0 rfl (pa_cons (pv 0) pa_nil)) (pe_ca f_names_from_nought b_names_from_nought hr (by decide) pass0 rfl (pa_cons (pv 1) pa_nil)) (nomark _)))))), ?_⟩
    rcases hy with ⟨r, x', rfl, hw', g', q⟩ | ⟨t, ty, hk, q⟩
    · obtain ⟨dx', t', e', _⟩ := id hw'
      refine ⟨_, rfl, _, _, _, _, _, rfl, .own C, wty _ _ _ _ e', kit_self, _, rfl, iteT ?_⟩
      refine ⟨_, rfl, p, x, rfl, hw, g.g, fun t1 H1 s1 h1 => ?_⟩
      refine ⟨_, rfl, r, x', rfl, hw'.same s1, g'.g, fun t2 H2 s2 h2 => ?_⟩
      refine ⟨_, _, dlT_dp (sqSame h1 s2), dlT_dp h2, dlT_ok fun n hn => g.ok n (fnW_mem g.g n hn), dlT_ok fun n hn => g'.ok n (fnW_mem g'.g n hn), ?_⟩
      rw [dlT_iff]
      exact q H2 (s1.trans s2)
    · refine ⟨_, rfl, _, _, _, _, _, rfl, .own C, ty, hk, _, rfl, iteF q⟩
theorem ok_nxG (D : Dm K C "next_named" "Wheel.next_named" s_Wheel_next_named) (W : WhT K C) (f_named_day : Ca P w K mg base CX0 1 "named_day" s_named_day [] ["wheel", "name"] (spNaG C)) (f_first_alike : Ca P w K mg base CX0 1 "first_alike" s_first_alike [] ["day", "step", "after"] spAlk) (g_len : mg "len" = none) :
    Cm P w K mg base CX0 2 C "next_named" "Wheel.next_named" s_Wheel_next_named ["self", "day", "name"] (spNxG C) := by
  refine cm0 (k := 1) D c_Wheel_next_named (fun vs H Q E h => ?_) fun f cdv A outer s H vs Q E hr h => ?_
  · obtain ⟨p, d, n, x, rfl, _⟩ := h
    rfl
  · obtain ⟨p, d, n, x, rfl, hw, g, hn, q⟩ := h
    obtain ⟨dx, t, hp, ht⟩ := id hw
    have l0 := g.pos
    refine ⟨_, (pss_one (ps_ret (pe_ca f_first_alike b_first_alike hr (by decide) pass0 rfl (pa_cons (pe_ca f_named_day b_named_day hr (by decide) pass0 rfl (pa_cons (pv 0) (pa_cons (pv 2) pa_nil))) (pa_cons (pe_callB call_len_seq rfl g_len (by decide +kernel) (pa_cons (pe_fld (pv 0) rfl) pa_nil)) (pa_cons (pv 1) pa_nil)))))), ?_⟩
    refine ⟨_, rfl, _, rfl, p, n, x, rfl, hw, g, hn, _, rfl, p, C, dx, _, _, rfl, hp, W.cl, W.n1, wf_names _ _, t, _, rfl, .inr ht.sq, _, rfl, ?_⟩
    rw [List.length_map]
    exact ⟨_, _, _, rfl, by omega, q⟩
theorem ok_wfR (D : Dm K C "__repr__" "Wheel.__repr__" s_Wheel_repr) (W : WhT K C) (f_numeral : Ca P w K mg base CX0 1 "numeral" s_numeral [.int 10] ["number", "base"] spNum) (g_list : mg "list" = none) : CmG P w K mg base CX0 2 C "__repr__" "Wheel.__repr__" s_Wheel_repr ["self"] (spWfR C) := by
  refine cmg0 (k := 1) D c_Wheel_repr (fun vs H Q E h => ?_) fun f cdv A outer s H vs Q E gd hr h => ?_
  · obtain ⟨p, x, rfl, _⟩ := h
    rfl
  · obtain ⟨p, x, rfl, ⟨dx, t, hp, ht⟩, g, z, q⟩ := h
    refine ⟨_, (pss_one (ps_ret (pe_joined (.cons pe_str (.cons (pe_fmtRL gd hr (pe_callTy call_list_of rfl g_list (by decide +kernel) (pa_cons (pe_fld (pv 0) rfl) pa_nil))) (.cons pe_str (.cons (pe_fmt (pe_caD f_numeral bd_numeral1 (by decide) rfl hr (by decide) pass0 rfl (pa_cons (pe_fld (pv 0) rfl) pa_nil))) (.cons pe_str .nil)))))))), ?_⟩
    have l1 := shS_len g
    have l2 : (numT 10 x.2).length ≤ 201 := numT_len (by decide) z
    have k0 : (Str.empty ++ ("Wheel(" : Str)).length ≤ 6 := lit_len
    have kf : (", first=" : Str).length ≤ 8 := lit_len
    have kp : (")" : Str).length ≤ 1 := lit_len
    have a1 := ap_len k0 l1
    have a2 := ap_len a1 kf
    have a3 := ap_len a2 l2
    have a4 := ap_len a3 kp
    refine ⟨_, rfl, sl_lenW k0, ?_⟩
    refine ⟨_, rfl, p, C, dx, _, _, rfl, hp, W.cl, W.n1, wf_names _ _, t, _, rfl, .inr ht.sq, fun l nl => ⟨l, _, rfl, upd_same, sl_lenW l1, _, rfl, sl_lenW a1, ?_⟩⟩
    have sn := Same.new (o := .lst (x.1.map V.str)) nl
    refine ⟨_, rfl, sl_lenW a2, ?_⟩
    refine ⟨_, rfl, p, C, dx, _, _, rfl, sn _ _ hp, W.cl, W.n2, wf_first _ _, x.2, 10, rfl, by decide, by decide, z, fun H2 s2 => .inl ⟨_, rfl, sl_lenW l2, _, rfl, sl_lenW a3, ?_⟩⟩
    refine ⟨_, rfl, sl_lenW a4, ?_⟩
    exact q H2 (sn.trans s2)
end
/-! what is drawn -/
def spDay : Sp := fun vs H Q _ => ∃ (l : Addr) (n : Nat), vs = [.ref l] ∧ Dr H l n ∧ n ≤ 1000000 ∧ ∀ v H', Sz 64 v → But l H H' → Dr H' l (n + 1) → Q (.int v) H'
section
variable {P : Program} {w : World} {K : PySem.W.Frag} {mg : Str → Option Value} {base : Heap}
theorem ok_lday (D : Df K mg "_law_day" s_l_day []) (nx : Ca P w K mg base CX0 1 "_law_next" s_l_next [] ["_law_draws_here"] spNext) : Ca P w K mg base CX0 2 "_law_day" s_l_day [] ["_law_draws_here"] spDay := by
  refine ca0 (k := 1) D c_l_day (fun vs H Q E h => ?_) fun f cdv A outer s H vs Q E hr h => ?_
  · obtain ⟨l, n, rfl, _⟩ := h
    rfl
  · obtain ⟨l, n, rfl, d, hn, q⟩ := h
    refine ⟨_, pss_cons (ps_set (i := 1) c_l_day.nd rfl (.inl rfl) (pe_ca nx b_l_next hr (by decide) pass0 rfl (pa_cons (pv 0) pa_nil)))
      (pss_cons (ps_set (i := 2) c_l_day.nd rfl (.inl rfl) (pe_lst (pa_cons (pe_op op_mod (pe_op op_fdiv (pv 1) pe_int) pe_int) (pa_cons (pe_op op_sub pe_int (pe_op op_mod (pe_op op_fdiv (pv 1) pe_int) pe_int)) (pa_cons (pe_op op_sub (pe_op op_mul (pe_op op_fdiv (pv 1) pe_int) (pe_op op_pow pe_int pe_int)) (pe_op op_pow pe_int pe_int)) pa_nil)))))
      (pss_one (ps_ret (pe_ix ix_list (pe_op op_cat (pv 2) (pe_lst (pa_cons (pe_op op_sub (pe_op op_pow pe_int pe_int) (pe_op op_fdiv (pv 1) pe_int)) pa_nil))) (pe_op op_mod (pv 1) pe_int) (fun _ _ => rfl))))), ?_⟩
    refine ⟨_, rfl, l, n, rfl, d, hn, fun v H1 v0 v1 b1 d1 => ?_⟩
    refine ⟨_, rfl, _, _, rfl, rfl, ⟨by decide, by decide⟩, _, _, rfl, rfl, md, _, rfl, _, _, rfl, rfl, ⟨by decide, by decide⟩, _, _, rfl, rfl, md, _, _, rfl, rfl, _, rfl, _, _, rfl, rfl, ⟨by decide, by decide⟩, _, _, rfl, rfl, ⟨by decide, by decide, by decide⟩, _, _, rfl, rfl, .inl ⟨by omega, by omega⟩, _, _, rfl, rfl, ⟨by decide, by decide, by decide⟩, _, _, rfl, rfl, (by show 3 ≤ sizeLine; decide), fun p hp => ?_⟩
    refine ⟨_, rfl, _, _, rfl, rfl, ⟨by decide, by decide, by decide⟩, _, rfl, _, _, rfl, rfl, ⟨by decide, by decide⟩, _, _, rfl, rfl, (by show 1 ≤ sizeLine; decide), fun p2 hp2 => ?_⟩
    have nep : p ≠ p2 := ne_of_none upd_same hp2
    refine ⟨p, p2, _, _, rfl, rfl, (by rw [upd_ne nep]; exact upd_same), upd_same, (by show 4 ≤ sizeLine; decide), fun p3 hp3 => ?_⟩
    have h1 := Int.emod_nonneg v (show (4 : Int) ≠ 0 by decide)
    have h2 := Int.emod_lt_of_pos v (show (0 : Int) < 4 by decide)
    have a1 := Int.emod_nonneg (v / 4) (show (800 : Int) ≠ 0 by decide)
    have a2 := Int.emod_lt_of_pos (v / 4) (show (0 : Int) < 800 by decide)
    obtain ⟨x, hx, x', rfl, zx⟩ := pick (P := fun x => ∃ i : Int, x = V.int i ∧ Sz 64 i) (xs := [.int (v / 4 % 800), .int (0 - v / 4 % 800), .int (v / 4 * 10 ^ (9 : Int).toNat - 10 ^ (17 : Int).toNat), .int (10 ^ (19 : Int).toNat - v / 4)]) h1 h2 (by
      have e9 : (10 : Int) ^ (9 : Int).toNat = 1000000000 := by decide
      have e17 : (10 : Int) ^ (17 : Int).toNat = 100000000000000000 := by decide
      have e19 : (10 : Int) ^ (19 : Int).toNat = 10000000000000000000 := by decide
      have e64 : (2 : Int) ^ 64 = 18446744073709551616 := by decide
      intro x hx
      rcases List.mem_cons.mp hx with rfl | hx
      · exact ⟨_, rfl, Sz.of (by omega) (by omega)⟩
      rcases List.mem_cons.mp hx with rfl | hx
      · exact ⟨_, rfl, Sz.of (by omega) (by omega)⟩
      rcases List.mem_cons.mp hx with rfl | hx
      · exact ⟨_, rfl, Sz.of (by rw [e9, e17, e64]; omega) (by rw [e9, e17, e64]; omega)⟩
      rcases List.mem_cons.mp hx with rfl | hx
      · exact ⟨_, rfl, Sz.of (by rw [e19, e64]; omega) (by rw [e19, e64]; omega)⟩
      · cases hx)
    refine ⟨_, rfl, _, _, rfl, rfl, md, p3, _, _, _, rfl, rfl, SqL.of upd_same, hx, ?_⟩
    exact q x' _ zx (((b1.upd hp).upd hp2).upd hp3) (((d1.new hp).new hp2).new hp3)
end
/-! ### what the law draws -/
theorem ne_of_none' {H : Hp} {l p : Addr} {n : Nat} (d : Dr H l n) (e : H p = none) : p ≠ l := by
  obtain ⟨_, _, _, h, _⟩ := d
  exact (ne_of_none h e).symm
def spFar : Sp := fun vs H Q _ => ∃ (l : Addr) (n : Nat), vs = [.ref l] ∧ Dr H l n ∧ n ≤ 1000000 ∧ ∀ v H', Sz 64 v → But l H H' → Dr H' l (n + 1) → Q (.int v) H'
/-- a name's text -/
def leC (k : Nat) : Str := ⟨#[97 + k % 26]⟩
def inS (k : Nat) : Str := Str.ofString (toString (k : Int))
def nmS (j k : Nat) : Str := match j with
  | 0 => rpS (leC k) (1 + k / 26)
  | 1 => inS k
  | 2 => rpS ("x" : Str) k
  | _ => (leC k ++ (" " : Str)) ++ inS k
/-- a text that may be a name -/
def okT (x : Str) : Bool := Nat.ble x.length 62 && !(x == ("-" : Str)) && x.cps.toList.all (fun c => Nat.ble c 127)
theorem nm_ok : ∀ j : Fin 4, ∀ k : Fin 60, okT (nmS j.val k.val) = true := by decide +kernel
theorem nm_no : ∀ j : Fin 4, ∀ k : Fin 60, ∀ i : Fin 60, i.val < k.val → nmS j.val i.val ≠ nmS j.val k.val := by decide +kernel
theorem let_at : ∀ k : Fin 26, atI (("abcdefghijklmnopqrstuvwxyz" : Str)).cps.toList ((k.val : Nat) : Int) = some (97 + k.val) := by decide +kernel
theorem in_len : ∀ k : Fin 60, Nat.ble (inS k.val).length 3 = true := by decide +kernel
theorem md0 (v : Int) {j : Int} (h : 0 < j := by decide) : 0 ≤ v % j := Int.emod_nonneg _ (by omega)
theorem md1 (v : Int) {j : Int} (h : 0 < j := by decide) : v % j < j := Int.emod_lt_of_pos _ h
theorem pickI {xs : List Int} {z : Int} {P : Int → Prop} (h0 : 0 ≤ z) (h1 : z < xs.length) (h : ∀ x ∈ xs, P x) : ∃ v, atI (xs.map V.int) z = some (.int v) ∧ P v := by
  obtain ⟨v, e, i, rfl, p⟩ := pick (P := fun x => ∃ i : Int, x = V.int i ∧ P i) (xs := xs.map V.int) h0 (by rw [List.length_map]; exact h1) (by
    intro x hx
    obtain ⟨i, hi, rfl⟩ := List.mem_map.mp hx
    exact ⟨i, rfl, h i hi⟩)
  exact ⟨i, e, p⟩
theorem But.putN {l p : Addr} {H H1 : Hp} {o : HO} (a : But l H H1) (h : H p = none) : But l H (L2.upd H1 p o) := fun c u hc e => by
  rw [upd_ne (ne_of_none e h)]
  exact a c u hc e
theorem Dr.put {H : Hp} {l p : Addr} {n : Nat} {o : HO} (d : Dr H l n) (h : p ≠ l) : Dr (L2.upd H p o) l n := by
  obtain ⟨a, k, f, e, z⟩ := d
  exact ⟨a, k, f, by rw [upd_ne (fun z => h z.symm)]; exact e, z⟩
theorem four_at {a b c d : V} {z : Int} {r : V} (h0 : 0 ≤ z) (h1 : z < 4) (e0 : z = 0 → r = a) (e1 : z = 1 → r = b) (e2 : z = 2 → r = c) (e3 : z = 3 → r = d) : atI [a, b, c, d] z = some r := by
  have : z = 0 ∨ z = 1 ∨ z = 2 ∨ z = 3 := by omega
  rcases this with e | e | e | e
  · rw [e0 e, e]; rfl
  · rw [e1 e, e]; rfl
  · rw [e2 e, e]; rfl
  · rw [e3 e, e]; rfl
theorem nm_0 (k : Nat) : nmS 0 k = rpS (leC k) (1 + k / 26) := rfl
theorem nm_1 (k : Nat) : nmS 1 k = inS k := rfl
theorem nm_2 (k : Nat) : nmS 2 k = rpS ("x" : Str) k := rfl
theorem nm_3 (k : Nat) : nmS 3 k = (leC k ++ (" " : Str)) ++ inS k := rfl
/-- names drawn -/
structure NmF (ns : List Str) : Prop where
  g : NmG ns
  ok : ∀ x ∈ ns, okT x = true
  l60 : ns.length ≤ 60
  nz : ("zz zz" : Str) ∉ ns
theorem zz_no : ∀ j : Fin 4, ∀ k : Fin 60, nmS j.val k.val ≠ ("zz zz" : Str) := by decide +kernel
def spUnl : Sp := fun vs H Q _ => ∃ (l : Addr) (n : Nat) (b : Int), vs = [.ref l, .int b] ∧ Dr H l n ∧ n ≤ 1000 ∧ 1 ≤ b ∧ b ≤ 60 ∧ ∀ p ns H', But l H H' → Dr H' l (n + 61) → H' p = some (.lst (ns.map V.str)) → p ≠ l → NmF ns → Q (.ref p) H'
section
variable {P : Program} {w : World} {K : PySem.W.Frag} {mg : Str → Option Value} {base : Heap}
theorem ok_lfar62 (D : Df K mg "_law_far" s_l_far []) (f_l_next : Ca P w K mg base CX0 1 "_law_next" s_l_next [] ["_law_draws_here"] spNext) : Ca P w K mg base CX0 2 "_law_far" s_l_far [] ["_law_draws_here"] spFar := by
  refine ca0 (k := 1) D c_l_far (fun vs H Q E h => ?_) fun f cdv A outer s H vs Q E hr h => ?_
  · obtain ⟨l, n, rfl, _⟩ := h
    rfl
  · obtain ⟨l, n, rfl, d, hn, q⟩ := h
    refine ⟨_, (pss_cons (ps_set (i := 1) c_l_far.nd rfl (.inl rfl) (pe_ca f_l_next b_l_next hr (by decide) pass0 rfl (pa_cons (pv 0) pa_nil)))
      (pss_one (ps_ret (pe_ix ix_list (pe_lst (pa_cons pe_int (pa_cons (pe_op op_mod (pe_op op_fdiv (pv 1) pe_int) pe_int) (pa_cons (pe_op op_sub pe_int (pe_op op_mod (pe_op op_fdiv (pv 1) pe_int) pe_int)) (pa_cons (pe_op op_sub (pe_op op_mul (pe_op op_fdiv (pv 1) pe_int) (pe_op op_pow pe_int pe_int)) (pe_op op_pow pe_int pe_int)) pa_nil))))) (pe_op op_mod (pv 1) pe_int) (fun _ _ => rfl))))), ?_⟩
    refine ⟨_, rfl, l, n, rfl, d, hn, fun v H1 v0 v1 b1 d1 => ?_⟩
    repeat (first | refine ⟨_, rfl, ?_⟩ | refine ⟨_, _, rfl, rfl, md, ?_⟩ | refine ⟨_, _, rfl, rfl, ⟨by decide, by decide⟩, ?_⟩ | refine ⟨_, _, rfl, rfl, ⟨by decide, by decide, by decide⟩, ?_⟩ | refine ⟨_, _, rfl, rfl, .inr ⟨by decide, by decide⟩, ?_⟩ | refine ⟨_, _, rfl, rfl, ?_⟩)
    have e9 : (10 : Int) ^ (9 : Int).toNat = 1000000000 := by decide
    have e17 : (10 : Int) ^ (17 : Int).toNat = 100000000000000000 := by decide
    have e64 : (2 : Int) ^ 64 = 18446744073709551616 := by decide
    refine ⟨(by show 4 ≤ sizeLine; decide), fun p np => ?_⟩
    obtain ⟨x, hx, zx⟩ := pickI (xs := [0, v / 4 % 100, 0 - v / 4 % 1000, v / 4 * 10 ^ (9 : Int).toNat - 10 ^ (17 : Int).toNat]) (P := fun j => Sz 64 j) (md0 v (j := 4)) (md1 v (j := 4)) (by
      intro x hx
      simp only [List.mem_cons, List.not_mem_nil, or_false] at hx
      rcases hx with rfl | rfl | rfl | rfl
      · exact Sz.of (by omega) (by omega)
      · exact Sz.of (by omega) (by omega)
      · exact Sz.of (by omega) (by omega)
      · exact Sz.of (by rw [e9, e17, e64]; omega) (by rw [e9, e17, e64]; omega))
    refine ⟨_, rfl, _, _, rfl, rfl, md, p, _, _, _, rfl, rfl, SqL.of upd_same, hx, ?_⟩
    exact q x _ zx (b1.upd np) (d1.new np)
set_option maxHeartbeats 8000000 in
theorem ok_lunl (D : Df K mg "_law_unlike" s_l_unlike []) (f_l_next : Ca P w K mg base CX0 1 "_law_next" s_l_next [] ["_law_draws_here"] spNext) (g_range : mg "range" = none) (g_str : mg "str" = none) : Ca P w K mg base CX0 2 "_law_unlike" s_l_unlike [] ["_law_draws_here", "_law_most"] spUnl := by
  refine ca0 (k := 1) D c_l_unlike (fun vs H Q E h => ?_) fun f cdv A outer s H vs Q E hr h => ?_
  · obtain ⟨l, n, b, rfl, _⟩ := h
    rfl
  · obtain ⟨l, n, b, rfl, d, hn, b0, b1, q⟩ := h
    refine ⟨_, (pss_cons (ps_set (i := 2) c_l_unlike.nd rfl (.inl rfl) (pe_ca f_l_next b_l_next hr (by decide) pass0 rfl (pa_cons (pv 0) pa_nil)))
      (pss_cons (ps_set (i := 3) c_l_unlike.nd rfl (.inl rfl) (pe_ix ix_list (pe_lst (pa_cons (pe_op op_add pe_int (pe_op op_mod (pe_op op_fdiv (pv 2) pe_int) pe_int)) (pa_cons pe_int (pa_cons (pe_op op_add pe_int (pe_op op_mod (pe_op op_fdiv (pv 2) pe_int) (pv 1))) (pa_cons (pv 1) pa_nil))))) (pe_op op_mod (pv 2) pe_int) (fun _ _ => rfl)))
      (pss_cons (ps_set (i := 4) c_l_unlike.nd rfl (.inl rfl) pe_str)
      (pss_cons (ps_set (i := 5) c_l_unlike.nd rfl (.inl rfl) (pe_lst pa_nil))
      (pss_cons (ps_for PassesOwn.never rfl (pi_range1 rfl g_range (pa_cons (pv 3) pa_nil)) (pg_name (i := 6) c_l_unlike.nd rfl (.inl rfl)) (pss_cons (ps_set (i := 7) c_l_unlike.nd rfl (.inl rfl) (pe_ix ix_list (pe_lst (pa_cons (pe_op op_mulR (pe_ix ix_str (pv 4) (pe_op op_mod (pv 6) pe_int) (fun _ _ => rfl)) (pe_op op_add pe_int (pe_op op_fdiv (pv 6) pe_int))) (pa_cons (pe_callTy call_str_int rfl g_str (by decide +kernel) (pa_cons (pv 6) pa_nil)) (pa_cons (pe_op op_mulR pe_str (pv 6)) (pa_cons (pe_op op_add_str (pe_op op_add_str (pe_ix ix_str (pv 4) (pe_op op_mod (pv 6) pe_int) (fun _ _ => rfl)) pe_str) (pe_callTy call_str_int rfl g_str (by decide +kernel) (pa_cons (pv 6) pa_nil))) pa_nil))))) (pe_op op_mod (pe_op op_fdiv (pv 2) pe_int) pe_int) (fun _ _ => rfl)))
      (pss_one (ps_expr (pe_bm PySem.F.plainAttrs_list PySem.F.slot_list_insert PySem.F.type_list_insert mt_insert (pv 5) (pa_cons (pe_op op_mod (pe_ca f_l_next b_l_next hr (by decide) pass0 rfl (pa_cons (pv 0) pa_nil)) (pe_op op_add (pv 6) pe_int)) (pa_cons (pv 7) pa_nil)))))))
      (pss_one (ps_ret (pv 5)))))))), ?_⟩
    refine ⟨_, rfl, l, n, rfl, d, by omega, fun v H1 v0 v1 b1' d1 => ?_⟩
    repeat (first | refine ⟨_, rfl, ?_⟩ | refine ⟨_, _, rfl, rfl, md, ?_⟩ | refine ⟨_, _, rfl, rfl, ⟨by decide, by decide⟩, ?_⟩ | refine ⟨_, _, rfl, rfl, ⟨by decide, by decide, by decide⟩, ?_⟩ | refine ⟨_, _, rfl, rfl, .inr ⟨by decide, by decide⟩, ?_⟩ | refine ⟨_, _, rfl, rfl, ?_⟩)
    refine ⟨show (0 : Int) < b by omega, _, _, rfl, rfl, ?_⟩
    repeat (first | refine ⟨_, rfl, ?_⟩ | refine ⟨_, _, rfl, rfl, md, ?_⟩ | refine ⟨_, _, rfl, rfl, ⟨by decide, by decide⟩, ?_⟩ | refine ⟨_, _, rfl, rfl, ⟨by decide, by decide, by decide⟩, ?_⟩ | refine ⟨_, _, rfl, rfl, .inr ⟨by decide, by decide⟩, ?_⟩ | refine ⟨_, _, rfl, rfl, ?_⟩)
    refine ⟨(by show 4 ≤ sizeLine; decide), fun p np => ?_⟩
    have m0 := Int.emod_nonneg (v / 4) (show b ≠ 0 by omega)
    have m1 := Int.emod_lt_of_pos (v / 4) (show (0 : Int) < b by omega)
    obtain ⟨x, hx, m, rfl, hm1, hm2⟩ := pick (P := fun x => ∃ m : Nat, x = V.int (m : Int) ∧ 1 ≤ m ∧ m ≤ 60) (xs := [.int (1 + v / 4 % 3), .int 7, .int (1 + v / 4 % b), .int b]) (md0 v (j := 4)) (md1 v (j := 4)) (by
      intro x hx
      simp only [List.mem_cons, List.not_mem_nil, or_false] at hx
      rcases hx with rfl | rfl | rfl | rfl
      · exact ⟨(1 + v / 4 % 3).toNat, by congr 1; omega, by omega, by omega⟩
      · exact ⟨7, rfl, by omega, by omega⟩
      · exact ⟨(1 + v / 4 % b).toNat, by congr 1; omega, by omega, by omega⟩
      · exact ⟨b.toNat, by congr 1; omega, by omega, by omega⟩)
    refine ⟨_, rfl, _, _, rfl, rfl, md, p, _, _, _, rfl, rfl, SqL.of upd_same, hx, ?_⟩
    have np1 : p ≠ l := ne_of_none' d1 np
    refine ⟨ln _, fun pt nt => ⟨_, rfl, (m : Int), rfl, by omega, by omega, ?_⟩⟩
    have bA := b1'.upd (o := .lst [.int (1 + v / 4 % 3), .int 7, .int (1 + v / 4 % b), .int b]) np
    have dA := d1.new (o := .lst [.int (1 + v / 4 % 3), .int 7, .int (1 + v / 4 % b), .int b]) np
    have ptl : pt ≠ l := ne_of_none' dA nt
    have hpt : H pt = none := by
      cases h : H pt with
      | none => rfl
      | some o => exact absurd (bA pt o ptl h) (by rw [nt]; simp)
    have j0 := md0 (v / 256) (j := 4)
    have j1 := md1 (v / 256) (j := 4)
    obtain ⟨j, hj⟩ : ∃ j : Fin 4, v / 256 % 4 = (j.val : Int) := ⟨⟨(v / 256 % 4).toNat, by omega⟩, by show _ = (((v / 256 % 4).toNat : Nat) : Int); omega⟩
    refine for_range (n := m) (fun i σ H' => ∃ v6 v7 : Option V, σ = [some (.ref l), some (.int b), some (.int v), some (.int (m : Int)), some (.str "abcdefghijklmnopqrstuvwxyz"), some (.ref pt), v6, v7] ∧ But l H H' ∧ Dr H' l (n + 1 + i) ∧
      ∃ ns : List Str, H' pt = some (.lst (ns.map V.str)) ∧ ns.length = i ∧ ns.Nodup ∧ ∀ x ∈ ns, ∃ k, k < i ∧ x = nmS j.val k) ⟨_, _, rfl, bA.upd nt, dA.new nt, [], upd_same, rfl, by simp, by simp⟩ ?_ ?_
    · rintro i σ H3 hi ⟨v6, v7, rfl, b3, d3, ns, hns, hl, hnd, hmem⟩
      rw [Int.zero_add]
      have i60 : i < 60 := by omega
      have ll : (("abcdefghijklmnopqrstuvwxyz" : Str)).length ≤ sizeLine := by decide +kernel
      have la : atI (("abcdefghijklmnopqrstuvwxyz" : Str)).cps.toList ((i : Int) % 26) = some (97 + i % 26) := by
        have := let_at ⟨i % 26, Nat.mod_lt _ (by decide)⟩
        rw [← this]
        rfl
      have lc : (leC i).length = 1 := rfl
      have lx : (("x" : Str)).length ≤ 1000 := by decide +kernel
      have lb : (("" : Str) ++ (" " : Str)).length ≤ 1 := by decide +kernel
      have lg : ((i : Int)).natAbs.log2 < 1920 := Nat.lt_of_le_of_lt (Nat.log2_le_self _) (by omega)
      have li : (inS i).length ≤ 3 := Nat.le_of_ble_eq_true (in_len ⟨i, i60⟩)
      refine ⟨_, rfl, _, rfl, _, _, rfl, rfl, md, _, _, _, rfl, rfl, ll, la, ?_⟩
      refine ⟨_, rfl, _, _, rfl, rfl, ⟨by decide, by decide⟩, _, _, rfl, rfl, leC i, 1 + i / 26, rfl, congrArg V.int (show (1 : Int) + (i : Int) / 26 = ((1 + i / 26 : Nat) : Int) by omega), by omega, by rw [lc]; decide, ?_⟩
      refine ⟨_, rfl, _, rfl, lg, ?_⟩
      refine ⟨_, rfl, ("x" : Str), i, rfl, rfl, by omega, lx, ?_⟩
      refine ⟨_, rfl, _, rfl, _, _, rfl, rfl, md, _, _, _, rfl, rfl, ll, la, _, _, rfl, rfl, Nat.le_trans (show _ ≤ 5 from ?_) (by decide), _, rfl, _, rfl, lg, _, _, rfl, rfl, Nat.le_trans (show _ ≤ 50 from ?_) (by decide), ln _, fun pl nl => ?_⟩
      · show (leC i).length + ((" " : Str)).length ≤ 5
        rw [lc]
        decide +kernel
      · show ((leC i) ++ (" " : Str)).length + (inS i).length ≤ 50
        rw [str_app_len, lc]
        have : ((" " : Str)).length = 1 := by decide +kernel
        omega
      have hx4 : atI [V.str (rpS (leC i) (1 + i / 26)), V.str (inS i), V.str (rpS ("x" : Str) i), V.str ((leC i ++ (" " : Str)) ++ inS i)] (v / 256 % 4) = some (V.str (nmS j.val i)) := by
        refine four_at j0 j1 (fun e => ?_) (fun e => ?_) (fun e => ?_) (fun e => ?_)
        · rw [show j.val = 0 by omega, nm_0]
        · rw [show j.val = 1 by omega, nm_1]
        · rw [show j.val = 2 by omega, nm_2]
        · rw [show j.val = 3 by omega, nm_3]
      refine ⟨_, rfl, _, _, rfl, rfl, ⟨by decide, by decide⟩, _, _, rfl, rfl, md, pl, _, _, _, rfl, rfl, SqL.of upd_same, hx4, ?_⟩
      have plt : pl ≠ pt := fun z => by rw [z, hns] at nl; cases nl
      have d4 := d3.new (o := .lst [V.str (rpS (leC i) (1 + i / 26)), V.str (inS i), V.str (rpS ("x" : Str) i), V.str ((leC i ++ (" " : Str)) ++ inS i)]) nl
      have b4 := b3.upd (o := .lst [V.str (rpS (leC i) (1 + i / 26)), V.str (inS i), V.str (rpS ("x" : Str) i), V.str ((leC i ++ (" " : Str)) ++ inS i)]) nl
      have e4 : (L2.upd H3 pl (.lst [V.str (rpS (leC i) (1 + i / 26)), V.str (inS i), V.str (rpS ("x" : Str) i), V.str ((leC i ++ (" " : Str)) ++ inS i)])) pt = some (.lst (ns.map V.str)) := by rw [upd_ne (fun z => plt z.symm)]; exact hns
      refine ⟨_, rfl, .inl ⟨rfl, _, SqL.of e4⟩, ?_⟩
      refine ⟨_, rfl, l, _, rfl, d4, by omega, fun x H5 x0 x1 b5 d5 => ?_⟩
      have e5 := b5 _ _ ptl e4
      have y0 := Int.emod_nonneg x (show (i : Int) + 1 ≠ 0 by omega)
      have y1 := Int.emod_lt_of_pos x (show (0 : Int) < (i : Int) + 1 by omega)
      refine ⟨_, rfl, _, _, rfl, rfl, _, _, rfl, rfl, (show (0 : Int) < (i : Int) + 1 by omega), _, rfl, pt, _, _, _, rfl, rfl, e5, ?_, y0, ?_, ?_⟩
      · rw [List.length_map, hl, sizeLine_eq]
        omega
      · omega
      generalize hz : (x % ((i : Int) + 1)).toNat = z
      have hx : nmS j.val i ∉ ns := fun hm => by
        obtain ⟨k, hk, e⟩ := hmem _ hm
        exact nm_no j ⟨i, i60⟩ ⟨k, by omega⟩ hk e.symm
      have pm : List.Perm (ns.take z ++ [nmS j.val i] ++ ns.drop z) (nmS j.val i :: ns) := by
        rw [List.append_assoc]
        refine List.perm_middle.trans ?_
        show (nmS j.val i :: (ns.take z ++ ns.drop z)).Perm _
        rw [List.take_append_drop]
      refine ⟨_, _, rfl, (b4.trans b5).putN hpt, (d5.put ptl).mono (by omega), ns.take z ++ [nmS j.val i] ++ ns.drop z, ?_, ?_, ?_, ?_⟩
      · rw [upd_same, List.map_append, List.map_append, List.map_take, List.map_drop]
        rfl
      · rw [pm.length_eq, List.length_cons, hl]
      · rw [pm.nodup_iff]
        exact List.nodup_cons.mpr ⟨hx, hnd⟩
      · intro y hy
        rcases List.mem_cons.mp (pm.mem_iff.mp hy) with rfl | hy
        · exact ⟨i, by omega, rfl⟩
        · obtain ⟨k, hk, e⟩ := hmem y hy
          exact ⟨k, by omega, e⟩
    · rintro σ H3 ⟨v6, v7, rfl, b3, d3, ns, hns, hl, hnd, hmem⟩
      refine ⟨_, rfl, q pt ns H3 b3 (d3.mono (by omega)) hns ptl ⟨⟨fun e => ?_, hnd, by omega⟩, fun x hx => ?_, by omega, fun hz => by
        obtain ⟨k, hk, e⟩ := hmem _ hz
        exact zz_no j ⟨k, by omega⟩ e.symm⟩⟩
      · rw [e] at hl
        simp at hl
        omega
      · obtain ⟨k, hk, e⟩ := hmem x hx
        rw [e]
        exact nm_ok j ⟨k, by omega⟩
end
theorem yes' {A B : Prop} {b : Bool} (hb : b = true) (h : A) : if b = true then A else B := by
  rw [if_pos hb]
  exact h
theorem lt60' {n : Nat} (h : n ≤ 62) : n < 2 ^ 60 := Nat.lt_of_le_of_lt h (by decide)
/-! ### what the law looks at -/
theorem okT_str {x : Str} (h : okT x = true) : PyData.strOk x = true := by
  unfold okT at h
  rw [Bool.and_eq_true] at h
  have h2 := List.all_eq_true.mp h.2
  unfold PyData.strOk
  rw [Array.all_eq_true_iff_forall_mem]
  intro c hc
  have := Nat.le_of_ble_eq_true (h2 c (by simpa using hc))
  exact decide_eq_true (by omega)
theorem okT_len {x : Str} (h : okT x = true) : x.length ≤ 62 := by
  unfold okT at h
  rw [Bool.and_eq_true, Bool.and_eq_true] at h
  exact Nat.le_of_ble_eq_true h.1.1
theorem NmF.t {ns : List Str} (h : NmF ns) : NmT ns := ⟨h.g, fun x hx => okT_str (h.ok x hx), fun x hx => Nat.le_trans (okT_len (h.ok x hx)) (by decide)⟩
def spOn : Sp := fun vs H Q _ => ∃ (ln : Addr) (ns : List Str) (f d : Int), vs = [.ref ln, .int f, .int d] ∧ H ln = some (.lst (ns.map V.str)) ∧ NmG ns ∧ Q (.str (nmA (ns, f) d)) H
def spFn : Sp := fun vs H Q _ => ∃ (ln : Addr) (ns : List Str) (f : Int), vs = [.ref ln, .int f] ∧ H ln = some (.lst (ns.map V.str)) ∧ NmG ns ∧ ∀ t H', Same H H' → H' t = some (.lst ((fnW (ns, f)).map V.str)) → Q (.ref t) H'
def spNd61 : Sp := fun vs H Q _ => ∃ (ln : Addr) (ns : List Str) (f d : Int) (n : Str), vs = [.ref ln, .int f, .int d, .str n] ∧ H ln = some (.lst (ns.map V.str)) ∧ NmG ns ∧ n ∈ ns ∧ Q (.int (d + (dyA (ns, f) n - d) % (ns.length : Int))) H
abbrev TE_l_from_nought1 : TE := tCall spOn [] E0 (tCons (tVar 0) (tCons (tVar 1) (tCons (tVar 2) tNil)))
theorem atN {ns : List Str} {z : Int} (h0 : 0 ≤ z) (h1 : z < (ns.length : Int)) : atI (ns.map V.str) z = some (.str (ns.getD z.toNat Str.empty)) := by
  rw [List.getD_eq_getElem?_getD]
  unfold atI ixN
  rw [if_pos h0, if_pos (by rw [List.length_map]; omega)]
  show (ns.map V.str)[z.toNat]? = _
  rw [List.getElem?_map, List.getElem?_eq_getElem (by omega)]
  rfl
section
variable {P : Program} {w : World} {K : PySem.W.Frag} {mg : Str → Option Value} {base : Heap} {C : Addr}
theorem ok_on (D : Df K mg "_law_on" s_l_on []) (g_len : mg "len" = none) : Ca P w K mg base CX0 1 "_law_on" s_l_on [] ["_law_a_names", "_law_a_first", "_law_a_day"] spOn := by
  refine ca0 (k := 0) D c_l_on (fun vs H Q E h => ?_) fun f cdv A outer s H vs Q E hr h => ?_
  · obtain ⟨ln, ns, f, d, rfl, _⟩ := h
    rfl
  · obtain ⟨ln, ns, i, d, rfl, hl, g, q⟩ := h
    have l0 := g.pos
    have h0 := Int.emod_nonneg (d - i) (show (ns.length : Int) ≠ 0 by omega)
    have h1 := Int.emod_lt_of_pos (d - i) (show (0 : Int) < (ns.length : Int) by omega)
    refine ⟨_, (pss_one (ps_ret (pe_ix ix_list (pv 0) (pe_op op_mod (pe_op op_sub (pv 2) (pv 1)) (pe_callB call_len_seq rfl g_len (by decide +kernel) (pa_cons (pv 0) pa_nil))) (fun _ _ => rfl)))), ?_⟩
    refine ⟨_, rfl, _, rfl, _, rfl, _, _, rfl, rfl, _, rfl, ln, _, rfl, .inl (SqL.of hl), _, _, rfl, rfl, (by rw [List.length_map]; omega), ?_⟩
    rw [List.length_map]
    exact ⟨ln, _, _, _, rfl, rfl, SqL.of hl, atN h0 h1, q⟩
theorem ok_fn (D : Df K mg "_law_from_nought" s_l_from_nought []) (f_l_on : Ca P w K mg base CX0 1 "_law_on" s_l_on [] ["_law_a_names", "_law_a_first", "_law_a_day"] spOn) (g_len : mg "len" = none) (g_range : mg "range" = none) : Ca P w K mg base CX0 2 "_law_from_nought" s_l_from_nought [] ["_law_a_names", "_law_a_first"] spFn := by
  refine ca0 (k := 1) D c_l_from_nought (fun vs H Q E h => ?_) fun f cdv A outer s H vs Q E hr h => ?_
  · obtain ⟨ln, ns, i, rfl, _⟩ := h
    rfl
  · obtain ⟨ln, ns, i, rfl, hl, g, q⟩ := h
    have gl := g.len
    refine ⟨_, (pss_one (ps_ret (pe_lc (own := [("_law_a_day", 2)]) (g := gName 2) (tt := tYes) (te := TE_l_from_nought1 ) rfl c_l_from_nought.nd (pi_range1 rfl g_range (pa_cons (pe_callB call_len_seq rfl g_len (by decide +kernel) (pa_cons (pv 0) pa_nil)) pa_nil)) (blkOk_by (N := ["_law_a_names", "_law_a_first", "_law_a_day"]) (sc := defScope s_l_from_nought) (by decide +kernel)) (fun _ _ _ _ _ => (pg_name (i := 2) c_l_from_nought.nd rfl (.inl rfl))) (fun _ _ _ _ _ => by exact pts_nil) (fun _ _ _ _ _ => by exact (pe_ca f_l_on b_l_on hr (by decide) pass0 rfl (pa_cons (pv 0) (pa_cons (pv 1) (pa_cons (pv 2) pa_nil)))))))), ?_⟩
    refine ⟨_, rfl, ln, _, rfl, .inl (SqL.of hl), _, rfl, by rw [List.length_map]; omega, by rw [List.length_map]; omega, fun D0 nD => ?_⟩
    rw [List.length_map, Int.toNat_natCast]
    refine lc_fn (walk_range (lo := 0) (n := ns.length)) yFn_same nD (Nat.lt_of_le_of_lt gl (by decide)) (fun j => V.str (nmA (ns, i) (j : Int))) (fun _ _ => trivial) ?_ ?_
    · rintro j x H1 H2 R hj s1 ⟨rfl, rfl⟩ k1
      refine ⟨rfl, ?_⟩
      refine ⟨_, rfl, _, rfl, _, rfl, ln, ns, i, 0 + (j : Int), rfl, s1 _ _ hl, g, ?_⟩
      rw [Int.zero_add]
      exact k1 _ (Same.refl _)
    · intro H1 eD s1
      refine q D0 H1 s1 ?_
      rw [eD]
      unfold fnW
      rw [List.map_map]
      rfl
theorem ok_nd61 (D : Df K mg "_law_next_day" s_l_next_day []) (f_l_on : Ca P w K mg base CX0 1 "_law_on" s_l_on [] ["_law_a_names", "_law_a_first", "_law_a_day"] spOn) (g_len : mg "len" = none) (g_range : mg "range" = none) : Ca P w K mg base CX0 2 "_law_next_day" s_l_next_day [] ["_law_a_names", "_law_a_first", "_law_a_day", "_law_a_name"] spNd61 := by
  refine ca0 (k := 1) D c_l_next_day (fun vs H Q E h => ?_) fun f cdv A outer s H vs Q E hr h => ?_
  · obtain ⟨ln, ns, i, d, n, rfl, _⟩ := h
    rfl
  · obtain ⟨ln, ns, i, d, n, rfl, hl, g, hn, q⟩ := h
    have gl := g.len
    have l0 := g.pos
    have m0 := Int.emod_nonneg (dyA (ns, i) n - d) (show (ns.length : Int) ≠ 0 by omega)
    have m1 := Int.emod_lt_of_pos (dyA (ns, i) n - d) (show (0 : Int) < (ns.length : Int) by omega)
    have hit : ∀ k : Nat, k < ns.length → (nmA (ns, i) (d + (k : Int)) = n ↔ (k : Int) = (dyA (ns, i) n - d) % (ns.length : Int)) := fun k hk => by
      rw [nmA_iff (x := (ns, i)) g hn]
      constructor
      · rintro ⟨c, hc⟩
        have hc : d + (k : Int) - dyA (ns, i) n = (ns.length : Int) * c := hc
        have : dyA (ns, i) n - d = (k : Int) + (ns.length : Int) * (-c) := by rw [Int.mul_neg]; omega
        rw [this, Int.add_mul_emod_self_left, Int.emod_eq_of_lt (by omega) (by omega)]
      · intro e
        have : d + (k : Int) - dyA (ns, i) n = -((dyA (ns, i) n - d) - (dyA (ns, i) n - d) % (ns.length : Int)) := by omega
        rw [this]
        exact Int.dvd_neg.mpr Int.dvd_self_sub_emod
    refine ⟨_, (pss_cons (ps_for PassesOwn.never rfl (pi_range1 rfl g_range (pa_cons (pe_callB call_len_seq rfl g_len (by decide +kernel) (pa_cons (pv 0) pa_nil)) pa_nil)) (pg_name (i := 4) c_l_next_day.nd rfl (.inl rfl)) (pss_one (ps_if (pt_cmpR op_eq (pe_ca f_l_on b_l_on hr (by decide) pass0 rfl (pa_cons (pv 0) (pa_cons (pv 1) (pa_cons (pe_op op_add (pv 2) (pv 4)) pa_nil)))) (pv 3) (nomark _)) (pss_one (ps_ret (pe_op op_add (pv 2) (pv 4)))) pss_nil)))
      (pss_one (ps_ret pe_non))), ?_⟩
    refine ⟨_, rfl, ln, _, rfl, .inl (SqL.of hl), _, rfl, by rw [List.length_map]; omega, by rw [List.length_map]; omega, ?_⟩
    rw [List.length_map, Int.toNat_natCast]
    refine for_range (n := ns.length) (fun j σ H' => (∃ v4 : Option V, σ = [some (.ref ln), some (.int i), some (.int d), some (.str n), v4]) ∧ H' = H ∧ ∀ k : Nat, k < j → nmA (ns, i) (d + (k : Int)) ≠ n) ⟨⟨_, rfl⟩, rfl, fun k h => absurd h (by omega)⟩ ?_ ?_
    · rintro j σ H' hj ⟨⟨v4, rfl⟩, rfl, no⟩
      rw [Int.zero_add]
      refine ⟨_, rfl, _, rfl, _, rfl, _, rfl, _, _, rfl, rfl, ln, ns, i, _, rfl, hl, g, _, rfl, rfl, _, rfl, ?_⟩
      by_cases hb : nmA (ns, i) (d + (j : Int)) = n
      · refine yes' (by rw [decide_eq_true_eq]; exact congrArg V.str hb) ?_
        refine ⟨_, rfl, _, rfl, _, _, rfl, rfl, ?_⟩
        rw [(hit j hj).mp hb]
        exact q
      · refine no' (by rw [decide_eq_false_iff_not]; exact fun z => hb (by injection z)) ?_
        refine ⟨⟨_, rfl⟩, rfl, fun k hk => ?_⟩
        by_cases z : k = j
        · rw [z]; exact hb
        · exact no k (by omega)
    · rintro σ H' ⟨⟨v4, rfl⟩, rfl, no⟩
      have key := (hit ((dyA (ns, i) n - d) % (ns.length : Int)).toNat (by omega)).mpr (by omega)
      exact absurd key (no _ (by omega))
end
/-! ### another wheel -/
theorem NmG.fn {ns : List Str} (g : NmG ns) (i : Int) : NmG (fnW (ns, i)) := by
  have l0 := g.pos
  refine ⟨fun e => ?_, ?_, by rw [fnW_len]; exact g.len⟩
  · have := fnW_len (ns, i)
    rw [e] at this
    have : (ns, i).1.length = 0 := this.symm
    have : ns.length = 0 := this
    omega
  · unfold fnW List.Nodup
    rw [List.pairwise_map]
    refine List.Pairwise.imp_of_mem (R := (· < ·)) (fun {a b} ha hb hab e => ?_) List.pairwise_lt_range
    rw [List.mem_range] at ha hb
    have ha : a < ns.length := ha
    have hb : b < ns.length := hb
    obtain ⟨c, hc⟩ := (nmA_eq (x := (ns, i)) g _ _).mp e
    have hc : (a : Int) - (b : Int) = (ns.length : Int) * c := hc
    have h1 : -(ns.length : Int) < (ns.length : Int) * c := by omega
    have h2 : (ns.length : Int) * c < 0 := by omega
    have c1 : c < 0 := by
      apply Int.not_le.mp
      intro h
      have := Int.mul_nonneg (show 0 ≤ (ns.length : Int) by omega) h
      omega
    have c2 : -1 < c := by
      apply Int.not_le.mp
      intro h
      have := Int.mul_le_mul_of_nonneg_left h (show 0 ≤ (ns.length : Int) by omega)
      omega
    omega
theorem NmT.of {ns os : List Str} (h : NmT ns) (g : NmG os) (m : ∀ x ∈ os, x ∈ ns) : NmT os := ⟨g, fun x hx => h.ok x (m x hx), fun x hx => h.ln x (m x hx)⟩
theorem NmT.fn {ns : List Str} (h : NmT ns) (i : Int) : NmT (fnW (ns, i)) := h.of (h.g.fn i) (fnW_mem (x := (ns, i)) h.g)
def swW (ns : List Str) (a : Nat) : List Str := (ns.set 0 (ns.getD a Str.empty)).set a (ns.getD 0 Str.empty)
theorem NmT.sw {ns : List Str} (h : NmT ns) {a : Nat} (ha : a < ns.length) : NmT (swW ns a) := by
  have l0 := h.g.pos
  have e : swW ns a = (ns.set 0 ns[a]).set a ns[0] := by
    unfold swW
    rw [List.getD_eq_getElem?_getD, List.getD_eq_getElem?_getD, List.getElem?_eq_getElem ha, List.getElem?_eq_getElem l0]
    rfl
  have pm : (swW ns a).Perm ns := by rw [e]; exact List.set_set_perm l0 ha
  refine h.of ⟨fun z => ?_, pm.nodup_iff.mpr h.g.nd, by rw [pm.length_eq]; exact h.g.len⟩ fun x hx => pm.mem_iff.mp hx
  have := pm.length_eq
  rw [z] at this
  simp at this
  omega
theorem NmT.tk {ns : List Str} (h : NmT ns) (a : Nat) : NmT (ns.take (a + 1)) := by
  have l0 := h.g.pos
  refine h.of ⟨fun z => ?_, h.g.nd.sublist (List.take_sublist _ _), by rw [List.length_take]; have := h.g.len; omega⟩ fun x hx => List.mem_of_mem_take hx
  have e : (ns.take (a + 1)).length = 0 := by rw [z]; rfl
  rw [List.length_take] at e
  omega
/-- a wheel's names and first day, as a pair at t -/
def Op61 (H : Hp) (t : Addr) (os : List Str) (st : Int) : Prop := ∃ lo, H t = some (.tup [.ref lo, .int st]) ∧ H lo = some (.lst (os.map V.str))
theorem Op61.same {H H1 : Hp} {t : Addr} {os : List Str} {st : Int} (h : Op61 H t os st) (s : Same H H1) : Op61 H1 t os st := let ⟨lo, a, b⟩ := h; ⟨lo, s _ _ a, s _ _ b⟩
theorem rf_ne {t : Addr} {r : List V} {os : List Str} : os.map V.str ≠ V.ref t :: r := by
  cases os with
  | nil => simp
  | cons x os => simp
theorem Op61.put {H : Hp} {t l u : Addr} {r : List V} {os : List Str} {st : Int} {o : HO} (h : Op61 H t os st) (he : H l = some (.lst (V.ref u :: r))) : Op61 (L2.upd H l o) t os st := by
  obtain ⟨lo, a, b⟩ := h
  refine ⟨lo, by rw [upd_ne (ne_of a he (by intro z; cases z))]; exact a, ?_⟩
  rw [upd_ne]
  · exact b
  · intro z
    rw [z, he] at b
    injection b with b
    injection b with b
    exact rf_ne b.symm
theorem NmT.last {ns : List Str} (h : NmT ns) (zz : ("zz zz" : Str) ∉ ns) (l : ns.length ≤ 60) (hz : PyData.strOk ("zz zz" : Str) = true) : NmT ((ns ++ [("zz zz" : Str)]).drop (ns.length + 1 - 60)) := by
  have l0 := h.g.pos
  have nd : (ns ++ [("zz zz" : Str)]).Nodup := by
    rw [List.nodup_append]
    exact ⟨h.g.nd, by simp, fun x hx y hy e => zz (by rw [List.mem_singleton] at hy; rw [← hy, ← e]; exact hx)⟩
  have m : ∀ x ∈ (ns ++ [("zz zz" : Str)]).drop (ns.length + 1 - 60), x ∈ ns ∨ x = ("zz zz" : Str) := fun x hx => by
    rcases List.mem_append.mp (List.mem_of_mem_drop hx) with h | h
    · exact .inl h
    · exact .inr (List.mem_singleton.mp h)
  refine ⟨⟨fun z => ?_, nd.sublist (List.drop_sublist _ _), ?_⟩, fun x hx => ?_, fun x hx => ?_⟩
  · have e : ((ns ++ [("zz zz" : Str)]).drop (ns.length + 1 - 60)).length = 0 := by rw [z]; rfl
    rw [List.length_drop, List.length_append, List.length_singleton] at e
    omega
  · rw [List.length_drop, List.length_append, List.length_singleton]
    omega
  · rcases m x hx with h' | rfl
    · exact h.ok x h'
    · exact hz
  · rcases m x hx with h' | rfl
    · exact h.ln x h'
    · decide +kernel
theorem cut_last (ys : List Str) (k : Nat) (h : ys.length ≤ 61) (hk : ys.length = k + 1) : cutV (ys.map V.str) (some (-60)) none = (ys.drop (k + 1 - 60)).map V.str := by
  rw [cut_map]
  have e1 : HT.sIx ys.length ys.length none = ys.length := rfl
  have e2 : HT.sIx ys.length 0 (some (-60)) = k + 1 - 60 := by
    show (if (-60 : Int) < 0 then ((-60 : Int) + (ys.length : Int)).toNat else min (-60 : Int).toNat ys.length) = _
    rw [if_pos (by decide)]
    omega
  rw [e1, e2, List.take_of_length_le (by rw [List.length_drop]; omega)]
def spOt : Sp := fun vs H Q _ => ∃ (l ln : Addr) (n : Nat) (ns : List Str) (f : Int), vs = [.ref l, .ref ln, .int f] ∧ Dr H l n ∧ n ≤ 1000 ∧ H ln = some (.lst (ns.map V.str)) ∧ ln ≠ l ∧ NmT ns ∧ ("zz zz" : Str) ∉ ns ∧ ns.length ≤ 60 ∧ Sz 64 f ∧ ∀ t os st H', But l H H' → Op61 H' t os st → NmT os → Sz 100 st → Q (.ref t) H'
abbrev TE_l_other1 (K : PySem.W.Frag) : TE := tOp (rIxL K) (tVar 1) (tOp (rI (fun _ j => 0 < j) fun i j => .int (i % j)) (tOp (rI0 fun i j => .int (i + j)) (tVar 9) (tVar 4)) (tCB (fun xs H Q => ∃ p ys, xs = [.ref p] ∧ (SqL K H p ys ∨ SqT K H p ys) ∧ Q (.int ys.length) H) (tCons (tVar 1) tNil)))
section
variable {P : Program} {w : World} {K : PySem.W.Frag} {mg : Str → Option Value} {base : Heap} {C : Addr}
set_option maxHeartbeats 8000000 in
theorem ok_ot (D : Df K mg "_law_other" s_l_other []) (f_l_next : Ca P w K mg base CX0 1 "_law_next" s_l_next [] ["_law_draws_here"] spNext) (g_len : mg "len" = none) (g_list : mg "list" = none) (g_range : mg "range" = none) : Ca P w K mg base CX0 2 "_law_other" s_l_other [] ["_law_draws_here", "_law_a_names", "_law_a_first"] spOt := by
  refine ca0 (k := 1) D c_l_other (fun vs H Q E h => ?_) fun f cdv A outer s H vs Q E hr h => ?_
  · obtain ⟨l, ln, n, ns, i, rfl, _⟩ := h
    rfl
  · obtain ⟨l, ln, n, ns, i, rfl, d, hn, hl, lnl, g, zz, l60, zi, q⟩ := h
    have l0 := g.g.pos
    have gl := g.g.len
    refine ⟨_, (pss_cons (ps_set (i := 3) c_l_other.nd rfl (.inl rfl) (pe_ca f_l_next b_l_next hr (by decide) pass0 rfl (pa_cons (pv 0) pa_nil)))
      (pss_cons (ps_set (i := 4) c_l_other.nd rfl (.inr rfl) (pe_op op_mod (pe_op op_fdiv (pv 3) pe_int) (pe_op op_add (pe_op op_mul pe_int (pe_callB call_len_seq rfl g_len (by decide +kernel) (pa_cons (pv 1) pa_nil))) pe_int)))
      (pss_cons (ps_setLc (i := 5) (own := [("_law_k", 9)]) (g := gName 9) (tt := tYes) (te := TE_l_other1 K) rfl c_l_other.nd rfl rfl (sw_true rfl rfl rfl (by decide +kernel)) (pi_range1 rfl g_range (pa_cons (pe_callB call_len_seq rfl g_len (by decide +kernel) (pa_cons (pv 1) pa_nil)) pa_nil)) (blkOk_by (N := ["_law_draws_here", "_law_a_names", "_law_a_first", "_law_pick", "_law_by", "_law_turned", "_law_at", "_law_some", "_law_told", "_law_k"]) (sc := defScope s_l_other) (by decide +kernel)) (fun _ _ _ _ _ => (pg_name (i := 9) c_l_other.nd rfl (.inl rfl))) (fun _ _ _ _ _ => by exact pts_nil) (fun _ _ _ _ _ => by exact (pe_ix ix_list (pv 1) (pe_op op_mod (pe_op op_add (pv 9) (pv 4)) (pe_callB call_len_seq rfl g_len (by decide +kernel) (pa_cons (pv 1) pa_nil))) (fun _ _ => rfl))))
      (pss_cons (ps_set (i := 6) c_l_other.nd rfl (.inl rfl) (pe_op op_mod (pe_op op_fdiv (pv 3) pe_int) (pe_callB call_len_seq rfl g_len (by decide +kernel) (pa_cons (pv 1) pa_nil))))
      (pss_cons (ps_set (i := 7) c_l_other.nd rfl (.inl rfl) (pe_callTy call_list_of rfl g_list (by decide +kernel) (pa_cons (pv 1) pa_nil)))
      (pss_cons (ps_asg (pe_tup (pa_cons (pe_ix ix_list (pv 7) (pv 6) (fun _ _ => rfl)) (pa_cons (pe_ix ix_list (pv 7) pe_int (fun _ _ => rfl)) pa_nil))) (pg_tup rfl (pgs_cons (pg_sub (pv 7) pe_int set_list) (pgs_cons (pg_sub (pv 7) (pv 6) set_list) pgs_nil))))
      (pss_cons (ps_set (i := 8) c_l_other.nd rfl (.inl rfl) (pe_lst (pa_cons (pe_tup (pa_cons (pv 5) (pa_cons (pe_op op_add (pv 2) (pv 4)) pa_nil))) (pa_cons (pe_tup (pa_cons (pv 5) (pa_cons (pv 2) pa_nil))) (pa_cons (pe_tup (pa_cons (pe_callTy call_list_of rfl g_list (by decide +kernel) (pa_cons (pv 1) pa_nil)) (pa_cons (pe_op op_add (pv 2) (pv 4)) pa_nil))) (pa_cons (pe_tup (pa_cons (pv 7) (pa_cons (pv 2) pa_nil))) pa_nil))))))
      (pss_cons (ps_expr (pe_bm PySem.F.plainAttrs_list PySem.F.slot_list_append PySem.F.type_list_append mt_append (pv 8) (pa_cons (pe_tup (pa_cons (pe_slice sl_list (pe_op op_cat (pv 1) (pe_lst (pa_cons pe_str pa_nil))) (po_some (pe_un un_neg pe_int)) po_none) (pa_cons (pv 2) pa_nil))) pa_nil)))
      (pss_cons (ps_set (i := 8) c_l_other.nd rfl (.inl rfl) (pe_op op_cat (pv 8) (pe_lst (pa_cons (pe_tup (pa_cons (pe_callTy call_list_of rfl g_list (by decide +kernel) (pa_cons (pv 1) pa_nil)) (pa_cons (pe_op op_add (pv 2) (pe_op op_mul (pe_callB call_len_seq rfl g_len (by decide +kernel) (pa_cons (pv 1) pa_nil)) (pe_op op_sub (pv 4) pe_int))) pa_nil))) (pa_cons (pe_tup (pa_cons (pe_slice sl_list (pv 1) po_none (po_some (pe_op op_add (pv 6) pe_int))) (pa_cons (pv 2) pa_nil))) pa_nil)))))
      (pss_one (ps_ret (pe_ix ix_list (pv 8) (pe_op op_mod (pv 3) pe_int) (fun _ _ => rfl))))))))))))), ?_⟩
    refine ⟨_, rfl, l, n, rfl, d, by omega, fun v H1 v0 v1 b1 d1 => ?_⟩
    have hl1 := b1 _ _ lnl hl
    have by0 := Int.emod_nonneg (v / 8) (show 2 * (ns.length : Int) + 1 ≠ 0 by omega)
    have by1 := Int.emod_lt_of_pos (v / 8) (show (0 : Int) < 2 * (ns.length : Int) + 1 by omega)
    have at0 := Int.emod_nonneg (v / 8) (show (ns.length : Int) ≠ 0 by omega)
    have at1 := Int.emod_lt_of_pos (v / 8) (show (0 : Int) < (ns.length : Int) by omega)
    refine ⟨_, rfl, _, _, rfl, rfl, ⟨by decide, by decide⟩, _, rfl, ln, _, rfl, .inl (SqL.of hl1), _, _, rfl, rfl, .inl ⟨by decide, by decide⟩, _, _, rfl, rfl, _, _, rfl, rfl, (by rw [List.length_map]; omega), ?_⟩
    rw [List.length_map]
    dsimp only
    obtain ⟨B, hB⟩ : ∃ B : Nat, v / 8 % (2 * (ns.length : Int) + 1) = (B : Int) := ⟨(v / 8 % (2 * (ns.length : Int) + 1)).toNat, by omega⟩
    rw [hB] at by0 by1 ⊢
    obtain ⟨a, ha⟩ : ∃ a : Nat, v / 8 % (ns.length : Int) = (a : Int) := ⟨(v / 8 % (ns.length : Int)).toNat, by omega⟩
    rw [ha] at at0 at1
    have aN : a < ns.length := by omega
    refine ⟨_, rfl, ln, _, rfl, .inl (SqL.of hl1), _, rfl, by rw [List.length_map]; omega, by rw [List.length_map]; omega, fun D0 nD => ?_⟩
    rw [List.length_map, Int.toNat_natCast]
    refine lc_fn (walk_range (lo := 0) (n := ns.length)) yFn_same nD (Nat.lt_of_le_of_lt gl (by decide)) (fun j => V.str (nmA (ns, -(B : Int)) (j : Int))) (fun _ _ => trivial) ?_ ?_
    · rintro j x H2 H3 R hj s1 ⟨rfl, rfl⟩ k1
      have m0 := Int.emod_nonneg (0 + (j : Int) + (B : Int)) (show (ns.length : Int) ≠ 0 by omega)
      have m1 := Int.emod_lt_of_pos (0 + (j : Int) + (B : Int)) (show (0 : Int) < (ns.length : Int) by omega)
      refine ⟨rfl, ?_⟩
      refine ⟨_, rfl, _, rfl, _, rfl, _, _, rfl, rfl, _, rfl, ln, _, rfl, .inl (SqL.of (s1 _ _ hl1)), _, _, rfl, rfl, (by rw [List.length_map]; omega), ?_⟩
      rw [List.length_map]
      refine ⟨ln, _, _, _, rfl, rfl, SqL.of (s1 _ _ hl1), atN m0 m1, ?_⟩
      have := k1 _ (Same.refl _)
      unfold nmA at this
      rw [show (j : Int) - -(B : Int) = 0 + (j : Int) + (B : Int) by omega] at this
      exact this
    intro H2 eD s2
    have eD : H2 D0 = some (.lst ((fnW (ns, -(B : Int))).map V.str)) := by
      rw [eD]
      unfold fnW
      rw [List.map_map]
      rfl
    have hl2 := s2 _ _ hl1
    have b2 := b1.trans (But.same s2)
    refine ⟨_, rfl, _, _, rfl, rfl, ⟨by decide, by decide⟩, _, rfl, ln, _, rfl, .inl (SqL.of hl2), _, _, rfl, rfl, (by rw [List.length_map]; omega), ?_⟩
    rw [List.length_map]
    dsimp only
    rw [ha]
    refine ⟨_, rfl, ln, _, rfl, .inl (SqL.of hl2), fun ls nls => ?_⟩
    have s3 := Same.new (o := .lst (ns.map V.str)) nls
    have els := upd_same (H := H2) (a := ls) (o := .lst (ns.map V.str))
    have hl3 := s3 _ _ hl2
    have eD3 := s3 _ _ eD
    have lsH : ∀ {c : Addr} {o : HO}, c ≠ l → H c = some o → c ≠ ls := fun {c o} h1 h2 => ne_of_none (b2 c o h1 h2) nls
    have lsln : ln ≠ ls := ne_of_none hl2 nls
    have lsD : D0 ≠ ls := ne_of_none eD nls
    have b3 := b2.trans (But.same s3)
    generalize L2.upd H2 ls _ = H3 at *
    have e0 : atI (ns.map V.str) 0 = some (.str (ns.getD 0 Str.empty)) := atN (by decide) (by omega)
    have ea : atI (ns.map V.str) (a : Int) = some (.str (ns.getD a Str.empty)) := atN (by omega) (by omega)
    refine ⟨_, rfl, _, rfl, ls, _, _, _, rfl, rfl, SqL.of els, ea, _, rfl, ls, _, _, _, rfl, rfl, SqL.of els, e0, (by show 2 ≤ sizeLine; decide), fun tp ntp => ?_⟩
    have s4 := Same.new (o := .tup [.str (ns.getD a Str.empty), .str (ns.getD 0 Str.empty)]) ntp
    have els4 := s4 _ _ els
    have hl4 := s4 _ _ hl3
    have eD4 := s4 _ _ eD3
    have b4 := b3.trans (But.same s4)
    refine ⟨tp, _, rfl, SqT.of upd_same, rfl, ?_⟩
    generalize L2.upd H3 tp _ = H4 at *
    refine ⟨_, _, rfl, _, rfl, ls, _, _, 0, rfl, rfl, els4, (by unfold ixN; rw [List.length_map, if_pos (by decide), if_pos (by omega)]; rfl), ?_⟩
    refine ⟨_, _, rfl, _, rfl, _, rfl, ls, _, _, a, rfl, rfl, upd_same, (by unfold ixN; rw [List.length_set, List.length_map, if_pos (by omega), if_pos (by omega), Int.toNat_natCast]), ?_⟩
    refine ⟨rfl, ?_⟩
    rw [upd_upd]
    have esw : ((ns.map V.str).set 0 (V.str (ns.getD a Str.empty))).set a (V.str (ns.getD 0 Str.empty)) = (swW ns a).map V.str := by
      unfold swW
      rw [List.map_set, List.map_set]
    rw [esw]
    have hl5 : (L2.upd H4 ls (.lst ((swW ns a).map V.str))) ln = some (.lst (ns.map V.str)) := by rw [upd_ne lsln]; exact hl4
    have eD5 : (L2.upd H4 ls (.lst ((swW ns a).map V.str))) D0 = some (.lst ((fnW (ns, -(B : Int))).map V.str)) := by rw [upd_ne lsD]; exact eD4
    have els5 : (L2.upd H4 ls (.lst ((swW ns a).map V.str))) ls = some (.lst ((swW ns a).map V.str)) := upd_same
    have b5 : But l H (L2.upd H4 ls (.lst ((swW ns a).map V.str))) := fun c o h1 h2 => by
      rw [upd_ne (lsH h1 h2)]
      exact b4 c o h1 h2
    generalize L2.upd H4 ls (.lst ((swW ns a).map V.str)) = H5 at *
    clear s4 s3 els4 els hl4 hl3 eD4 eD3 eD b4 b3 b2
    refine ⟨_, rfl, _, rfl, _, rfl, _, _, rfl, rfl, (by show 2 ≤ sizeLine; decide), fun t0 n0 => ?_⟩
    have s6 := Same.new (o := .tup [.ref D0, .int (i + (B : Int))]) n0
    have o0 : Op61 (L2.upd H5 t0 (.tup [.ref D0, .int (i + (B : Int))])) t0 (fnW (ns, -(B : Int))) (i + (B : Int)) := ⟨D0, upd_same, s6 _ _ eD5⟩
    refine ⟨_, rfl, _, rfl, (by show 2 ≤ sizeLine; decide), fun t1 n1 => ?_⟩
    generalize L2.upd H5 t0 _ = H6 at *
    have s7 := Same.new (o := .tup [.ref D0, .int i]) n1
    have o1 : Op61 (L2.upd H6 t1 (.tup [.ref D0, .int i])) t1 (fnW (ns, -(B : Int))) i := ⟨D0, upd_same, s7 _ _ (s6 _ _ eD5)⟩
    have o0 := o0.same s7
    have s57 := s6.trans s7
    generalize L2.upd H6 t1 _ = H7 at *
    refine ⟨_, rfl, ln, _, rfl, .inl (SqL.of (s57 _ _ hl5)), fun l3 nl3 => ?_⟩
    have s8 := Same.new (o := .lst (ns.map V.str)) nl3
    have el3 := upd_same (H := H7) (a := l3) (o := .lst (ns.map V.str))
    generalize L2.upd H7 l3 _ = H8 at *
    refine ⟨_, rfl, _, rfl, _, _, rfl, rfl, (by show 2 ≤ sizeLine; decide), fun t2 n2 => ?_⟩
    have s9 := Same.new (o := .tup [.ref l3, .int (i + (B : Int))]) n2
    have o2 : Op61 (L2.upd H8 t2 (.tup [.ref l3, .int (i + (B : Int))])) t2 ns (i + (B : Int)) := ⟨l3, upd_same, s9 _ _ el3⟩
    have o0 := (o0.same s8).same s9
    have o1 := (o1.same s8).same s9
    have s59 := (s57.trans s8).trans s9
    generalize L2.upd H8 t2 _ = H9 at *
    refine ⟨_, rfl, _, rfl, (by show 2 ≤ sizeLine; decide), fun t3 n3 => ?_⟩
    have s10 := Same.new (o := .tup [.ref ls, .int i]) n3
    have o3 : Op61 (L2.upd H9 t3 (.tup [.ref ls, .int i])) t3 (swW ns a) i := ⟨ls, upd_same, s10 _ _ (s59 _ _ els5)⟩
    have o0 := o0.same s10
    have o1 := o1.same s10
    have o2 := o2.same s10
    have sA := s59.trans s10
    generalize L2.upd H9 t3 _ = HA at *
    clear s9 s8 s7 s6 s10 s57 s59
    refine ⟨(by show 4 ≤ sizeLine; decide), fun lt nlt => ?_⟩
    have s11 := Same.new (o := .lst [.ref t0, .ref t1, .ref t2, .ref t3]) nlt
    have elt := upd_same (H := HA) (a := lt) (o := .lst [.ref t0, .ref t1, .ref t2, .ref t3])
    have o0 := o0.same s11
    have o1 := o1.same s11
    have o2 := o2.same s11
    have o3 := o3.same s11
    have sB := sA.trans s11
    generalize L2.upd HA lt _ = HB at *
    have hlB := sB _ _ hl5
    refine ⟨_, rfl, .inl ⟨rfl, _, SqL.of elt⟩, ?_⟩
    refine ⟨_, rfl, (by show 1 ≤ sizeLine; decide), fun pz npz => ?_⟩
    have s12 := Same.new (o := .lst [.str ("zz zz" : Str)]) npz
    have epz : (L2.upd HB pz (.lst [.str ("zz zz" : Str)])) pz = some (.lst ([("zz zz" : Str)].map V.str)) := upd_same
    have elt := s12 _ _ elt
    generalize L2.upd HB pz _ = HC at *
    refine ⟨ln, pz, _, _, rfl, rfl, s12 _ _ hlB, epz, (by rw [List.length_map, List.length_map]; exact Nat.le_trans (show ns.length + 1 ≤ 100 by omega) (by decide)), fun pc npc => ?_⟩
    rw [← List.map_append]
    have s13 := Same.new (o := .lst ((ns ++ [("zz zz" : Str)]).map V.str)) npc
    have epc := upd_same (H := HC) (a := pc) (o := .lst ((ns ++ [("zz zz" : Str)]).map V.str))
    have elt := s13 _ _ elt
    generalize L2.upd HC pc _ = HD at *
    dsimp only [tPart, tNoPart, tC]
    refine ⟨_, rfl, _, rfl, ?_⟩
    refine ⟨pc, _, rfl, SqL.of epc, fun p6 np6 => ?_⟩
    rw [cut_last _ ns.length (by rw [List.length_append, List.length_singleton]; omega) (by rw [List.length_append]; rfl)]
    have s14 := Same.new (o := .lst (((ns ++ [("zz zz" : Str)]).drop (ns.length + 1 - 60)).map V.str)) np6
    have ep6 := upd_same (H := HD) (a := p6) (o := .lst (((ns ++ [("zz zz" : Str)]).drop (ns.length + 1 - 60)).map V.str))
    have elt := s14 _ _ elt
    generalize L2.upd HD p6 _ = HE at *
    refine ⟨_, rfl, (by show 2 ≤ sizeLine; decide), fun t4 n4 => ?_⟩
    have s15 := Same.new (o := .tup [.ref p6, .int i]) n4
    have o4 : Op61 (L2.upd HE t4 (.tup [.ref p6, .int i])) t4 ((ns ++ [("zz zz" : Str)]).drop (ns.length + 1 - 60)) i := ⟨p6, upd_same, s15 _ _ ep6⟩
    have elt := s15 _ _ elt
    have sBF := ((s12.trans s13).trans s14).trans s15
    have o0 := o0.same sBF
    have o1 := o1.same sBF
    have o2 := o2.same sBF
    have o3 := o3.same sBF
    generalize L2.upd HE t4 _ = HF at *
    have hlF := sBF _ _ hlB
    refine ⟨lt, _, _, rfl, rfl, elt, (by show 4 < sizeLine; decide), ?_⟩
    have o0 := o0.put (o := .lst [.ref t0, .ref t1, .ref t2, .ref t3, .ref t4]) elt
    have o1 := o1.put (o := .lst [.ref t0, .ref t1, .ref t2, .ref t3, .ref t4]) elt
    have o2 := o2.put (o := .lst [.ref t0, .ref t1, .ref t2, .ref t3, .ref t4]) elt
    have o3 := o3.put (o := .lst [.ref t0, .ref t1, .ref t2, .ref t3, .ref t4]) elt
    have o4 := o4.put (o := .lst [.ref t0, .ref t1, .ref t2, .ref t3, .ref t4]) elt
    have hltA : HA lt = none := nlt
    have bG : But l H (L2.upd HF lt (.lst [.ref t0, .ref t1, .ref t2, .ref t3, .ref t4])) := fun c o h1 h2 => by
      have e1 := sA _ _ (b5 c o h1 h2)
      rw [upd_ne (ne_of_none e1 nlt)]
      exact sBF _ _ (s11 _ _ e1)
    have hlG : (L2.upd HF lt (.lst [.ref t0, .ref t1, .ref t2, .ref t3, .ref t4])) ln = some (.lst (ns.map V.str)) := by
      rw [upd_ne (ne_of_none (sA _ _ hl5) nlt)]
      exact hlF
    have eltG := upd_same (H := HF) (a := lt) (o := .lst [.ref t0, .ref t1, .ref t2, .ref t3, .ref t4])
    change (fun HC : Hp => _) (L2.upd HF lt (.lst [.ref t0, .ref t1, .ref t2, .ref t3, .ref t4]))
    generalize L2.upd HF lt (.lst [.ref t0, .ref t1, .ref t2, .ref t3, .ref t4]) = HG at *
    clear s12 s13 s14 s15 sBF epz epc ep6 hlF
    refine ⟨_, rfl, _, rfl, ln, _, rfl, .inl (SqL.of hlG), fun l7 nl7 => ?_⟩
    have s16 := Same.new (o := .lst (ns.map V.str)) nl7
    have el7 := upd_same (H := HG) (a := l7) (o := .lst (ns.map V.str))
    have hlH := s16 _ _ hlG
    generalize L2.upd HG l7 _ = HH at *
    refine ⟨_, rfl, _, rfl, ln, _, rfl, .inl (SqL.of hlH), ?_⟩
    rw [List.length_map]
    refine ⟨_, rfl, _, _, rfl, rfl, _, _, rfl, rfl, .inl ⟨by omega, by omega⟩, _, _, rfl, rfl, (by show 2 ≤ sizeLine; decide), fun t5 n5 => ?_⟩
    have s17 := Same.new (o := .tup [.ref l7, .int (i + (ns.length : Int) * ((B : Int) - 3))]) n5
    have o5 : Op61 (L2.upd HH t5 (.tup [.ref l7, .int (i + (ns.length : Int) * ((B : Int) - 3))])) t5 ns (i + (ns.length : Int) * ((B : Int) - 3)) := ⟨l7, upd_same, s17 _ _ el7⟩
    generalize L2.upd HH t5 _ = HI at *
    have hlI := s17 _ _ hlH
    dsimp only [tPart, tNoPart, tC]
    refine ⟨_, rfl, _, rfl, _, _, rfl, rfl, _, rfl, ?_⟩
    refine ⟨ln, _, rfl, SqL.of hlI, fun l8 nl8 => ?_⟩
    rw [show (a : Int) + 1 = ((a + 1 : Nat) : Int) by omega, cut_lo]
    have s18 := Same.new (o := .lst ((ns.take (a + 1)).map V.str)) nl8
    have el8 := upd_same (H := HI) (a := l8) (o := .lst ((ns.take (a + 1)).map V.str))
    generalize L2.upd HI l8 _ = HJ at *
    refine ⟨_, rfl, (by show 2 ≤ sizeLine; decide), fun t6 n6 => ?_⟩
    have s19 := Same.new (o := .tup [.ref l8, .int i]) n6
    have o6 : Op61 (L2.upd HJ t6 (.tup [.ref l8, .int i])) t6 (ns.take (a + 1)) i := ⟨l8, upd_same, s19 _ _ el8⟩
    generalize L2.upd HJ t6 _ = HK at *
    refine ⟨(by show 2 ≤ sizeLine; decide), fun l9 nl9 => ?_⟩
    have s20 := Same.new (o := .lst [.ref t5, .ref t6]) nl9
    have el9 := upd_same (H := HK) (a := l9) (o := .lst [.ref t5, .ref t6])
    generalize L2.upd HK l9 _ = HL at *
    have sGL := ((s16.trans s17).trans (s18.trans s19)).trans s20
    refine ⟨lt, l9, _, _, rfl, rfl, sGL _ _ eltG, el9, (by show 7 ≤ sizeLine; decide), fun lA nlA => ?_⟩
    have s21 := Same.new (o := .lst ([.ref t0, .ref t1, .ref t2, .ref t3, .ref t4] ++ [.ref t5, .ref t6])) nlA
    have elA := upd_same (H := HL) (a := lA) (o := .lst ([.ref t0, .ref t1, .ref t2, .ref t3, .ref t4] ++ [.ref t5, .ref t6]))
    generalize L2.upd HL lA _ = HM at *
    have sGM := sGL.trans s21
    have bM := bG.trans (But.same sGM)
    have o5 := o5.same ((s18.trans s19).trans (s20.trans s21))
    have o6 := o6.same (s20.trans s21)
    have zB : Sz 99 (B : Int) := Nat.lt_of_lt_of_le (show (B : Int).natAbs < 2 ^ 8 by omega) (Nat.pow_le_pow_right (by decide) (by decide))
    have hok : PyData.strOk ("zz zz" : Str) = true := by decide +kernel
    obtain ⟨x, hx, t, os, st, rfl, op, nt, zs⟩ := pick (P := fun x => ∃ t os st, x = V.ref t ∧ Op61 HM t os st ∧ NmT os ∧ Sz 100 st) (xs := [V.ref t0, V.ref t1, V.ref t2, V.ref t3, V.ref t4, V.ref t5, V.ref t6]) (md0 v (j := 7)) (md1 v (j := 7)) (by
      intro x hx
      simp only [List.mem_cons, List.not_mem_nil, or_false] at hx
      have z1 : Sz 100 i := zi.mono (by decide)
      have z2 : Sz 100 (i + (B : Int)) := (zi.mono (by decide : 64 ≤ 99)).add zB (by decide)
      have z3 : Sz 100 (i + (ns.length : Int) * ((B : Int) - 3)) := by
        refine (zi.mono (by decide : 64 ≤ 99)).add ?_ (by decide)
        refine (Sz.mul (n := 6) (m := 9) ?_ ?_).mono (by decide)
        · show (ns.length : Int).natAbs < 2 ^ 6
          omega
        · show ((B : Int) - 3).natAbs < 2 ^ 9
          omega
      rcases hx with rfl | rfl | rfl | rfl | rfl | rfl | rfl
      · exact ⟨_, _, _, rfl, o0.same sGM, g.fn _, z2⟩
      · exact ⟨_, _, _, rfl, o1.same sGM, g.fn _, z1⟩
      · exact ⟨_, _, _, rfl, o2.same sGM, g, z2⟩
      · exact ⟨_, _, _, rfl, o3.same sGM, g.sw aN, z1⟩
      · exact ⟨_, _, _, rfl, o4.same sGM, g.last zz l60 hok, z1⟩
      · exact ⟨_, _, _, rfl, o5, g, z3⟩
      · exact ⟨_, _, _, rfl, o6, g.tk a, z1⟩)
    refine ⟨_, rfl, _, rfl, _, _, rfl, rfl, md, lA, _, _, _, rfl, rfl, SqL.of elA, hx, ?_⟩
    exact q t os st HM bM op nt zs
end
/-! ### whole numbers told -/
def spWhole : Sp := fun vs H Q _ => ∃ i : Int, vs = [.int i] ∧ Q (.bl true) H
section
variable {P : Program} {w : World} {K : PySem.W.Frag} {mg : Str → Option Value} {base : Heap}
theorem ok_lwhole (D : Df K mg "_law_whole" s_l_whole []) (g_isinstance : mg "isinstance" = none) (g_int : mg "int" = none) (g_bool : mg "bool" = none) : Ca P w K mg base CX0 1 "_law_whole" s_l_whole [] ["_law_told"] spWhole := by
  refine ca0 (k := 0) D c_l_whole (fun vs H Q E h => ?_) fun f cdv A outer s H vs Q E hr h => ?_
  · obtain ⟨i, rfl, _⟩ := h
    rfl
  · obtain ⟨i, rfl, q⟩ := h
    refine ⟨_, (pss_one (ps_ret (pe_and (pe_callB call_isi rfl g_isinstance (by decide +kernel) (pa_cons (pv 0) (pa_cons (pe_bltn (v := .ty "int") rfl g_int (by decide +kernel) rfl) pa_nil))) (pe_one (pe_not (pe_callB call_isi rfl g_isinstance (by decide +kernel) (pa_cons (pv 0) (pa_cons (pe_bltn (v := .ty "bool") rfl g_bool (by decide +kernel) rfl) pa_nil)))))))), ?_⟩
    refine ⟨_, rfl, _, _, _, _, _, rfl, .ty "int", .base (.int i), kit_ty (r := true) (by decide +kernel), _, rfl, iteT ?_⟩
    refine ⟨_, rfl, _, _, _, _, _, rfl, .ty "bool", .base (.int i), kit_ty (r := false) (by decide +kernel), _, rfl, ?_⟩
    exact q
end
/-! ### the wheel's fields and texts, its days -/
theorem kb_name_on : Kbm "name_on" "Wheel.name_on" s_Wheel_name_on 1 ["day"] ["self", "day"] g1 := ⟨fun _ _ _ _ _ _ us ws hu hw => match us, hu, ws, hw with | [_], _, [_], _ => rfl, g1_rel⟩
def gSw {α : Type} : List α → List α → List α := fun us ws => us ++ (match ws with | [a, b] => [b, a] | _ => [])
theorem gSw_rel {n m : Nat} {vs zs : List V} {us ws : List Value} (_ : vs.length = n) (_ : zs.length = m) (h : Vals vs us) (k : Vals zs ws) : Vals (gSw vs zs) (gSw us ws) := by
  refine h.append ?_
  cases k with
  | nil => exact .nil
  | cons a k => cases k with
    | nil => exact .nil
    | cons b k => cases k with
      | nil => exact .cons b (.cons a .nil)
      | cons c k => exact .nil
theorem kb_next_named : Kbm "next_named" "Wheel.next_named" s_Wheel_next_named 1 ["name", "day"] ["self", "day", "name"] gSw := ⟨fun _ _ _ _ _ _ us ws hu hw => match us, hu, ws, hw with | [_], _, [_, _], _ => rfl, gSw_rel⟩
def spDr61 (C : Addr) : Sp := fun vs H Q _ => ∃ (l p ln : Addr) (n : Nat) (ns : List Str) (f : Int), vs = [.ref l, .ref p, .ref ln, .int f] ∧ Dr H l n ∧ n ≤ 1000 ∧ Wf C H p (ns, f) ∧ H ln = some (.lst (ns.map V.str)) ∧ ln ≠ l ∧ NmT ns ∧ Sz 100 f ∧ ∀ H', But l H H' → Dr H' l (n + 10) → Q (.bl true) H'
def spFi61 (C : Addr) : Sp := fun vs H Q _ => ∃ (p ln : Addr) (ns : List Str) (f : Int), vs = [.ref p, .ref ln, .int f] ∧ Wf C H p (ns, f) ∧ H ln = some (.lst (ns.map V.str)) ∧ NmT ns ∧ Sz 200 f ∧ ∀ H', Same H H' → Q (.bl true) H'
theorem wf_rd {C : Addr} {H : Hp} {p : Addr} {x : Wd} {Q : VK} (hw : Wf C H p x) (g : NmT x.1) (k : ∀ H', Same H H' → Q (.str (Txt.join (" " : Str) (fnW x))) H') : rSI C (spWfS C) E0 [.ref p] H Q := by
  unfold rSI
  obtain ⟨dx, t, e, _⟩ := id hw
  exact .inr ⟨p, dx, _, rfl, e, p, x, rfl, hw, g, fun H' s => ⟨_, rfl, k H' s⟩⟩
theorem si_int {C : Addr} {sp : Sp} {E : XK} {H : Hp} {Q : VK} {i : Int} (h : i.natAbs.log2 < 1920) (q : Q (.str (toString i)) H) : rSI C sp E [.int i] H Q := by
  unfold rSI
  exact .inl ⟨i, rfl, h, q⟩
theorem whR_txt (ns : List Str) (i : Int) : whR (ns, i) = (((("Wheel(" : Str) ++ shS ns) ++ (", first=" : Str)) ++ Str.ofString (toString i)) ++ (")" : Str) := by
  unfold whR
  rw [numT_str]
  have e : Str.empty ++ ("Wheel(" : Str) = ("Wheel(" : Str) := by decide +kernel
  rw [e]
theorem log_sz {i : Int} {n : Nat} (h : Sz n i) (hn : n ≤ 1900) : i.natAbs.log2 < 1920 := by
  by_cases h0 : i.natAbs = 0
  · rw [h0]; decide
  · have := (Nat.log2_lt h0).mpr h
    omega
section
variable {P : Program} {w : World} {K : PySem.W.Frag} {mg : Str → Option Value} {base : Heap} {C : Addr}
theorem ok_fi61 (D : Df K mg "_law_fields_right" s_l_fields_right []) (W : WhT K C) (f_Wheel_len : Cm P w K mg base CX0 1 C "__len__" "Wheel.__len__" s_Wheel_len ["self"] (spWn C)) (f_Wheel_str : Cm P w K mg base CX0 2 C "__str__" "Wheel.__str__" s_Wheel_str ["self"] (spWfS C)) (f_Wheel_repr : CmG P w K mg base CX0 2 C "__repr__" "Wheel.__repr__" s_Wheel_repr ["self"] (spWfR C))
    (f_l_from_nought : Ca P w K mg base CX0 2 "_law_from_nought" s_l_from_nought [] ["_law_a_names", "_law_a_first"] spFn) (g_len : mg "len" = none) (g_tuple : mg "tuple" = none) (g_str : mg "str" = none) (g_repr : mg "repr" = none) : CaG P w K mg base CX0 5 "_law_fields_right" s_l_fields_right [] ["_law_wheel", "_law_a_names", "_law_a_first"] (spFi61 C) := by
  refine cag0 (k := 4) D c_l_fields_right (fun vs H Q E h => ?_) fun f cdv A outer s H vs Q E gd hr h => ?_
  · obtain ⟨p, ln, ns, i, rfl, _⟩ := h
    rfl
  · obtain ⟨p, ln, ns, i, rfl, hw, hl, g, zi, q⟩ := h
    obtain ⟨dx, t, hp, ht⟩ := id hw
    have gl := g.g.len
    refine ⟨_, (pss_cons (ps_if (PW.pt (pw_or (pt_cmpR (op_neD hr.units) (pe_fld (pv 0) rfl) (pe_callTy call_tuple_of rfl g_tuple (by decide +kernel) (pa_cons (pv 1) pa_nil)) (nomark _)) (pw_or (pt_cmpR op_ne (pe_fld (pv 0) rfl) (pv 2) (nomark _)) (pw_or1 (pt_cmpR op_ne (pe_callB (call_lenC f_Wheel_len b_Wheel_len (hr.mono (by decide)) pass0) rfl g_len (by decide +kernel) (pa_cons (pv 0) pa_nil)) (pe_callB call_len_seq rfl g_len (by decide +kernel) (pa_cons (pv 1) pa_nil)) (nomark _)))))) (pss_one (ps_ret pe_bl)) pss_nil)
      (pss_cons (ps_if (pt_cmpR op_ne (pe_callTy (call_str_IS f_Wheel_str b_Wheel_str (hr.mono (by decide)) pass0) rfl g_str (by decide +kernel) (pa_cons (pv 0) pa_nil)) (pe_m1 PySem.F.slot_str_join PySem.F.type_str_join mt_join pe_str (pe_ca f_l_from_nought b_l_from_nought hr (by decide) pass0 rfl (pa_cons (pv 1) (pa_cons (pv 2) pa_nil)))) (nomark _)) (pss_one (ps_ret pe_bl)) pss_nil)
      (pss_one (ps_ret (pe_cmpR op_eq (pe_callB (call_reprG f_Wheel_repr b_Wheel_repr gd (hr.mono (by decide))) rfl g_repr (by decide +kernel) (pa_cons (pv 0) pa_nil)) (pe_op op_add_str (pe_op op_add_str (pe_op op_add_str (pe_op op_add_str pe_str (pe_callB (call_reprL gd (hr.mono (by decide))) rfl g_repr (by decide +kernel) (pa_cons (pv 1) pa_nil))) pe_str) (pe_callTy (call_str_IS f_Wheel_str b_Wheel_str (hr.mono (by decide)) pass0) rfl g_str (by decide +kernel) (pa_cons (pv 2) pa_nil))) pe_str) (nomark _)))))), ?_⟩
    refine ⟨_, rfl, p, C, dx, _, _, rfl, hp, W.cl, W.n1, wf_names _ _, _, rfl, ln, _, rfl, .inl ⟨SqL.of hl, fun tt ntt => ?_⟩⟩
    have s1 := Same.new (o := .tup (ns.map V.str)) ntt
    refine ⟨_, _, dlT_dp (ht.same s1).sq, dlT_dp (SqT.of upd_same), dlT_ok g.ok, dlT_ok g.ok, _, rfl, ?_⟩
    rw [dlT_iff, decide_eq_true rfl]
    refine iteF ?_
    have hp1 := s1 _ _ hp
    have hw1 := hw.same s1
    have hl1 := s1 _ _ hl
    generalize L2.upd H tt _ = H1 at *
    refine ⟨_, rfl, p, C, dx, _, _, rfl, hp1, W.cl, W.n2, wf_first _ _, _, rfl, rfl, _, rfl, no' (by simp) ?_⟩
    refine ⟨_, rfl, p, dx, _, rfl, hp1, p, (ns, i), rfl, hw1, g.g, _, rfl, lt60' gl, ?_⟩
    refine ⟨_, rfl, ln, _, rfl, .inl (SqL.of hl1), ?_⟩
    rw [List.length_map]
    refine ⟨rfl, _, rfl, no' (by simp) ?_⟩
    have jl : ∀ z : List Str, (∀ x ∈ z, x.length ≤ 200) → z.length ≤ 62 → (z.map (·.length)).sum + z.length * ((" " : Str)).length ≤ 16777216 := fun z h1 h3 => by
      have h := sumL (l := z.map (·.length)) (b := 200) (by
        intro k h
        obtain ⟨y, hy, rfl⟩ := List.mem_map.mp h
        exact h1 y hy)
      have h2 : ((" " : Str)).length = 1 := by decide +kernel
      rw [List.length_map] at h
      rw [h2]
      have : z.length * 200 ≤ 62 * 200 := Nat.mul_le_mul_right _ h3
      omega
    refine ⟨_, rfl, wf_rd hw1 g fun H2 s2 => ?_⟩
    have hl2 := s2 _ _ hl1
    refine ⟨⟨_, rfl⟩, _, rfl, _, rfl, ln, ns, i, rfl, hl2, g.g, fun t3 H3 s3 e3 => ?_⟩
    refine ⟨_, t3, fnW (ns, i), rfl, rfl, .inl (SqL.of e3), jl _ (fun x hx => g.ln x (fnW_mem (x := (ns, i)) g.g x hx)) (by rw [fnW_len]; exact gl), rfl, _, rfl, no' (by simp) ?_⟩
    have s13 := s2.trans s3
    have l1 := shS_len g
    have l2 : (Str.ofString (toString i)).length ≤ 201 := by rw [numT_str]; exact numT_len (by decide) zi
    have k0 : ("Wheel(" : Str).length ≤ 6 := lit_len
    have kf : (", first=" : Str).length ≤ 8 := lit_len
    have kp : (")" : Str).length ≤ 1 := lit_len
    have a1 := ap_len k0 l1
    have a2 := ap_len a1 kf
    have a3 := ap_len a2 l2
    have bd : ∀ {a b : Nat}, a + b ≤ 500000 → a + b ≤ sizeLine := fun h => Nat.le_trans h (by decide)
    refine ⟨_, rfl, p, dx, _, rfl, s13 _ _ hp1, p, (ns, i), rfl, hw1.same s13, g, zi, fun H4 s4 => ⟨_, rfl, ?_⟩⟩
    have hl4 := s4 _ _ (s3 _ _ hl2)
    refine ⟨_, rfl, ln, ns, rfl, hl4, sl_lenW l1, _, _, rfl, rfl, bd (by omega), ?_⟩
    refine ⟨_, _, rfl, rfl, bd (by omega), ?_⟩
    refine ⟨_, rfl, si_int (log_sz zi (by decide)) ?_⟩
    refine ⟨_, _, rfl, rfl, bd (by omega), _, _, rfl, rfl, bd (by rw [str_app_len, str_app_len, str_app_len]; rw [str_app_len, str_app_len] at a3; omega), ?_⟩
    refine ⟨rfl, ?_⟩
    rw [whR_txt, decide_eq_true rfl]
    exact q H4 (s1.trans (s13.trans s4))
set_option maxHeartbeats 8000000 in
theorem ok_dr61 (D : Df K mg "_law_days_right" s_l_days_right []) (f_l_next : Ca P w K mg base CX0 1 "_law_next" s_l_next [] ["_law_draws_here"] spNext) (g_len : mg "len" = none) (f_l_day : Ca P w K mg base CX0 2 "_law_day" s_l_day [] ["_law_draws_here"] spDay) (f_name_on : Cm P w K mg base CX0 1 C "name_on" "Wheel.name_on" s_Wheel_name_on ["self", "day"] (spNo C)) (f_next_named : Cm P w K mg base CX0 2 C "next_named" "Wheel.next_named" s_Wheel_next_named ["self", "day", "name"] (spNxG C))
    (f_l_on : Ca P w K mg base CX0 1 "_law_on" s_l_on [] ["_law_a_names", "_law_a_first", "_law_a_day"] spOn) (f_l_next_day : Ca P w K mg base CX0 2 "_law_next_day" s_l_next_day [] ["_law_a_names", "_law_a_first", "_law_a_day", "_law_a_name"] spNd61) (f_l_whole : Ca P w K mg base CX0 1 "_law_whole" s_l_whole [] ["_law_told"] spWhole) :
    Ca P w K mg base CX0 4 "_law_days_right" s_l_days_right [] ["_law_draws_here", "_law_wheel", "_law_a_names", "_law_a_first"] (spDr61 C) := by
  refine ca0 (k := 3) D c_l_days_right (fun vs H Q E h => ?_) fun f cdv A outer s H vs Q E hr h => ?_
  · obtain ⟨l, p, ln, n, ns, i, rfl, _⟩ := h
    rfl
  · obtain ⟨l, p, ln, n, ns, i, rfl, d, hn, hw, hl, lnl, g, zi, q⟩ := h
    have gl := g.g.len
    have l0 := g.g.pos
    refine ⟨_, (pss_cons (ps_set (i := 4) c_l_days_right.nd rfl (.inl rfl) (pe_lst (pa_cons pe_int (pa_cons pe_int (pa_cons (pe_un un_neg pe_int) (pa_cons (pv 3) (pa_cons (pe_op op_sub (pv 3) pe_int) (pa_cons (pe_op op_add (pv 3) (pe_callB call_len_seq rfl g_len (by decide +kernel) (pa_cons (pv 2) pa_nil))) (pa_cons (pe_ca f_l_day b_l_day hr (by decide) pass0 rfl (pa_cons (pv 0) pa_nil)) (pa_cons (pe_ca f_l_day b_l_day hr (by decide) pass0 rfl (pa_cons (pv 0) pa_nil)) pa_nil))))))))))
      (pss_cons (ps_for PassesOwn.never rfl (pi_list (pv 4)) (pg_name (i := 5) c_l_days_right.nd rfl (.inl rfl)) (pss_cons (ps_if (pt_cmpR (op_neD hr.units) (pe_lst (pa_cons (pe_cm f_name_on b_Wheel_name_on hr (by decide) pass0 (pv 1) (pa_cons (pv 5) pa_nil)) (pa_cons (pe_cmK f_name_on kb_name_on hr (by decide) pass0 (pv 1) (pk_cons (pv 5) pk_nil)) pa_nil))) (pe_op op_rep (pe_lst (pa_cons (pe_ca f_l_on b_l_on hr (by decide) pass0 rfl (pa_cons (pv 2) (pa_cons (pv 3) (pa_cons (pv 5) pa_nil)))) pa_nil)) pe_int) (nomark _)) (pss_one (ps_ret pe_bl)) pss_nil)
      (pss_cons (ps_set (i := 6) c_l_days_right.nd rfl (.inl rfl) (pe_ix ix_list (pv 2) (pe_op op_mod (pe_ca f_l_next b_l_next hr (by decide) pass0 rfl (pa_cons (pv 0) pa_nil)) (pe_callB call_len_seq rfl g_len (by decide +kernel) (pa_cons (pv 2) pa_nil))) (fun _ _ => rfl)))
      (pss_cons (ps_set (i := 7) c_l_days_right.nd rfl (.inl rfl) (pe_lst (pa_cons (pe_cm f_next_named b_Wheel_next_named hr (by decide) pass0 (pv 1) (pa_cons (pv 5) (pa_cons (pv 6) pa_nil))) (pa_cons (pe_cmK f_next_named kb_next_named hr (by decide) pass0 (pv 1) (pk_cons (pv 6) (pk_cons (pv 5) pk_nil))) pa_nil))))
      (pss_cons (ps_set (i := 8) c_l_days_right.nd rfl (.inl rfl) (pe_ca f_l_next_day b_l_next_day hr (by decide) pass0 rfl (pa_cons (pv 2) (pa_cons (pv 3) (pa_cons (pv 5) (pa_cons (pv 6) pa_nil))))))
      (pss_one (ps_if (PW.pt (pw_or (pt_not (pt_val (pe_ca f_l_whole b_l_whole hr (by decide) pass0 rfl (pa_cons (pe_ix ix_list (pv 7) pe_int (fun _ _ => rfl)) pa_nil)))) (pw_or1 (pt_cmpR (op_neD hr.units) (pv 7) (pe_lst (pa_cons (pv 8) (pa_cons (pv 8) pa_nil))) (nomark _))))) (pss_one (ps_ret pe_bl)) pss_nil)))))))
      (pss_one (ps_ret pe_bl)))), ?_⟩
    refine ⟨_, rfl, _, rfl, _, rfl, _, _, rfl, rfl, _, rfl, _, rfl, ln, _, rfl, .inl (SqL.of hl), _, _, rfl, rfl, ?_⟩
    rw [List.length_map]
    refine ⟨_, rfl, l, n, rfl, d, by omega, fun d1 H1 z1 b1 dr1 => ?_⟩
    refine ⟨_, rfl, l, _, rfl, dr1, by omega, fun d2 H2 z2 b2 dr2 => ?_⟩
    refine ⟨(by show 8 ≤ sizeLine; decide), fun ld nld => ?_⟩
    have b12 := b1.trans b2
    obtain ⟨ds, hds⟩ : ∃ ds : List Int, ds = [0, 1, -1, i, i - 1, i + (ns.length : Int), d1, d2] := ⟨_, rfl⟩
    have eds : [V.int 0, V.int 1, V.int (-1), V.int i, V.int (i - 1), V.int (i + (ns.length : Int)), V.int d1, V.int d2] = ds.map V.int := by rw [hds]; rfl
    have lds : ds.length = 8 := by rw [hds]; rfl
    have b3 := b12.upd (o := .lst (ds.map V.int)) nld
    have dr3 := dr2.new (o := .lst (ds.map V.int)) nld
    have eld := upd_same (H := H2) (a := ld) (o := .lst (ds.map V.int))
    have ldl := ne_of_none' dr2 nld
    change (fun HC : Hp => _) (L2.upd H2 ld (.lst [V.int 0, V.int 1, V.int (-1), V.int i, V.int (i - 1), V.int (i + (ns.length : Int)), V.int d1, V.int d2]))
    rw [eds]
    generalize L2.upd H2 ld (.lst (ds.map V.int)) = H3 at *
    refine ⟨_, rfl, ld, rfl, ⟨_, SqL.of eld⟩, for_list (K := K) (a := ld) (xs := ds.map V.int) (fun j σ Hx => ∃ v5 v6 v7 v8 : Option V, σ = [some (.ref l), some (.ref p), some (.ref ln), some (.int i), some (.ref ld), v5, v6, v7, v8] ∧ But l H Hx ∧ Dr Hx l (n + 2 + j) ∧ Hx ld = some (.lst (ds.map V.int))) ⟨_, _, _, _, rfl, b3, dr3, eld⟩ (fun j σ Hx _ ⟨_, _, _, _, _, _, _, e⟩ => SqL.of e) ?_ ?_⟩
    · rintro j v σ Hx hv ⟨v5, v6, v7, v8, rfl, bx, dx', ex⟩
      rw [List.getElem?_map] at hv
      cases hdj : ds[j]? with
      | none => rw [hdj] at hv; cases hv
      | some a =>
        rw [hdj] at hv
        cases hv
        have hj8 : j < 8 := by rw [← lds]; exact (List.getElem?_eq_some_iff.mp hdj).1
        have wx := hw.but d bx
        obtain ⟨dx, t, ep, _⟩ := id wx
        have lx := bx _ _ lnl hl
        have nf1 : (wfs t (ns, i).2).lookup ("name_on" : Str) = none := wf_no _ _ (by decide +kernel) (by decide +kernel)
        have nf2 : (wfs t (ns, i).2).lookup ("next_named" : Str) = none := wf_no _ _ (by decide +kernel) (by decide +kernel)
        refine ⟨_, rfl, p, dx, _, rfl, ep, nf1, _, rfl, p, a, (ns, i), rfl, wx, g.g, ?_⟩
        refine ⟨_, rfl, p, dx, _, rfl, ep, nf1, _, rfl, rfl, p, a, (ns, i), rfl, wx, g.g, (by show 2 ≤ sizeLine; decide), fun a1 na1 => ?_⟩
        have s1 := Same.new (o := .lst [.str (nmA (ns, i) a), .str (nmA (ns, i) a)]) na1
        have ea1 := upd_same (H := Hx) (a := a1) (o := .lst [.str (nmA (ns, i) a), .str (nmA (ns, i) a)])
        generalize L2.upd Hx a1 _ = HA at *
        refine ⟨_, rfl, _, rfl, _, rfl, ln, ns, i, a, rfl, s1 _ _ lx, g.g, (by show 1 ≤ sizeLine; decide), fun a2 na2 => ?_⟩
        have s2 := Same.new (o := .lst [.str (nmA (ns, i) a)]) na2
        have ea2 := upd_same (H := HA) (a := a2) (o := .lst [.str (nmA (ns, i) a)])
        generalize L2.upd HA a2 _ = HB at *
        refine ⟨a2, 2, _, rfl, rfl, ea2, by decide, by decide, (by show 1 * 2 ≤ sizeLine; decide), fun a3 na3 => ?_⟩
        have s3 := Same.new (o := .lst [.str (nmA (ns, i) a), .str (nmA (ns, i) a)]) na3
        have hs : ∀ x ∈ [nmA (ns, i) a, nmA (ns, i) a], PyData.strOk x = true := fun x hx => by
          simp only [List.mem_cons, List.not_mem_nil, or_false, or_self] at hx
          rw [hx]
          exact g.ok _ (nmA_mem (x := (ns, i)) g.g a)
        refine ⟨_, _, dlS_dp (ns := [nmA (ns, i) a, nmA (ns, i) a]) (s3 _ _ (s2 _ _ ea1)), dlS_dp (ns := [nmA (ns, i) a, nmA (ns, i) a]) upd_same, dlS_ok hs, dlS_ok hs, _, rfl, ?_⟩
        rw [dlS_iff, decide_eq_true rfl]
        refine iteF ?_
        have s13 := (s1.trans s2).trans s3
        change (fun HC : Hp => _) (L2.upd HB a3 (.lst [.str (nmA (ns, i) a), .str (nmA (ns, i) a)]))
        generalize L2.upd HB a3 (.lst [.str (nmA (ns, i) a), .str (nmA (ns, i) a)]) = HC at *
        have drC := dx'.same s13 (Nat.le_refl _)
        refine ⟨_, rfl, _, rfl, l, _, rfl, drC, by omega, fun u HD u0 u1 bD drD => ?_⟩
        have lD := bD _ _ lnl (s13 _ _ lx)
        have y0 := Int.emod_nonneg u (show (ns.length : Int) ≠ 0 by omega)
        have y1 := Int.emod_lt_of_pos u (show (0 : Int) < (ns.length : Int) by omega)
        refine ⟨_, rfl, ln, _, rfl, .inl (SqL.of lD), _, _, rfl, rfl, (by rw [List.length_map]; omega), ?_⟩
        rw [List.length_map]
        refine ⟨ln, _, _, _, rfl, rfl, SqL.of lD, atN y0 y1, ?_⟩
        have hm : ns.getD (u % (ns.length : Int)).toNat Str.empty ∈ ns := by
          rw [List.getD_eq_getElem?_getD, List.getElem?_eq_getElem (by omega)]
          exact List.getElem_mem _
        generalize ns.getD (u % (ns.length : Int)).toNat Str.empty = nm at *
        have bx2 := bx.trans ((But.same s13).trans bD)
        have wD := hw.but d bx2
        obtain ⟨dxD, tD, epD, _⟩ := id wD
        have nf3 : (wfs tD (ns, i).2).lookup ("next_named" : Str) = none := wf_no _ _ (by decide +kernel) (by decide +kernel)
        refine ⟨_, rfl, p, dxD, _, rfl, epD, nf3, _, rfl, _, rfl, p, a, nm, (ns, i), rfl, wD, g.g, hm, ?_⟩
        refine ⟨_, rfl, p, dxD, _, rfl, epD, nf3, _, rfl, _, rfl, rfl, p, a, nm, (ns, i), rfl, wD, g.g, hm, (by show 2 ≤ sizeLine; decide), fun a4 na4 => ?_⟩
        have e0 : a + (dyA (ns, i) nm - a) % ((ns, i).1.length : Int) = a + (dyA (ns, i) nm - a) % (ns.length : Int) := rfl
        rw [e0]
        generalize hx : a + (dyA (ns, i) nm - a) % (ns.length : Int) = x at *
        have s4 := Same.new (o := .lst ([x, x].map V.int)) na4
        have ea4 : (L2.upd HD a4 (.lst ([x, x].map V.int))) a4 = some (.lst ([x, x].map V.int)) := upd_same
        have lE := s4 _ _ lD
        have drE := drD.same s4 (Nat.le_refl _)
        have bE := bx2.trans (But.same s4)
        have exE := s4 _ _ (bD _ _ ldl (s13 _ _ ex))
        change (fun HC : Hp => _) (L2.upd HD a4 (.lst ([x, x].map V.int)))
        generalize L2.upd HD a4 (.lst ([x, x].map V.int)) = HE at *
        refine ⟨_, rfl, _, rfl, _, rfl, _, rfl, ln, ns, i, a, nm, rfl, lE, g.g, hm, ?_⟩
        rw [hx]
        refine ⟨_, rfl, a4, _, _, _, rfl, rfl, SqL.of ea4, rfl, x, rfl, _, rfl, iteF ?_⟩
        refine ⟨_, rfl, _, rfl, _, rfl, (by show 2 ≤ sizeLine; decide), fun a5 na5 => ?_⟩
        have s5 := Same.new (o := .lst ([x, x].map V.int)) na5
        refine ⟨_, _, dp_ints (ns := [x, x]) (s5 _ _ ea4), dp_ints (ns := [x, x]) upd_same, sh_ints _, sh_ints _, _, rfl, ?_⟩
        refine no' (by rw [eqv_intL]; rfl) ?_
        exact ⟨_, _, _, _, rfl, bE.trans (But.same s5), (drE.same s5 (Nat.le_refl _)).mono (by omega), s5 _ _ exE⟩
    · rintro σ Hx ⟨v5, v6, v7, v8, rfl, bx, dx', ex⟩
      rw [List.length_map, lds] at dx'
      exact q Hx bx dx'
end
/-! ### the law -/
def spLaw (K : PySem.W.Frag) : Sp := fun vs H Q _ => ∃ (a : Addr) (ns : List Int), vs = [.ref a] ∧ SqL K H a (ns.map V.int) ∧ ns.length ≤ 63 ∧ ∀ H', Q (.bl true) H'
theorem cut_ints {ns : List Int} {lo hi : Option Int} {j : Nat} {x : V} (h : (cutV (ns.map V.int) lo hi ++ [V.int 0])[j]? = some x) : ∃ c : Int, x = .int c := by
  have hx : x ∈ cutV (ns.map V.int) lo hi ++ [V.int 0] := List.mem_of_getElem? h
  rcases List.mem_append.mp hx with hx | hx
  · have h1 := List.mem_of_mem_take hx
    have h2 := List.mem_of_mem_drop h1
    obtain ⟨c, _, e⟩ := List.mem_map.mp h2
    exact ⟨c, e.symm⟩
  · exact ⟨0, List.mem_singleton.mp hx⟩
theorem cut_len {ns : List Int} {lo hi : Option Int} (h : ns.length ≤ 63) : (cutV (ns.map V.int) lo hi).length + ([V.int 0] : List V).length ≤ sizeLine := by
  have h1 := cutV_length (ns.map V.int) lo hi
  rw [List.length_map] at h1
  have h2 : ([V.int 0] : List V).length = 1 := rfl
  exact Nat.le_trans (show _ ≤ 64 by omega) (by decide)
/-! ### wheels -/
theorem Wf.put {C l : Addr} {H : Hp} {p : Addr} {x : Wd} {xs ys : List V} (h : Wf C H p x) (e : H l = some (.lst xs)) : Wf C (L2.upd H l (.lst ys)) p x := by
  obtain ⟨dx, t, e1, o, e2, r⟩ := h
  exact ⟨dx, t, by rw [upd_ne (ne_of e1 e (by intro z; cases z))]; exact e1, o, by rw [upd_ne (ne_of e2 e (by intro z; cases z))]; exact e2, r⟩
theorem made_wz {C : Addr} {H : Hp} {R : Addr → Hp → Prop} {E : XK} {l : Addr} {i : Int} {ns : List Str} (hl : H l = some (.lst (ns.map V.str))) (g : NmG ns) (h : ∀ p H', Same H H' → Wf C H' p (ns, i) → R p H') :
    ∀ a dx, H a = none → H dx = none → dx ≠ a → spWzI C [.ref a, .ref l, .int i] (L2.upd (L2.upd H dx (.own a)) a (.ins C dx [])) (fun r H2 => r = .non ∧ R a H2) E := by
  intro a dx ha hd ne
  have s0 : Same H (L2.upd (L2.upd H dx (.own a)) a (.ins C dx [])) := Same.upd (Same.new hd) (by rw [upd_ne ne.symm]; exact ha)
  exact ⟨a, dx, l, i, ns, rfl, upd_same, s0 _ _ hl, g, fun H' b hw => ⟨rfl, h a H' (fun c w e => b c w (ne_of_none e ha) (s0 c w e)) hw⟩⟩
def gOd {α : Type} : List α → List α → List α → List α := fun us _ ws => us ++ ws
theorem gOd_rel {vs ds zs : List V} {us its ws : List Value} (h : Vals vs us) (_ : Vals ds its) (k : Vals zs ws) : Vals (gOd vs ds zs) (gOd us its ws) := h.append k
def gWn {α : Type} : List α → List α → List α → List α := fun us _ ws => us ++ (match ws with | [a, b] => [b, a] | _ => [])
theorem gWn_rel {vs ds zs : List V} {us its ws : List Value} (h : Vals vs us) (_ : Vals ds its) (k : Vals zs ws) : Vals (gWn vs ds zs) (gWn us its ws) := by
  refine h.append ?_
  cases k with
  | nil => exact .nil
  | cons a k => cases k with
    | nil => exact .nil
    | cons b k => cases k with
      | nil => exact .cons b (.cons a .nil)
      | cons c k => exact .nil
theorem kb_Wheel_1_first : Kd "Wheel.__init__" s_Wheel_init 1 2 ["first"] ["self", "names", "first"] gOd :=
  ⟨fun _ _ _ _ _ _ _ us its ws hu hi hw => match us, hu, its, hi, ws, hw with | [_, _], _, [_], _, [_], _ => ⟨_, rfl, rfl⟩, gOd_rel⟩
theorem kb_Wheel_0_first_names : Kd "Wheel.__init__" s_Wheel_init 1 1 ["first", "names"] ["self", "names", "first"] gWn :=
  ⟨fun _ _ _ _ _ _ _ us its ws hu hi hw => match us, hu, its, hi, ws, hw with | [_], _, [_], _, [_, _], _ => ⟨_, rfl, rfl⟩, gWn_rel⟩
theorem bd_Wheel1 : Bd1 "__init__" "Wheel.__init__" s_Wheel_init ["self", "names", "first"] 2 0 1 := fun _ _ _ _ _ _ _ us its hu hi => match us, hu, its, hi with | [_, _], _, [_], _ => ⟨_, rfl, rfl⟩
theorem bd_Wheel2 : Bd1 "__init__" "Wheel.__init__" s_Wheel_init ["self", "names", "first"] 3 1 1 := fun _ _ _ _ _ _ _ us its hu hi => match us, hu, its, hi with | [_, _, _], _, [_], _ => ⟨_, rfl, rfl⟩
theorem cmp_wf {K : PySem.W.Frag} {C : Addr} {H : Hp} {p r : Addr} {x x' : Wd} (wty : ∀ (H : Hp) (a dx : Addr) (fs : List (Str × V)), H a = some (.ins C dx fs) → TyX K H (.ref a) (.ref C)) {E : XK} {Q : VK} (h : Wf C H p x) (g : NmT x.1) (h' : Wf C H r x') (g' : NmT x'.1) (q : ∀ H', Same H H' → Q (.bl (decide (fnW x = fnW x'))) H') :
    ∃ (a dx : Addr) (fs : List (Str × V)) (t : Value), V.ref p = .ref a ∧ H a = some (.ins C dx fs) ∧ TyX K H (.ref r) t ∧ PySem.W.notFirst K C t = true ∧ spWfE K C [.ref a, .ref r] H Q E := by
  obtain ⟨dx, t, e, _⟩ := id h
  obtain ⟨dy, t', e', _⟩ := id h'
  exact ⟨p, dx, _, .ref C, rfl, e, wty _ _ _ _ e', nf_self, p, .ref r, x, rfl, h, g, .inl ⟨r, x', rfl, h', g', q⟩⟩
theorem cmp_no {K : PySem.W.Frag} {C : Addr} {H : Hp} {p : Addr} {z : V} {S : String} {x : Wd} (O : OwnC K C) {E : XK} {Q : VK} (h : Wf C H p x) (g : NmT x.1) (pl : Pl K H z S) (q : Q (.bl false) H) :
    ∃ (a dx : Addr) (fs : List (Str × V)) (t : Value), V.ref p = .ref a ∧ H a = some (.ins C dx fs) ∧ TyX K H z t ∧ PySem.W.notFirst K C t = true ∧ spWfE K C [.ref a, z] H Q E := by
  obtain ⟨dx, t, e, _⟩ := id h
  exact ⟨p, dx, _, .type S, rfl, e, pl.tyx, pl.first, p, z, x, rfl, h, g, .inr ⟨_, pl.tyx, O.kit pl, q⟩⟩
def spR61 : Sp := fun vs H Q _ => ∃ l : Addr, vs = [.ref l] ∧ Dr H l 0 ∧ ∀ H', But l H H' → Q (.bl true) H'
section
variable {P : Program} {w : World} {K : PySem.W.Frag} {mg : Str → Option Value} {base : Heap} {C : Addr}
set_option maxHeartbeats 16000000 in
theorem ok_lright61 (D : Df K mg "_law_right" s_l_right []) (wty : ∀ (H : Hp) (a dx : Addr) (fs : List (Str × V)), H a = some (.ins C dx fs) → TyX K H (.ref a) (.ref C)) (NT : NeT K C) (O : OwnC K C) (f_l_next : Ca P w K mg base CX0 1 "_law_next" s_l_next [] ["_law_draws_here"] spNext) (g_len : mg "len" = none) (g_list : mg "list" = none) (g_tuple : mg "tuple" = none) (g_str : mg "str" = none) (f_l_unlike : Ca P w K mg base CX0 2 "_law_unlike" s_l_unlike [] ["_law_draws_here", "_law_most"] spUnl)
    (f_l_far : Ca P w K mg base CX0 2 "_law_far" s_l_far [] ["_law_draws_here"] spFar) (f_Wheel : Ci P w K mg base CX0 3 "Wheel" C "Wheel.__init__" s_Wheel_init [.int 0] ["self", "names", "first"] (spWzI C)) (f_Wheel_str : Cm P w K mg base CX0 2 C "__str__" "Wheel.__str__" s_Wheel_str ["self"] (spWfS C)) (f_Wheel_eq : Cm P w K mg base CX0 2 C "__eq__" "Wheel.__eq__" s_Wheel_eq ["self", "other"] (spWfE K C))
    (f_l_fields_right : CaG P w K mg base CX0 5 "_law_fields_right" s_l_fields_right [] ["_law_wheel", "_law_a_names", "_law_a_first"] (spFi61 C)) (f_l_days_right : Ca P w K mg base CX0 4 "_law_days_right" s_l_days_right [] ["_law_draws_here", "_law_wheel", "_law_a_names", "_law_a_first"] (spDr61 C)) (f_l_other : Ca P w K mg base CX0 2 "_law_other" s_l_other [] ["_law_draws_here", "_law_a_names", "_law_a_first"] spOt) (f_l_from_nought : Ca P w K mg base CX0 2 "_law_from_nought" s_l_from_nought [] ["_law_a_names", "_law_a_first"] spFn) :
    CaG P w K mg base CX0 7 "_law_right" s_l_right [] ["_law_draws_here"] spR61 := by
  refine cag0 (k := 6) D c_l_right (fun vs H Q E h => ?_) fun f cdv A outer s H vs Q E gd hr h => ?_
  · obtain ⟨l, rfl, _⟩ := h
    rfl
  · obtain ⟨l, rfl, d, q⟩ := h
    refine ⟨_, (pss_cons (ps_set (i := 1) c_l_right.nd rfl (.inl rfl) (pe_ca f_l_unlike b_l_unlike hr (by decide) pass0 rfl (pa_cons (pv 0) (pa_cons pe_int pa_nil))))
      (pss_cons (ps_set (i := 2) c_l_right.nd rfl (.inl rfl) (pe_ca f_l_far b_l_far hr (by decide) pass0 rfl (pa_cons (pv 0) pa_nil)))
      (pss_cons (ps_set (i := 3) c_l_right.nd rfl (.inl rfl) (pe_callTy call_list_of rfl g_list (by decide +kernel) (pa_cons (pv 1) pa_nil)))
      (pss_cons (ps_set (i := 4) c_l_right.nd rfl (.inl rfl) (pe_ix ix_list (pe_lst (pa_cons (pe_ci f_Wheel bd_Wheel2 (by decide) rfl hr (by decide) pass0 rfl (pa_cons (pv 3) (pa_cons (pv 2) pa_nil))) (pa_cons (pe_ciK0 f_Wheel kb_Wheel_0_first_names (by decide) hr (by decide) pass0 rfl (pk_cons (pv 2) (pk_cons (pv 3) pk_nil))) pa_nil))) (pe_op op_mod (pe_ca f_l_next b_l_next hr (by decide) pass0 rfl (pa_cons (pv 0) pa_nil)) pe_int) (fun _ _ => rfl)))
      (C8.pss_cut (ps_if (pt_cmpR op_eq (pv 2) pe_int (nomark _)) (pss_one (ps_set (i := 4) c_l_right.nd rfl (.inl rfl) (pe_ci f_Wheel bd_Wheel1 (by decide) rfl hr (by decide) pass0 rfl (pa_cons (pv 3) pa_nil)))) pss_nil)
      (pss_cons (ps_if (pt_cmpR (op_neD hr.units) (pv 3) (pv 1) (nomark _)) (pss_one (ps_ret pe_bl)) pss_nil)
      (pss_cons (ps_asg (pe_op op_add_str (pe_ix ix_list (pv 3) pe_int (fun _ _ => rfl)) pe_str) (pg_sub (pv 3) pe_int set_list))
      (pss_cons (ps_expr (pe_bm PySem.F.plainAttrs_list PySem.F.slot_list_append PySem.F.type_list_append mt_append (pv 3) (pa_cons pe_str pa_nil)))
      (pss_cons (ps_if (PW.pt (pw_or (pt_not (pt_val (pe_caG f_l_fields_right b_l_fields_right gd hr (by decide) rfl (pa_cons (pv 4) (pa_cons (pv 1) (pa_cons (pv 2) pa_nil)))))) (pw_or1 (pt_not (pt_val (pe_ca f_l_days_right b_l_days_right hr (by decide) pass0 rfl (pa_cons (pv 0) (pa_cons (pv 4) (pa_cons (pv 1) (pa_cons (pv 2) pa_nil)))))))))) (pss_one (ps_ret pe_bl)) pss_nil)
      (pss_cons (ps_for PassesOwn.never rfl (pi_list (pe_lst (pa_cons (pv 1) (pa_cons (pe_callTy call_tuple_of rfl g_tuple (by decide +kernel) (pa_cons (pv 1) pa_nil)) (pa_cons (pe_callTy (call_str_IS f_Wheel_str b_Wheel_str (hr.mono (by decide)) pass0) rfl g_str (by decide +kernel) (pa_cons (pv 4) pa_nil)) (pa_cons (pe_callB call_len_seq rfl g_len (by decide +kernel) (pa_cons (pv 1) pa_nil)) (pa_cons pe_non pa_nil))))))) (pg_name (i := 5) c_l_right.nd rfl (.inl rfl)) (pss_one (ps_if (PW.pt (pw_or (pt_cmpR (op_eqC f_Wheel_eq b_Wheel_eq pass0 hr (by decide)) (pv 4) (pv 5) (nomark _)) (pw_or1 (pt_not (pt_cmpR (op_neC NT f_Wheel_eq b_Wheel_eq pass0 hr (by decide)) (pv 4) (pv 5) (nomark _)))))) (pss_one (ps_ret pe_bl)) pss_nil)))
      (pss_cons (ps_asg (pe_ca f_l_other b_l_other hr (by decide) pass0 rfl (pa_cons (pv 0) (pa_cons (pv 1) (pa_cons (pv 2) pa_nil)))) (pg_tup rfl (pgs_cons (pg_name (i := 6) c_l_right.nd rfl (.inl rfl)) (pgs_cons (pg_name (i := 7) c_l_right.nd rfl (.inl rfl)) pgs_nil))))
      (pss_cons (ps_set (i := 8) c_l_right.nd rfl (.inl rfl) (pe_ciK f_Wheel kb_Wheel_1_first (by decide) hr (by decide) pass0 rfl (pa_cons (pv 6) pa_nil) (pk_cons (pv 7) pk_nil)))
      (pss_cons (ps_set (i := 9) c_l_right.nd rfl (.inl rfl) (pe_cmpR (op_eqD hr.units) (pe_ca f_l_from_nought b_l_from_nought hr (by decide) pass0 rfl (pa_cons (pv 1) (pa_cons (pv 2) pa_nil))) (pe_ca f_l_from_nought b_l_from_nought hr (by decide) pass0 rfl (pa_cons (pv 6) (pa_cons (pv 7) pa_nil))) (nomark _)))
      (pss_cons (ps_if (PW.pt (pw_or (pt_cmpR op_ne (pe_cmpR (op_eqC f_Wheel_eq b_Wheel_eq pass0 hr (by decide)) (pv 4) (pv 8) (nomark _)) (pv 9) (nomark _)) (pw_or (pt_cmpR op_eq (pe_cmpR (op_neC NT f_Wheel_eq b_Wheel_eq pass0 hr (by decide)) (pv 4) (pv 8) (nomark _)) (pv 9) (nomark _)) (pw_or1 (pt_cmpR op_ne (pe_cmpR (op_eqC f_Wheel_eq b_Wheel_eq pass0 hr (by decide)) (pv 8) (pv 4) (nomark _)) (pv 9) (nomark _)))))) (pss_one (ps_ret pe_bl)) pss_nil)
      (pss_one (ps_ret (pe_and (pe_caG f_l_fields_right b_l_fields_right gd hr (by decide) rfl (pa_cons (pv 4) (pa_cons (pv 1) (pa_cons (pv 2) pa_nil)))) (pe_one (pe_caG f_l_fields_right b_l_fields_right gd hr (by decide) rfl (pa_cons (pv 8) (pa_cons (pv 6) (pa_cons (pv 7) pa_nil)))))))))))))))))))))), ?_⟩
    refine ⟨_, rfl, l, 0, 60, rfl, d, by omega, by decide, by decide, fun pn ns H1 b1 d1 e1 pl nf => ?_⟩
    have g := nf.t
    have gl := g.g.len
    have l0 := g.g.pos
    refine ⟨_, rfl, l, _, rfl, d1, by omega, fun i H2 zi b2 d2 => ?_⟩
    have e2 := b2 _ _ pl e1
    refine ⟨_, rfl, pn, _, rfl, .inl (SqL.of e2), fun ph nph => ?_⟩
    have s3 := Same.new (o := .lst (ns.map V.str)) nph
    have eh := upd_same (H := H2) (a := ph) (o := .lst (ns.map V.str))
    have hpl := ne_of_none' d2 nph
    have npn : pn ≠ ph := ne_of_none e2 nph
    have b3 := (b1.trans b2).trans (But.same s3)
    have d3 := d2.same s3 (Nat.le_refl _)
    have e3 := s3 _ _ e2
    have hH : H ph = none := by
      cases h : H ph with
      | none => rfl
      | some o => exact absurd ((b1.trans b2) ph o hpl h) (by rw [nph]; simp)
    generalize L2.upd H2 ph _ = H3 at *
    refine ⟨_, rfl, _, rfl, made_wz eh g.g fun p1 H4 s4 w1 => ?_⟩
    refine ⟨_, rfl, _, rfl, rfl, rfl, made_wz (s4 _ _ eh) g.g fun p2 H5 s5 w2 => ?_⟩
    refine ⟨(by show 2 ≤ sizeLine; decide), fun pp npp => ?_⟩
    have s6 := Same.new (o := .lst [.ref p1, .ref p2]) npp
    have epp := upd_same (H := H5) (a := pp) (o := .lst [.ref p1, .ref p2])
    have s36 := (s4.trans s5).trans s6
    have w1 := (w1.same s5).same s6
    have w2 := w2.same s6
    have d6 := d3.same s36 (Nat.le_refl _)
    have ppl := ne_of_none' (d3.same (s4.trans s5) (Nat.le_refl _)) npp
    have b6 := b3.trans (But.same s36)
    have e6 := s36 _ _ e3
    have eh6 := s36 _ _ eh
    generalize L2.upd H5 pp _ = H6 at *
    refine ⟨_, rfl, l, _, rfl, d6, by omega, fun u H7 u0 u1 b7 d7 => ?_⟩
    have w1 := w1.but d6 b7
    have w2 := w2.but d6 b7
    have e7 := b7 _ _ pl e6
    have eh7 := b7 _ _ hpl eh6
    have b7' := b6.trans b7
    obtain ⟨x, hx, pw, rfl, hw⟩ := pick (P := fun x => ∃ p, x = V.ref p ∧ Wf C H7 p (ns, i)) (xs := [V.ref p1, V.ref p2]) (md0 u (j := 2)) (md1 u (j := 2)) (by
      intro x hx
      simp only [List.mem_cons, List.not_mem_nil, or_false] at hx
      rcases hx with rfl | rfl
      · exact ⟨_, rfl, w1⟩
      · exact ⟨_, rfl, w2⟩)
    refine ⟨_, _, rfl, rfl, md, pp, _, _, _, rfl, rfl, SqL.of (b7 _ _ ppl epp), hx, ?_⟩
    refine ⟨fun σ Hx => ∃ pw, σ = [some (.ref l), some (.ref pn), some (.int i), some (.ref ph), some (.ref pw), none, none, none, none, none] ∧ Wf C Hx pw (ns, i) ∧ Same H7 Hx, ?_, ?_⟩
    · refine ⟨_, rfl, rfl, _, rfl, ?_⟩
      by_cases h0 : i = 0
      · rw [decide_eq_true (congrArg V.int h0)]
        refine iteT ⟨_, rfl, made_wz eh7 g.g fun p3 H8 s8 w3 => ?_⟩
        exact ⟨p3, rfl, by rw [h0]; exact w3, s8⟩
      · rw [decide_eq_false (fun z => h0 (V.int.inj z))]
        exact iteF ⟨pw, rfl, hw, Same.refl _⟩
    clear hw hx pw w1 w2
    rintro σ H8 ⟨pw, rfl, hw, s8⟩
    have e8 := s8 _ _ e7
    have eh8 := s8 _ _ eh7
    have b8 := b7'.trans (But.same s8)
    have d8 := d7.same s8 (Nat.le_refl _)
    refine ⟨_, rfl, _, rfl, _, _, dlS_dp eh8, dlS_dp e8, dlS_ok g.ok, dlS_ok g.ok, _, rfl, ?_⟩
    rw [dlS_iff, decide_eq_true rfl]
    refine iteF ?_
    have a0 : atI (ns.map V.str) 0 = some (.str (ns.getD 0 Str.empty)) := atN (by decide) (by omega)
    have m0 : ns.getD 0 Str.empty ∈ ns := by
      rw [List.getD_eq_getElem?_getD, List.getElem?_eq_getElem l0]
      exact List.getElem_mem _
    have lm := g.ln _ m0
    refine ⟨_, rfl, ph, _, _, _, rfl, rfl, SqL.of eh8, a0, _, _, rfl, rfl, ?_, ?_⟩
    · have ly : (("y" : Str)).length = 1 := by decide +kernel
      rw [ly]
      exact Nat.le_trans (show _ ≤ 300 by omega) (by decide)
    refine ⟨_, rfl, ph, _, _, 0, rfl, rfl, eh8, (by unfold ixN; rw [List.length_map, if_pos (by decide), if_pos (by omega)]; rfl), ?_⟩
    have b9 : But l H (L2.upd H8 ph (.lst ((ns.map V.str).set 0 (V.str (ns.getD 0 Str.empty ++ ("y" : Str)))))) := b8.putN hH
    have d9 := d8.put (o := .lst ((ns.map V.str).set 0 (V.str (ns.getD 0 Str.empty ++ ("y" : Str))))) hpl
    have e9 : (L2.upd H8 ph (.lst ((ns.map V.str).set 0 (V.str (ns.getD 0 Str.empty ++ ("y" : Str)))))) pn = some (.lst (ns.map V.str)) := by rw [upd_ne npn]; exact e8
    have w9 := hw.put (ys := (ns.map V.str).set 0 (V.str (ns.getD 0 Str.empty ++ ("y" : Str)))) eh8
    have eh9 : (L2.upd H8 ph (.lst ((ns.map V.str).set 0 (V.str (ns.getD 0 Str.empty ++ ("y" : Str)))))) ph = some (.lst ((ns.map V.str).set 0 (V.str (ns.getD 0 Str.empty ++ ("y" : Str))))) := upd_same
    have lh9 : ((ns.map V.str).set 0 (V.str (ns.getD 0 Str.empty ++ ("y" : Str)))).length ≤ 62 := by rw [List.length_set, List.length_map]; exact gl
    generalize (ns.map V.str).set 0 (V.str (ns.getD 0 Str.empty ++ ("y" : Str))) = hs at *
    generalize L2.upd H8 ph (.lst hs) = H9 at *
    refine ⟨_, rfl, .inl ⟨rfl, _, SqL.of eh9⟩, ph, _, _, rfl, rfl, eh9, Nat.lt_of_le_of_lt lh9 (by decide), ?_⟩
    have b10 : But l H (L2.upd H9 ph (.lst (hs ++ [V.str ("zzz" : Str)]))) := b9.putN hH
    have d10 := d9.put (o := .lst (hs ++ [V.str ("zzz" : Str)])) hpl
    have e10 : (L2.upd H9 ph (.lst (hs ++ [V.str ("zzz" : Str)]))) pn = some (.lst (ns.map V.str)) := by rw [upd_ne npn]; exact e9
    have w10 := w9.put (ys := hs ++ [V.str ("zzz" : Str)]) eh9
    generalize L2.upd H9 ph (.lst (hs ++ [V.str ("zzz" : Str)])) = HA at *
    clear b9 d9 e9 w9 eh9 lh9 hw e8 eh8 b8 d8 b7' e7 eh7 d7 b7 d6 b6 e6 eh6 eh s36 s6 s5 s4 epp b3 d3 e3 s3 s8
    refine ⟨_, rfl, _, rfl, _, rfl, pw, pn, ns, i, rfl, w10, e10, g, zi.mono (by decide), fun HB sB => ⟨_, rfl, iteF ?_⟩⟩
    have dB := d10.same sB (Nat.le_refl _)
    refine ⟨_, rfl, _, rfl, _, rfl, _, rfl, l, pw, pn, _, ns, i, rfl, dB, by omega, w10.same sB, sB _ _ e10, pl, g, zi.mono (by decide), fun HC bC dC => ⟨_, rfl, iteF ?_⟩⟩
    have wC := (w10.same sB).but dB bC
    have eC := bC _ _ pl (sB _ _ e10)
    have bC' := (b10.trans (But.same sB)).trans bC
    refine ⟨_, rfl, _, rfl, pn, _, rfl, .inl ⟨SqL.of eC, fun tt ntt => ?_⟩⟩
    have s1 := Same.new (o := .tup (ns.map V.str)) ntt
    have ett := upd_same (H := HC) (a := tt) (o := .tup (ns.map V.str))
    generalize L2.upd HC tt _ = HD at *
    refine ⟨_, rfl, wf_rd (wC.same s1) g fun HE s2 => ?_⟩
    refine ⟨_, rfl, pn, _, rfl, .inl (SqL.of (s2 _ _ (s1 _ _ eC))), ?_⟩
    refine ⟨(by show 5 ≤ sizeLine; decide), fun lt nlt => ?_⟩
    have s3 := Same.new (o := .lst [.ref pn, .ref tt, .str (Txt.join (" " : Str) (fnW (ns, i))), .int ((ns.map V.str).length : Nat), .non]) nlt
    have elt := upd_same (H := HE) (a := lt) (o := .lst [.ref pn, .ref tt, .str (Txt.join (" " : Str) (fnW (ns, i))), .int ((ns.map V.str).length : Nat), .non])
    have s13 := (s1.trans s2).trans s3
    have ett := s3 _ _ (s2 _ _ ett)
    have eF := s13 _ _ eC
    have wF := wC.same s13
    have dF := dC.same s13 (Nat.le_refl _)
    have bF := bC'.trans (But.same s13)
    change (fun HC : Hp => _) (L2.upd HE lt (.lst [.ref pn, .ref tt, .str (Txt.join (" " : Str) (fnW (ns, i))), .int ((ns.map V.str).length : Nat), .non]))
    generalize L2.upd HE lt (.lst [.ref pn, .ref tt, .str (Txt.join (" " : Str) (fnW (ns, i))), .int ((ns.map V.str).length : Nat), .non]) = HF at *
    refine ⟨lt, rfl, ⟨_, SqL.of elt⟩, for_list (K := K) (a := lt) (xs := [.ref pn, .ref tt, .str (Txt.join (" " : Str) (fnW (ns, i))), .int ((ns.map V.str).length : Nat), .non]) (fun j σ Hx => ∃ v5 : Option V, σ = [some (.ref l), some (.ref pn), some (.int i), some (.ref ph), some (.ref pw), v5, none, none, none, none] ∧ Same HF Hx) ⟨_, rfl, Same.refl _⟩ (fun j σ Hx _ ⟨_, _, sx⟩ => SqL.of (sx _ _ elt)) ?_ ?_⟩
    · rintro j v σ Hx hv ⟨v5, rfl, sx⟩
      have pl' : ∃ S, Pl K Hx v S := by
        match j, hv with
        | 0, hv => cases hv; exact ⟨_, .lst (sx _ _ eF)⟩
        | 1, hv => cases hv; exact ⟨_, .tup (sx _ _ ett)⟩
        | 2, hv => cases hv; exact ⟨_, .str _⟩
        | 3, hv => cases hv; exact ⟨_, .int _⟩
        | 4, hv => cases hv; exact ⟨_, .non⟩
        | j + 5, hv => simp at hv
      obtain ⟨S, plS⟩ := pl'
      have wx := wF.same sx
      refine ⟨_, rfl, _, rfl, cmp_no O wx g plS ⟨_, rfl, ⟨_, rfl, iteF ?_⟩⟩⟩
      refine ⟨_, rfl, _, rfl, cmp_no O wx g plS ⟨_, rfl, ⟨_, rfl, iteF ?_⟩⟩⟩
      exact ⟨_, rfl, sx⟩
    rintro σ HG ⟨v5, rfl, sG⟩
    have eG := sG _ _ eF
    have wG := wF.same sG
    have dG := dF.same sG (Nat.le_refl _)
    have bG := bF.trans (But.same sG)
    refine ⟨_, rfl, _, rfl, _, rfl, l, pn, _, ns, i, rfl, dG, by omega, eG, pl, g, nf.nz, nf.l60, zi, fun t os st HH bH op nt zs => ?_⟩
    obtain ⟨lo, et, elo⟩ := op
    refine ⟨t, _, rfl, SqT.of et, rfl, _, _, rfl, _, _, rfl, rfl, ?_⟩
    have wH := wG.but dG bH
    have eH := bH _ _ pl eG
    have bH' := bG.trans bH
    refine ⟨_, rfl, _, rfl, rfl, rfl, made_wz elo nt.g fun po HI sI wo => ?_⟩
    have wI := wH.same sI
    have eI := sI _ _ eH
    have eloI := sI _ _ elo
    refine ⟨_, rfl, _, rfl, pn, ns, i, rfl, eI, g.g, fun t1 HJ sJ e1 => ?_⟩
    refine ⟨_, rfl, _, rfl, lo, os, st, rfl, sJ _ _ eloI, nt.g, fun t2 HK sK e2 => ?_⟩
    refine ⟨_, _, dlS_dp (sK _ _ e1), dlS_dp e2, dlS_ok (fun x hx => g.ok x (fnW_mem (x := (ns, i)) g.g x hx)), dlS_ok (fun x hx => nt.ok x (fnW_mem (x := (os, st)) nt.g x hx)), ?_⟩
    rw [dlS_iff]
    have sIK := sJ.trans sK
    have wK := wI.same sIK
    have woK := wo.same sIK
    have eK := sIK _ _ eI
    have eloK := sIK _ _ eloI
    have bK := (bH'.trans (But.same sI)).trans (But.same sIK)
    refine ⟨_, rfl, _, rfl, cmp_wf wty wK g woK nt (fun HL sL => ⟨_, rfl, ?_⟩)⟩
    refine ⟨_, rfl, rfl, _, rfl, no' (by simp) ?_⟩
    refine ⟨_, rfl, _, rfl, cmp_wf wty (wK.same sL) g (woK.same sL) nt (fun HM sM => ⟨_, rfl, ?_⟩)⟩
    refine ⟨_, rfl, rfl, _, rfl, no' (by cases decide (fnW (ns, i) = fnW (os, st)) <;> simp) ?_⟩
    refine ⟨_, rfl, _, rfl, cmp_wf wty ((woK.same sL).same sM) nt ((wK.same sL).same sM) g (fun HN sN => ⟨_, rfl, ?_⟩)⟩
    have sy : decide (fnW (os, st) = fnW (ns, i)) = decide (fnW (ns, i) = fnW (os, st)) := decide_eq_decide.mpr ⟨fun h => h.symm, fun h => h.symm⟩
    rw [sy]
    refine ⟨_, rfl, rfl, _, rfl, no' (by simp) ?_⟩
    have sKN := (sL.trans sM).trans sN
    refine ⟨_, rfl, _, rfl, _, rfl, pw, pn, ns, i, rfl, wK.same sKN, sKN _ _ eK, g, zi.mono (by decide), fun HO sO => ⟨_, rfl, iteT ?_⟩⟩
    refine ⟨_, rfl, _, rfl, _, rfl, po, lo, os, st, rfl, (woK.same sKN).same sO, sO _ _ (sKN _ _ eloK), nt, zs.mono (by decide), fun HP sP => ?_⟩
    exact q HP (bK.trans (But.same ((sKN.trans sO).trans sP)))
theorem ok_law (D : Df K mg "law" s_law []) (f_l_draws : Ca P w K mg base CX0 1 "_law_draws" s_l_draws [] ["_law_cell"] spDraws) (f_l_right : CaG P w K mg base CX0 7 "_law_right" s_l_right [] ["_law_draws_here"] spR61) : CaG P w K mg base CX0 13 "law" s_law [] ["_law_script"] (spLaw K) := by
  refine cag0 (k := 12) D c_law (fun vs H Q E h => ?_) fun f cdv A outer s H vs Q E gd hr h => ?_
  · obtain ⟨a, ns, rfl, _⟩ := h
    rfl
  · obtain ⟨a, ns, rfl, hS, hlen, q⟩ := h
    refine ⟨_, (pss_cons (ps_for PassesOwn.never rfl (pi_list (pe_op op_cat (pe_slice sl_list (pv 0) po_none (po_some pe_int)) (pe_lst (pa_cons pe_int pa_nil)))) (pg_name (i := 1) c_law.nd rfl (.inl rfl)) (pss_one (ps_if (pt_not (pt_val (pe_caG f_l_right b_l_right gd hr (by decide) rfl (pa_cons (pe_ca f_l_draws b_l_draws hr (by decide) pass0 rfl (pa_cons (pv 1) pa_nil)) pa_nil)))) (pss_one (ps_ret pe_bl)) pss_nil)))
      (pss_one (ps_ret pe_bl))), ?_⟩
    refine ⟨_, rfl, _, rfl, a, _, rfl, hS, fun p1 n1 => ?_⟩
    refine ⟨(by show 1 ≤ sizeLine; decide), fun p2 n2 => ?_⟩
    have ne12 : p1 ≠ p2 := ne_of_none upd_same n2
    refine ⟨p1, p2, _, _, rfl, rfl, (by rw [upd_ne ne12]; exact upd_same), upd_same, cut_len hlen, fun l3 n3 => ?_⟩
    generalize hH0 : L2.upd _ l3 (.lst (cutV (ns.map V.int) none (some 3) ++ [V.int 0])) = H0
    have hl3 : H0 l3 = some (.lst (cutV (ns.map V.int) none (some 3) ++ [V.int 0])) := by rw [← hH0]; exact upd_same
    refine ⟨l3, rfl, ⟨_, SqL.of hl3⟩, for_list (K := K) (a := l3) (xs := cutV (ns.map V.int) none (some 3) ++ [V.int 0]) (fun i σ H' => ∃ v1 : Option V, σ = [some (.ref a), v1] ∧ H' l3 = some (.lst (cutV (ns.map V.int) none (some 3) ++ [V.int 0])))
      ⟨_, rfl, hl3⟩ (fun i σ H' _ ⟨_, _, e⟩ => SqL.of e) ?_ (fun σ H' ⟨_, e, _⟩ => by subst e; exact q H')⟩
    rintro i x σ H1 hi ⟨v1, rfl, e3⟩
    obtain ⟨c, rfl⟩ := cut_ints hi
    refine ⟨_, rfl, c, rfl, fun l H2 nl s2 d2 => ?_⟩
    have nel : l3 ≠ l := ne_of_none e3 nl
    exact ⟨l, rfl, d2, fun H3 b3 => ⟨_, rfl, no' rfl ⟨_, rfl, b3 _ _ nel (s2 _ _ e3)⟩⟩⟩
end
theorem df_mkD {K : PySem.W.Frag} {h : Heap} {mg : Str → Option Value} {x : Str} {st : Stmt} {f T : Addr} {oc kV doc pm cdv ct : Value} {od an : Option Addr} {osl : Array (Option Value)} {nT : Nat} {its : List Value} {dvs : List V} (X : K.In h) (G : h.Ns mainGlobals mg) (a : PySem.W.nsIn K mainGlobals x = some (some (.ref f)))
    (l : K.lookup f = some ⟨oc, od, .func (PySem.W.fnOf x x (defArgs st) (defBody st) (defScope st) (.ref T) kV doc pm an cdv ct), osl⟩) (c : PySem.W.codeIn K cdv x = true) (k : PySem.W.keepIn K (.ref f) = true) {oT : Obj} (lT : K.lookup T = some oT) (eT : oT.data = .seq its.toArray nT) (r : Vals dvs its) (ne : dvs ≠ []) : Df K mg x st dvs :=
  ⟨f, _, ⟨⟨oc, od, .ref T, kV, doc, pm, an, cdv, ct, osl, rfl, l, c, .inr ⟨ne, T, _, its, nT, rfl, lT, eT, r⟩, .inl rfl⟩, k⟩, PySem.W.mg_of X G a⟩
theorem net_mk {K : PySem.W.Frag} {C : Addr} {nm q N bs hd sn sub ab col dd k0 k1 k2 k3 k5 nw} (ne : PySem.W.findIn K (.ref C) "__ne__" = some (some (.builtin "object.__ne__"))) (l : K.lookup C = some (excClassObj nm q C N bs [.type "object"] hd sn sub ab col dd k0 k1 k2 k3 k5 nw)) : NeT K C := ⟨ne, ⟨_, _, _, _, _, _, _, _, _, _, _, _, _, _, _, _, l⟩⟩
theorem fin_ofG {P : Program} {w : World} {K : PySem.W.Frag} {mg : Str → Option Value} {st : Stmt} {k : Nat} {x : Str} {sp : Sp} {fa : Addr} (hfa : mg "law" = some (.ref fa)) (D : Df K mg "law" st []) (b : Bd "law" "law" st [x])
    (h : ∀ base : Heap, CaG P w K mg base CX0 k "law" st [] [x] sp) :
    ∃ fd : FuncData, (∀ (s : Shared) (u : Value), BindsTo s fd ⟨[u], []⟩ [(x, u)]) ∧ ∀ base : Heap, K.In base → base.Ns mainGlobals mg → FnG P w K mg base CX0 k fa fd [x] sp := by
  obtain ⟨f, fd, F, hm⟩ := D.ex
  have e := hfa.symm.trans hm
  cases e
  refine ⟨fd, fun s u => ?_, fun base _ _ => ?_⟩
  · obtain ⟨kV, doc, pm, an, cdv, ct, rfl⟩ := FunD.none F
    exact .of_eq (b kV doc pm an cdv ct [u] rfl)
  · obtain ⟨f', fd', F', hm', G⟩ := (h base).ex
    have e' := hm.symm.trans hm'
    cases e'
    have e2 := fund_inj F F'
    subst e2
    exact G
/-! ### what the top has written -/
theorem fin {P : Program} {w : World} {K : PySem.W.Frag} {mg : Str → Option Value} {fa C : Addr} (hfa : mg "law" = some (.ref fa))
    (hn : PySem.W.specialIn K (.builtin "object.__class__") "__get__" = some (some (.builtin "getset_descriptor.__get__"))) (htk : PySem.W.takesIn K (.builtin "object.__class__") = some true)
    (clw : Cls K C) (wn1 : PySem.W.findIn K (.ref C) "names" = some none) (wn2 : PySem.W.findIn K (.ref C) "first" = some none) (hWheel : mg "Wheel" = some (.ref C)) (dWheel : Di K mg "Wheel" C "Wheel.__init__" s_Wheel_init [.int 0])
    (hac : PySem.W.findIn K (.ref C) "__class__" = some (some (.builtin "object.__class__"))) (hmc : PySem.W.mroIn K C (.type "object") = some true)
    (dOn : Dm K C "name_on" "Wheel.name_on" s_Wheel_name_on)
    (dNext : Dm K C "next_named" "Wheel.next_named" s_Wheel_next_named)
    (dLen : Dm K C "__len__" "Wheel.__len__" s_Wheel_len)
    (dEq : Dm K C "__eq__" "Wheel.__eq__" s_Wheel_eq)
    (dStr : Dm K C "__str__" "Wheel.__str__" s_Wheel_str)
    (dRepr : Dm K C "__repr__" "Wheel.__repr__" s_Wheel_repr)
    (NT : NeT K C)
    (O : OwnC K C)
    {uF : Value} (aF : mg "FIGURES" = some uF) (rF : RelV (.str FIG) uF)
    (g_abs : mg "abs" = none) (g_range : mg "range" = none) (g_len : mg "len" = none) (g_set : mg "set" = none) (g_list : mg "list" = none) (g_tuple : mg "tuple" = none) (g_str : mg "str" = none) (g_int : mg "int" = none) (g_bool : mg "bool" = none) (g_repr : mg "repr" = none) (g_isinstance : mg "isinstance" = none) (g_reversed : mg "reversed" = none)
    (d_numeral : Df K mg "numeral" s_numeral [.int 10])
    (d_names_from_nought : Df K mg "names_from_nought" s_names_from_nought []) (d_named_day : Df K mg "named_day" s_named_day []) (d_first_alike : Df K mg "first_alike" s_first_alike []) (d_l_draws : Df K mg "_law_draws" s_l_draws []) (d_l_next : Df K mg "_law_next" s_l_next []) (d_l_whole : Df K mg "_law_whole" s_l_whole []) (d_l_unlike : Df K mg "_law_unlike" s_l_unlike []) (d_l_far : Df K mg "_law_far" s_l_far []) (d_l_day : Df K mg "_law_day" s_l_day []) (d_l_on : Df K mg "_law_on" s_l_on []) (d_l_from_nought : Df K mg "_law_from_nought" s_l_from_nought []) (d_l_other : Df K mg "_law_other" s_l_other []) (d_l_next_day : Df K mg "_law_next_day" s_l_next_day []) (d_l_days_right : Df K mg "_law_days_right" s_l_days_right []) (d_l_fields_right : Df K mg "_law_fields_right" s_l_fields_right []) (d_l_right : Df K mg "_law_right" s_l_right []) (d_law : Df K mg "law" s_law []) :
    ∃ fd : FuncData, (∀ (s : Shared) (u : Value), BindsTo s fd ⟨[u], []⟩ [("_law_script", u)]) ∧ ∀ base : Heap, K.In base → base.Ns mainGlobals mg → FnG P w K mg base CX0 13 fa fd ["_law_script"] (spLaw K) := by
  refine fin_ofG hfa d_law b_law fun base => ?_
  obtain ⟨tF, eF⟩ := rF
  have hF : mg "FIGURES" = some (.str FIG tF) := by rw [aF, eF]
  have W : WhT K C := ⟨clw, wn1, wn2⟩
  have wty : ∀ (H : Hp) (a dx : Addr) (fs : List (Str × V)), H a = some (.ins C dx fs) → TyX K H (.ref a) (.ref C) := fun H a dx fs e => .base (.ins e clw hac hn htk hmc)
  have nu := ok_num (P := P) (w := w) (base := base) d_numeral hF g_abs g_reversed
  have wI := ok_wzI (P := P) (w := w) (base := base) dWheel W g_len g_set g_tuple
  have wO := ok_wno (P := P) (w := w) (base := base) dOn W g_len
  have wL := ok_wln (P := P) (w := w) (base := base) dLen W g_len
  have nd := ok_naG (P := P) (w := w) (base := base) d_named_day W
  have al := ok_alk (P := P) (w := w) (base := base) d_first_alike
  have fr := ok_frW (P := P) (w := w) (base := base) d_names_from_nought W g_len
  have wS := ok_wfS dStr fr
  have wE := ok_wfE dEq wty hWheel g_isinstance fr
  have wN := ok_nxG dNext W nd al g_len
  have wR := ok_wfR dRepr W nu g_list
  have nx := ok_next (P := P) (w := w) (base := base) d_l_next
  have dr := ok_draws (P := P) (w := w) (base := base) d_l_draws g_range
  have un := ok_lunl d_l_unlike nx g_range g_str
  have fa' := ok_lfar62 d_l_far nx
  have dy := ok_lday d_l_day nx
  have wh := ok_lwhole (P := P) (w := w) (base := base) d_l_whole g_isinstance g_int g_bool
  have on := ok_on (P := P) (w := w) (base := base) d_l_on g_len
  have fn := ok_fn d_l_from_nought on g_len g_range
  have ny := ok_nd61 d_l_next_day on g_len g_range
  have ot := ok_ot d_l_other nx g_len g_list g_range
  have fi := ok_fi61 d_l_fields_right W wL wS wR fn g_len g_tuple g_str g_repr
  have dg := ok_dr61 d_l_days_right nx g_len dy wO wN on ny wh
  have rg := ok_lright61 d_l_right wty NT O nx g_len g_list g_tuple g_str un fa' wI wS wE fi dg ot fn
  exact ok_law d_law dr rg
theorem walk {l : PySem.W.OpenLaw} {q : Program} {loose : List Str} {XP : (Str → Option Value) → Heap → Prop} {YP : World → Heap → Prop} {d : DefRec} {K : Params → PySem.W.Frag} (hn : l.most = some 63) (hdf : d.params.defaults = [])
    (hY : ∀ (w : World) (h : Heap), YP w h → (K w.params).In h)
    (F : ∀ (w : World) (mg : Str → Option Value) (fa : Addr) (h : Heap), (K w.params).In h → h.Ns mainGlobals mg → mg d.name = some (.ref fa) →
      ∃ fd : FuncData, (∀ (s : Shared) (u : Value), BindsTo s fd ⟨[u], []⟩ [("_law_script", u)]) ∧ ∀ base : Heap, (K w.params).In base → base.Ns mainGlobals mg → FnG l.prog w (K w.params) mg base CX0 13 fa fd ["_law_script"] (spLaw (K w.params))) :
    PySem.W.WalkO q loose XP YP l.row.toRowW d [] (fun f vs => PySem.call f vs) :=
  walk_G (k := 13) (x := "_law_script") (sp := fun w => spLaw (K w.params)) hn hdf ⟨rfl, by decide, by decide⟩ hY F fun _ _ a ns hl _ hS => ⟨a, ns, rfl, hS, hl, fun _ => rfl⟩
end MM
open PySem PySem.W PyProof.Rows in
set_option maxRecDepth 100000 in
set_option maxHeartbeats 0 in
theorem PySem.Challenge.cw_meanmoon_k61_wheels_holds : PySem.Challenge.rw_meanmoon_k61_wheels.Holds := by
  w_on; o_law; k_head; (case hw => w_witness2)
  k_fill
  refine MM.walk (l := PySem.Challenge.rw_meanmoon_k61_wheels) rfl rfl (fun w h Y => PySem.W.kIn_of Y) ?F
  case F =>
    intro w mg fa h KX G hmg
    refine' MM.fin hmg
      ?hn ?htk
      ⟨?pgd, ?hdd, ?pod, ?sad⟩ ?dy1 ?dy2 (PySem.W.mg_of KX G ?aE)
      (MM.di_mk (its := [_]) (PySem.W.mg_of KX G ?aE) ?t1 ?t2 ?t3 ?t4 ?t5 ?t6 ?t7 ?t8 ?t9 ?t0 (by decide))
      ?hac ?hmc
      (MM.dm_mk ⟨?pgd, ?hdd, ?pod, ?sad⟩ ?mdOna ?mdOni ?mdOnl ?mdOnc ?mdOnk)
      (MM.dm_mk ⟨?pgd, ?hdd, ?pod, ?sad⟩ ?mdNexta ?mdNexti ?mdNextl ?mdNextc ?mdNextk)
      (MM.dm_mk ⟨?pgd, ?hdd, ?pod, ?sad⟩ ?mdLena ?mdLeni ?mdLenl ?mdLenc ?mdLenk)
      (MM.dm_mk ⟨?pgd, ?hdd, ?pod, ?sad⟩ ?mdEqa ?mdEqi ?mdEql ?mdEqc ?mdEqk)
      (MM.dm_mk ⟨?pgd, ?hdd, ?pod, ?sad⟩ ?mdStra ?mdStri ?mdStrl ?mdStrc ?mdStrk)
      (MM.dm_mk ⟨?pgd, ?hdd, ?pod, ?sad⟩ ?mdRepra ?mdRepri ?mdReprl ?mdReprc ?mdReprk)
      (MM.net_mk ?NT1 ?NT2)
      ⟨?O_0, ?O_1, ?O_2, ?O_3, ?O_4, ?O_5, ?O_6, ?O_7⟩
      (PySem.W.mg_of KX G ?gl_FIGURES) ?gr_FIGURES
      (PySem.W.mg_none_of KX G ?z0)
      (PySem.W.mg_none_of KX G ?z1)
      (PySem.W.mg_none_of KX G ?z2)
      (PySem.W.mg_none_of KX G ?z3)
      (PySem.W.mg_none_of KX G ?z4)
      (PySem.W.mg_none_of KX G ?z5)
      (PySem.W.mg_none_of KX G ?z6)
      (PySem.W.mg_none_of KX G ?z7)
      (PySem.W.mg_none_of KX G ?z8)
      (PySem.W.mg_none_of KX G ?z9)
      (PySem.W.mg_none_of KX G ?z10)
      (PySem.W.mg_none_of KX G ?z11)
      (MM.df_mkD (its := [_]) KX G ?q1_numeral ?q2_numeral ?q3_numeral ?q4_numeral ?q5_numeral ?q6_numeral ?q7_numeral (by decide))
      (MM.df_mk KX G ?a_names_from_nought ?l_names_from_nought ?c_names_from_nought ?k_names_from_nought)
      (MM.df_mk KX G ?a_named_day ?l_named_day ?c_named_day ?k_named_day)
      (MM.df_mk KX G ?a_first_alike ?l_first_alike ?c_first_alike ?k_first_alike)
      (MM.df_mk KX G ?a_l_draws ?l_l_draws ?c_l_draws ?k_l_draws)
      (MM.df_mk KX G ?a_l_next ?l_l_next ?c_l_next ?k_l_next)
      (MM.df_mk KX G ?a_l_whole ?l_l_whole ?c_l_whole ?k_l_whole)
      (MM.df_mk KX G ?a_l_unlike ?l_l_unlike ?c_l_unlike ?k_l_unlike)
      (MM.df_mk KX G ?a_l_far ?l_l_far ?c_l_far ?k_l_far)
      (MM.df_mk KX G ?a_l_day ?l_l_day ?c_l_day ?k_l_day)
      (MM.df_mk KX G ?a_l_on ?l_l_on ?c_l_on ?k_l_on)
      (MM.df_mk KX G ?a_l_from_nought ?l_l_from_nought ?c_l_from_nought ?k_l_from_nought)
      (MM.df_mk KX G ?a_l_other ?l_l_other ?c_l_other ?k_l_other)
      (MM.df_mk KX G ?a_l_next_day ?l_l_next_day ?c_l_next_day ?k_l_next_day)
      (MM.df_mk KX G ?a_l_days_right ?l_l_days_right ?c_l_days_right ?k_l_days_right)
      (MM.df_mk KX G ?a_l_fields_right ?l_l_fields_right ?c_l_fields_right ?k_l_fields_right)
      (MM.df_mk KX G ?a_l_right ?l_l_right ?c_l_right ?k_l_right)
      (MM.df_mk KX G ?a_law ?l_law ?c_law ?k_law)
    (case hn => k_is)
    (case htk => k_is)
    (case aE => k_is)
    (case pgd => k_is)
    (case hdd => k_is)
    (case pod => k_is)
    (case sad => k_is)
    (case dy1 => k_is)
    (case dy2 => k_is)
    (case t1 => k_is)
    (case t2 => k_is)
    (case t3 => k_is)
    (case t4 => k_is)
    (case t5 => k_is)
    (case t6 => k_is)
    (case t7 => k_is)
    (case t8 => k_is)
    (case hac => k_is)
    (case hmc => k_is)
    (case mdOna => k_is)
    (case mdOni => k_is)
    (case mdOnl => k_is)
    (case mdOnc => k_is)
    (case mdOnk => k_is)
    (case mdNexta => k_is)
    (case mdNexti => k_is)
    (case mdNextl => k_is)
    (case mdNextc => k_is)
    (case mdNextk => k_is)
    (case mdLena => k_is)
    (case mdLeni => k_is)
    (case mdLenl => k_is)
    (case mdLenc => k_is)
    (case mdLenk => k_is)
    (case mdEqa => k_is)
    (case mdEqi => k_is)
    (case mdEql => k_is)
    (case mdEqc => k_is)
    (case mdEqk => k_is)
    (case mdStra => k_is)
    (case mdStri => k_is)
    (case mdStrl => k_is)
    (case mdStrc => k_is)
    (case mdStrk => k_is)
    (case mdRepra => k_is)
    (case mdRepri => k_is)
    (case mdReprl => k_is)
    (case mdReprc => k_is)
    (case mdReprk => k_is)
    (case NT1 => k_is)
    (case NT2 => k_is)
    (case O_0 => k_is)
    (case O_1 => k_is)
    (case O_2 => k_is)
    (case O_3 => k_is)
    (case O_4 => k_is)
    (case O_5 => k_is)
    (case O_6 => k_is)
    (case O_7 => k_is)
    (case gl_FIGURES => k_is)
    (case z0 => k_is)
    (case z1 => k_is)
    (case z2 => k_is)
    (case z3 => k_is)
    (case z4 => k_is)
    (case z5 => k_is)
    (case z6 => k_is)
    (case z7 => k_is)
    (case z8 => k_is)
    (case z9 => k_is)
    (case z10 => k_is)
    (case z11 => k_is)
    (case q1_numeral => k_is)
    (case q2_numeral => k_is)
    (case q3_numeral => k_is)
    (case q4_numeral => k_is)
    (case q5_numeral => k_is)
    (case a_names_from_nought => k_is)
    (case l_names_from_nought => k_is)
    (case c_names_from_nought => k_is)
    (case k_names_from_nought => k_is)
    (case a_named_day => k_is)
    (case l_named_day => k_is)
    (case c_named_day => k_is)
    (case k_named_day => k_is)
    (case a_first_alike => k_is)
    (case l_first_alike => k_is)
    (case c_first_alike => k_is)
    (case k_first_alike => k_is)
    (case a_l_draws => k_is)
    (case l_l_draws => k_is)
    (case c_l_draws => k_is)
    (case k_l_draws => k_is)
    (case a_l_next => k_is)
    (case l_l_next => k_is)
    (case c_l_next => k_is)
    (case k_l_next => k_is)
    (case a_l_whole => k_is)
    (case l_l_whole => k_is)
    (case c_l_whole => k_is)
    (case k_l_whole => k_is)
    (case a_l_unlike => k_is)
    (case l_l_unlike => k_is)
    (case c_l_unlike => k_is)
    (case k_l_unlike => k_is)
    (case a_l_far => k_is)
    (case l_l_far => k_is)
    (case c_l_far => k_is)
    (case k_l_far => k_is)
    (case a_l_day => k_is)
    (case l_l_day => k_is)
    (case c_l_day => k_is)
    (case k_l_day => k_is)
    (case a_l_on => k_is)
    (case l_l_on => k_is)
    (case c_l_on => k_is)
    (case k_l_on => k_is)
    (case a_l_from_nought => k_is)
    (case l_l_from_nought => k_is)
    (case c_l_from_nought => k_is)
    (case k_l_from_nought => k_is)
    (case a_l_other => k_is)
    (case l_l_other => k_is)
    (case c_l_other => k_is)
    (case k_l_other => k_is)
    (case a_l_next_day => k_is)
    (case l_l_next_day => k_is)
    (case c_l_next_day => k_is)
    (case k_l_next_day => k_is)
    (case a_l_days_right => k_is)
    (case l_l_days_right => k_is)
    (case c_l_days_right => k_is)
    (case k_l_days_right => k_is)
    (case a_l_fields_right => k_is)
    (case l_l_fields_right => k_is)
    (case c_l_fields_right => k_is)
    (case k_l_fields_right => k_is)
    (case a_l_right => k_is)
    (case l_l_right => k_is)
    (case c_l_right => k_is)
    (case k_l_right => k_is)
    (case a_law => k_is)
    (case l_law => k_is)
    (case c_law => k_is)
    (case k_law => k_is)
    (case t9 => rfl)
    (case t0 => exact .cons ⟨_, rfl⟩ .nil)
    (case gr_FIGURES => exact ⟨_, rfl⟩)
    (case q6_numeral => rfl)
    (case q7_numeral => exact (.cons ⟨_, rfl⟩ .nil))
#print axioms PySem.Challenge.cw_meanmoon_k61_wheels_holds
