/- Whole numbers that are small enough stand in a float64 as they are. -/
import GoSem.Core.Float
namespace Go.Proofs.YtgdhhpbpbkgmeaaDoor.flt
open Go Ieee

/-- the word of a natural number -/
def fwn (n : Nat) : Nat := FloatKind.f64.nearest (n : Int)

theorem lim1 {L m B : Nat} (hL : L ≤ 52) (hm : m < 2 * B) : (L + 1022) * B + m ≤ 2047 * B := by
  have h := Nat.mul_le_mul_right B (show L + 1022 ≤ 1074 by omega)
  omega
theorem up_lt {n : Nat} (hL : n.log2 ≤ 52) : n * 2 ^ (52 - n.log2) < 2 * 2 ^ 52 := by
  have h1 : n < 2 ^ (n.log2 + 1) := Nat.lt_log2_self
  have h2 : 2 ^ (n.log2 + 1) * 2 ^ (52 - n.log2) = 2 * 2 ^ 52 := by
    rw [← Nat.pow_add, show n.log2 + 1 + (52 - n.log2) = 52 + 1 by omega, Nat.pow_succ, Nat.mul_comm]
  rw [← h2]
  exact Nat.mul_lt_mul_of_pos_right h1 (Nat.two_pow_pos _)
theorem up_ge {n : Nat} (h0 : n ≠ 0) (hL : n.log2 ≤ 52) : 2 ^ 52 ≤ n * 2 ^ (52 - n.log2) := by
  have h1 : 2 ^ n.log2 ≤ n := Nat.log2_self_le h0
  have h2 : 2 ^ n.log2 * 2 ^ (52 - n.log2) = 2 ^ 52 := by
    rw [← Nat.pow_add, show n.log2 + (52 - n.log2) = 52 by omega]
  rw [← h2]
  exact Nat.mul_le_mul_right _ h1
theorem log_le {n : Nat} (h0 : n ≠ 0) (h : n < 2 ^ 53) : n.log2 ≤ 52 := by
  have := (Nat.log2_lt h0).2 h
  omega
theorem least : double.leastPlace = -1074 := by decide
theorem rungs : double.infRung = 2047 * 2 ^ 52 := by decide +kernel

theorem cut_none (n : Nat) : Toward.even.cut false n 0 = n := by
  simp [Toward.cut, Nat.mod_one]

theorem binade_eq : double.binade = 2 ^ 52 := rfl
theorem fraction_eq : double.fractionBits = 52 := rfl

theorem near_any (f : Format) (n B : Nat) (hf : f.fractionBits = 52) (hl : f.leastPlace = -1074) (hb : f.binade = B) (hr : f.infRung = 2047 * B) (h0 : n ≠ 0) (hL : n.log2 ≤ 52) (hup : n * 2 ^ (52 - n.log2) < 2 * B) : f.nearest false n 0 = (n.log2 + 1022) * B + n * 2 ^ (52 - n.log2) := by
  unfold Format.nearest
  rw [if_neg h0, hl, hr, hf, hb]
  have e1 : max ((0 : Int) + (n.log2 : Int) - ((52 : Nat) : Int)) (-1074) = (n.log2 : Int) - 52 := by omega
  have e2 : ((0 : Int) - ((n.log2 : Int) - 52)).toNat = 52 - n.log2 := by omega
  have e3 : ((n.log2 : Int) - 52 - 0).toNat = 0 := by omega
  have e4 : ((n.log2 : Int) - 52 - (-1074)).toNat = n.log2 + 1022 := by omega
  simp only [e1, e2, e3, e4, cut_none, Nat.shiftLeft_eq]
  rw [Nat.min_eq_left (lim1 hL hup)]
  rfl

theorem near (n : Nat) (h0 : n ≠ 0) (hL : n.log2 ≤ 52) : double.nearest false n 0 = (n.log2 + 1022) * 2 ^ 52 + n * 2 ^ (52 - n.log2) :=
  near_any double n (2 ^ 52) fraction_eq least binade_eq rungs h0 hL (up_lt hL)

theorem fw_pos {n : Nat} (h0 : n ≠ 0) (h : n < 2 ^ 53) : fwn n = (n.log2 + 1022) * 2 ^ 52 + n * 2 ^ (52 - n.log2) := by
  have hd : fwn n = double.nearest (decide ((n : Int) < 0)) (n : Int).natAbs 0 := rfl
  rw [hd, show decide ((n : Int) < 0) = false by simp, Int.natAbs_natCast, near n h0 (log_le h0 h)]

theorem read_any (L m B : Nat) (hL : L ≤ 52) (hB : 0 < B) (h1 : B ≤ m) (h2 : m < 2 * B) : ((L + 1022) * B + m) / (2048 * B) = 0 ∧ ((L + 1022) * B + m) % (2048 * B) = (L + 1022) * B + m ∧ ((L + 1022) * B + m) / B = L + 1023 ∧ ((L + 1022) * B + m) % B = m - B := by
  obtain ⟨r, rfl⟩ : ∃ r, m = B + r := ⟨m - B, by omega⟩
  have hr : r < B := by omega
  have h := Nat.mul_le_mul_right B (show L + 1022 ≤ 1074 by omega)
  have e : (L + 1022) * B + (B + r) = r + B * (L + 1023) := by
    rw [show L + 1023 = L + 1022 + 1 by omega, Nat.mul_add B, Nat.mul_one, Nat.mul_comm B]; omega
  refine ⟨Nat.div_eq_of_lt (by omega), Nat.mod_eq_of_lt (by omega), ?_, ?_⟩
  · rw [e, Nat.add_mul_div_left _ _ hB, Nat.div_eq_of_lt hr, Nat.zero_add]
  · rw [e, Nat.add_mul_mod_self_left, Nat.mod_eq_of_lt hr]; omega

theorem read_f (f : Format) (L m B : Nat) (hl : f.leastPlace = -1074) (hb : f.binade = B) (hr : f.infRung = 2047 * B) (hs : f.signWeight = 2048 * B) (hL : L ≤ 52) (hlo : B ≤ m) (hup : m < 2 * B) (hB : 0 < B) : f.read ((L + 1022) * B + m) = .number false m ((L : Int) - 52) := by
  unfold Format.read
  rw [hl, hr, hs, hb]
  obtain ⟨e1, e2, e3, e4⟩ := read_any L m B hL hB hlo hup
  have h5 := Nat.mul_le_mul_right B (show L + 1022 ≤ 1074 by omega)
  have h6 : ¬ ((L + 1022) * B + m < B) := by omega
  have h7 : (L + 1022) * B + m < 2047 * B := by omega
  simp only [e1, e2, e3, e4, if_neg h6, if_pos h7]
  have e5 : B + (m - B) = m := by omega
  have e6 : (-1074 : Int) + ((L + 1023 - 1 : Nat) : Int) = (L : Int) - 52 := by omega
  rw [e5, e6]
  rfl
theorem sign_eq : double.signWeight = 2048 * 2 ^ 52 := by decide +kernel

theorem read_fw {n : Nat} (h0 : n ≠ 0) (h : n < 2 ^ 53) : FloatKind.f64.decode (fwn n) = .number false (n * 2 ^ (52 - n.log2)) ((n.log2 : Int) - 52) := by
  rw [fw_pos h0 h]
  exact read_f double _ _ (2 ^ 52) least binade_eq rungs sign_eq (log_le h0 h) (up_ge h0 (log_le h0 h)) (up_lt (log_le h0 h)) (Nat.two_pow_pos _)

theorem toInt_fw {n : Nat} (h : n < 2 ^ 53) : (FloatKind.f64.decode (fwn n)).toInt .zero = some (n : Int) := by
  by_cases h0 : n = 0
  · subst h0; decide +kernel
  · have hL := log_le h0 h
    have hne : n * 2 ^ (52 - n.log2) ≠ 0 := Nat.mul_ne_zero h0 (Nat.pos_iff_ne_zero.1 (Nat.two_pow_pos _))
    have hlog : 52 - n.log2 ≤ (n * 2 ^ (52 - n.log2)).log2 := (Nat.le_log2 hne).2 (Nat.le_mul_of_pos_left _ (Nat.pos_of_ne_zero h0))
    rw [read_fw h0 h]
    unfold Datum.toInt Datum.integral
    simp only []
    have e1 : ((n.log2 : Int) - 52).toNat = 0 := by omega
    have e2 : (-((n.log2 : Int) - 52)).toNat = 52 - n.log2 := by omega
    rw [e1, e2, Nat.shiftLeft_zero]
    have hc : Toward.zero.cut false (n * 2 ^ (52 - n.log2)) (52 - n.log2) = n := by
      unfold Toward.cut
      rw [Nat.min_eq_left (by omega), Nat.shiftLeft_eq, Nat.one_mul]
      simp only [Nat.mul_div_cancel _ (Nat.two_pow_pos (52 - n.log2))]
      rfl
    rw [hc]
    simp [signed]

theorem read_ex {n : Nat} (h : n < 2 ^ 53) : ∃ p : Nat, FloatKind.f64.decode (fwn n) = .number false (n * 2 ^ p) (-(p : Int)) := by
  by_cases h0 : n = 0
  · subst h0
    exact ⟨1074, by decide +kernel⟩
  · refine ⟨52 - n.log2, ?_⟩
    rw [read_fw h0 h]
    have := log_le h0 h
    congr 1
    omega
theorem shl_pow (n p q : Nat) (h : p ≤ q) : (n * 2 ^ p) <<< (q - p) = n * 2 ^ q := by
  rw [Nat.shiftLeft_eq, Nat.mul_assoc, ← Nat.pow_add, show p + (q - p) = q by omega]
theorem order_any (n p m q : Nat) : Datum.order (.number false (n * 2 ^ p) (-(p : Int))) (.number false (m * 2 ^ q) (-(q : Int))) = some (compare ((n * 2 ^ max p q : Nat) : Int) ((m * 2 ^ max p q : Nat) : Int)) := by
  unfold Datum.order
  simp only []
  have e0 : min (-(p : Int)) (-(q : Int)) = -((max p q : Nat) : Int) := by omega
  have e1 : (-(p : Int) - -((max p q : Nat) : Int)).toNat = max p q - p := by omega
  have e2 : (-(q : Int) - -((max p q : Nat) : Int)).toNat = max p q - q := by omega
  rw [e0, e1, e2]
  unfold signed
  rw [shl_pow n p _ (by omega), shl_pow m q _ (by omega)]
  rfl
theorem order_fw {n m : Nat} (hn : n < 2 ^ 53) (hm : m < 2 ^ 53) : (FloatKind.f64.format.order (fwn n) (fwn m) == some .eq) = decide (n = m) := by
  obtain ⟨p, hp⟩ := read_ex hn
  obtain ⟨q, hq⟩ := read_ex hm
  have hd : FloatKind.f64.format.order (fwn n) (fwn m) = (FloatKind.f64.decode (fwn n)).order (FloatKind.f64.decode (fwn m)) := rfl
  rw [hd, hp, hq, order_any]
  by_cases h : n = m
  · subst h
    simp
  · have hne : ((n * 2 ^ max p q : Nat) : Int) ≠ ((m * 2 ^ max p q : Nat) : Int) := by
      intro he
      have h2 : n * 2 ^ max p q = m * 2 ^ max p q := by omega
      exact h (Nat.eq_of_mul_eq_mul_right (Nat.two_pow_pos _) h2)
    rw [decide_eq_false h]
    have hc : compare ((n * 2 ^ max p q : Nat) : Int) ((m * 2 ^ max p q : Nat) : Int) ≠ .eq := fun hc => hne (Int.compare_eq_eq.1 hc)
    simpa using hc

/-- a number, brought between 0 and the last code point -/
def cl (x : Int) : Int := max 0 (min x 1114111)
/-- the word of a number in a set -/
def fw (x : Int) : Nat := FloatKind.f64.nearest (cl x)
theorem cl_bd (x : Int) : 0 ≤ cl x ∧ cl x ≤ 1114111 := by unfold cl; omega
theorem cl_id {x : Int} (h0 : 0 ≤ x) (h1 : x ≤ 1114111) : cl x = x := by unfold cl; omega
theorem fw_eq (x : Int) : fw x = fwn (cl x).toNat := by
  unfold fw fwn
  rw [Int.toNat_of_nonneg (cl_bd x).1]
theorem small (x : Int) : (cl x).toNat < 2 ^ 53 := by
  have := cl_bd x
  omega
theorem fw_int (x : Int) : (FloatKind.f64.decode (fw x)).toInt .zero = some (cl x) := by
  rw [fw_eq, toInt_fw (small x), Int.toNat_of_nonneg (cl_bd x).1]
theorem fw_ord (x y : Int) : (FloatKind.f64.format.order (fw x) (fw y) == some .eq) = decide (cl x = cl y) := by
  rw [fw_eq, fw_eq, order_fw (small x) (small y)]
  have hx := cl_bd x
  have hy := cl_bd y
  by_cases h : cl x = cl y
  · simp [h]
  · rw [decide_eq_false h, decide_eq_false (by omega)]
theorem fw_near {x : Int} (h0 : 0 ≤ x) (h1 : x ≤ 1114111) : FloatKind.f64.nearest x = fw x := by
  unfold fw
  rw [cl_id h0 h1]
end Go.Proofs.YtgdhhpbpbkgmeaaDoor.flt
