/- T -/
import Derived.Test.YtnpcombfgdbhkaaDoorBPs20
set_option maxHeartbeats 16000000
set_option maxRecDepth 1000000
section
namespace Go.Proofs.YtnpcombfgdbhkaaDoor.psl
open sq
open Go tkp trp rpp rtp
open tkw (sg sg_bd)
open utfw (strOf)
theorem s_left {A B : ByteArray} {i : Nat} (h : i < A.size) : sg (A ++ B) i = sg A i := by
 have h' : i < A.data.toList.length := by simpa using h
 unfold sg;have : (A ++ B).data.toList = A.data.toList ++ B.data.toList := by simp [ByteArray.data_append]
 rw [this, List.getD_eq_getElem?_getD, List.getElem?_append_left h', List.getD_eq_getElem?_getD]
theorem s_right {A B : ByteArray} {i j : Nat} (h : i = A.size + j) : sg (A ++ B) i = sg B j := by
 have h' : A.data.toList.length = A.size := by simp
 unfold sg;have : (A ++ B).data.toList = A.data.toList ++ B.data.toList := by simp [ByteArray.data_append]
 rw [this, List.getD_eq_getElem?_getD, List.getElem?_append_right (by omega), List.getD_eq_getElem?_getD, show i - A.data.toList.length = j by omega]
theorem s_end {A : ByteArray} {i : Nat} (h : A.size ≤ i) : sg A i = 0 := by
 have h' : A.data.toList.length ≤ i := by simpa using h
 unfold sg;rw [List.getD_eq_getElem?_getD, List.getElem?_eq_none h'];rfl
theorem s_str {n : Nat} {g : Nat → Int} (hg : ∀ i, 0 ≤ g i ∧ g i ≤ 255) {i : Nat} (hi : i < n) : sg (strOf n g) i = g i := by
 have e : (strOf n g).data.toList[i]? = some (UInt8.ofNat (g i).toNat) := by unfold strOf;simp [strOfNums, hi]
 unfold sg;rw [List.getD_eq_getElem?_getD, e];have := hg i;simp only [Option.getD_some];have h2 : (UInt8.ofNat (g i).toNat).toNat = (g i).toNat := by rw [UInt8.toNat_ofNat'];omega
 omega
def textG (g : Nat → Int) (n : Nat) : R F := match rlexP g n 0 with
 | .error x => .error x
 | .ok T => parseP T n
theorem text_g (s : ByteArray) : textP s = textG (sg s) s.size := by
 have e : sg (strOf s.size (sg s)) = sg s := funext fun i => by
  by_cases h : i < s.size
  ·exact s_str (sg_bd s) h
  ·rw [s_end (by rw [strOf_size]; omega), s_end (by omega)]
 unfold textP textG;rw [e];cases rlexP (sg s) s.size 0 <;> rfl
def catN (o : ByteArray) : Nat → ByteArray → ByteArray
 | 0, s => s
 | k + 1, s => catN o k s ++ o
theorem cat_size (o s : ByteArray) : ∀ k, (catN o k s).size = s.size + o.size * k
 | 0 => by simp [catN]
 | k + 1 => by rw [catN, ByteArray.size_append, cat_size o s k, Nat.mul_succ]; omega
theorem cat_0 (o s : ByteArray) {i : Nat} (h : i < s.size) : ∀ k, sg (catN o k s) i = sg s i
 | 0 => rfl
 | k + 1 => by rw [catN, s_left (by rw [cat_size]; omega), cat_0 o s h k]
theorem cat_g (o s : ByteArray) : ∀ k i, i < o.size * k → sg (catN o k s) (s.size + i) = sg o (i % o.size)
 | 0, i, h => by omega
 | k + 1, i, h => by
  rw [catN];by_cases h1 : i < o.size * k
  ·rw [s_left (by rw [cat_size]; omega), cat_g o s k i h1]
  ·rw [Nat.mul_succ] at h;obtain ⟨j, rfl⟩ : ∃ j, i = o.size * k + j := ⟨i - o.size * k, by omega⟩;rw [s_right (j := j) (by rw [cat_size]; omega), Nat.mul_add_mod, Nat.mod_eq_of_lt (by omega)]
def opS : Nat → ByteArray
 | 0 => ⟨#[40]⟩
 | 1 => ⟨#[40, 63, 58]⟩
 | 2 => ⟨#[40, 63, 61]⟩
 | 3 => ⟨#[40, 63, 62]⟩
 | _ => ⟨#[40, 63, 124]⟩
def deepS (O : ByteArray) (n : Nat) : ByteArray := catN ⟨#[41]⟩ n (catN O n ⟨#[]⟩ ++ ⟨#[97]⟩)
def deepG (O : ByteArray) (n : Nat) (i : Nat) : Int := if i < O.size * n then sg O (i % O.size) else if i = O.size * n then 97 else if i < O.size * n + 1 + n then 41 else 0
theorem deep_size (O : ByteArray) (n : Nat) : (deepS O n).size = O.size * n + 1 + n := by have e1 : (⟨#[41]⟩ : ByteArray).size = 1 := rfl;have e2 : (⟨#[97]⟩ : ByteArray).size = 1 := rfl;have e3 : (⟨#[]⟩ : ByteArray).size = 0 := rfl;unfold deepS;rw [cat_size, ByteArray.size_append, cat_size, e1, e2, e3];omega
theorem deep_g (O : ByteArray) (n : Nat) : sg (deepS O n) = deepG O n := funext fun i => by
 have hz : (catN O n ⟨#[]⟩).size = O.size * n := by rw [cat_size]; exact Nat.zero_add _
 have hz2 : (catN O n ⟨#[]⟩ ++ ⟨#[97]⟩).size = O.size * n + 1 := by rw [ByteArray.size_append, hz]; rfl
 have e1 : (⟨#[41]⟩ : ByteArray).size = 1 := rfl;unfold deepG;by_cases h1 : i < O.size * n
 ·rw [if_pos h1];unfold deepS;rw [cat_0 _ _ (by omega), s_left (by omega)];have := cat_g O ⟨#[]⟩ n i h1;rwa [show (⟨#[]⟩ : ByteArray).size + i = i from Nat.zero_add i] at this
 rw [if_neg h1];by_cases h2 : i = O.size * n
 ·rw [if_pos h2];unfold deepS;rw [cat_0 _ _ (by omega), s_right (j := 0) (by omega)];rfl
 rw [if_neg h2];by_cases h3 : i < O.size * n + 1 + n
 ·rw [if_pos h3];obtain ⟨j, rfl⟩ : ∃ j, i = (O.size * n + 1) + j := ⟨i - (O.size * n + 1), by omega⟩;unfold deepS;have := cat_g ⟨#[41]⟩ (catN O n ⟨#[]⟩ ++ ⟨#[97]⟩) n j (by rw [e1]; omega);rw [hz2] at this;rw [this, e1, Nat.mod_one];rfl
 ·rw [if_neg h3, s_end (by rw [deep_size]; omega)]
def okP : R F → Bool
 | .ok _ => true
 | _ => false
def deepB (w n : Nat) : Bool := if 40 < n then erP 11 (40 * (opS w).size) (textG (deepG (opS w) n) ((opS w).size * n + 1 + n)) else okP (textG (deepG (opS w) n) ((opS w).size * n + 1 + n))
end Go.Proofs.YtnpcombfgdbhkaaDoor.psl
end
