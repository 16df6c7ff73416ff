/- Texts that TokensCountsLaw leans on, merged: what the functions of the program answer. -/
import Derived.BigQuiet
import Derived.Lib.QuietBelow
import Derived.Test.YtpjmclhnnogppaaGreatDoorBCnt24
section
namespace Go.Proofs.YtpjmclhnnogppaaGreatDoor.tkw
open Go.Sort Go Go.RowKit Go.Maps utfp utfw ucdp setp setw prp tkp
theorem bs_app (a b : List UInt8) : (⟨a.toArray⟩ : ByteArray) ++ ⟨b.toArray⟩ = ⟨(a ++ b).toArray⟩ := by
 apply ByteArray.ext
 rw [ByteArray.data_append]
 simp
theorem lex_str (w : World) (S : ByteArray) (l : List UInt8) (hS : S = ⟨l.toArray⟩) (hl : l.length ≤ 1000) (o : Int) (hG : Glo w) : (convert 9 22 (.string S)).run Tryz.prog w = .ok (.slice (some ⟨w.heap.size, 0, none⟩) S.size (grownCap w S.size 0 5)) (Lib.bytesWorld w 5 S) ∧ Below w.heap.size w (Lib.bytesWorld w 5 S) ∧
   Calls Tryz.prog 8 #[.slice (some ⟨w.heap.size, 0, none⟩) S.size (grownCap w S.size 0 5), .int .i64 o] (Lib.bytesWorld w 5 S) (ReadB (Lib.bytesWorld w 5 S) (lexP (sgL l) l.length o)) := by
 have hz : S.size = l.length := by rw [hS]; simp [ByteArray.size]
 have hg : sg S = sgL l := by rw [hS]; rfl
 obtain ⟨h1, h2⟩ := conv_bs w S (by omega)
 refine ⟨h1, below_bw w S, ?_⟩
 have := lex_any _ _ _ o _ h2 (glo_below hG (below_bw w S))
 rw [hg, hz] at this
 rw [hz]
 exact this
def DigPost (l : List UInt8) (w : World) (e : Ending) (w' : World) : Prop := e = .returned (.string ⟨l.toArray⟩) ∧ w = w'
theorem dec_small {k n : Nat} (h : n < 10) : decF k n = [UInt8.ofNat (48 + n)] := by
 cases k with
 | zero => rfl
 | succ k => unfold decF; rw [if_pos h]
theorem digit_any (n : Nat) (h : n < 10) (w : World) : Calls Tryz.prog 11 #[.int .i64 n] w (DigPost [UInt8.ofNat (48 + n)] w) := by
 have hn : n = 0 ∨ n = 1 ∨ n = 2 ∨ n = 3 ∨ n = 4 ∨ n = 5 ∨ n = 6 ∨ n = 7 ∨ n = 8 ∨ n = 9 := by omega
 rcases hn with rfl | rfl | rfl | rfl | rfl | rfl | rfl | rfl | rfl | rfl
 all_goals
   clear h
   go_enter Tryz.func11, Tryz.ntmps11
   go_wp2
   go_ret
   exact ⟨rfl, rfl⟩
set_option maxRecDepth 100000 in
set_option maxHeartbeats 1000000 in
theorem lawdig_any : ∀ (k n : Nat), k ≤ 10 → n < 10 ^ (k + 1) → n ≤ 99999 → ∀ w, Calls Tryz.prog 11 #[.int .i64 n] w (DigPost (decF k n) w)
 | 0, n, _, h, _, w => digit_any n (by omega) w
 | k + 1, n, hk, h, h9, w => by
   by_cases h10 : n < 10
   · rw [dec_small h10]
     exact digit_any n h10 w
   · have I1 := Lib.hid (lawdig_any k (n / 10) (by omega) (by rw [Nat.pow_succ] at h; omega) (by omega) w)
     have I2 := Lib.hid (digit_any (n % 10) (by omega) w)
     have HB := Lib.hid (bs_app (decF k (n / 10)) [UInt8.ofNat (48 + n % 10)])
     have HD := Lib.hid (show decF (k + 1) n = decF k (n / 10) ++ [UInt8.ofNat (48 + n % 10)] by rw [decF, if_neg h10])
     have hq : (n : Int).tdiv 10 = ((n / 10 : Nat) : Int) := by rw [Int.tdiv_eq_ediv_of_nonneg (by omega)]; omega
     have hr : (n : Int).tmod 10 = ((n % 10 : Nat) : Int) := by rw [Int.tmod_eq_emod_of_nonneg (by omega)]; omega
     have hI : ¬ (n : Int) < 10 := by omega
     have hqb : n / 10 ≤ 99999 := by omega
     have hrb : n % 10 < 10 := by omega
     have h10k : n / 10 < 10 ^ (k + 1) := by rw [Nat.pow_succ] at h; omega
     clear h
     generalize n / 10 = q at *
     generalize n % 10 = r at *
     have y1 : ByteArray.size ⟨(decF k q).toArray⟩ ≤ 1000 := by
       have := (dec_ok k q h10k).2.2.1
       simp [ByteArray.size]
       omega
     have y2 : ByteArray.size ⟨[UInt8.ofNat (48 + r)].toArray⟩ ≤ 1000 := by simp [ByteArray.size]
     generalize [UInt8.ofNat (48 + r)] = lr at *
     generalize decF k q = lq at *
     go_enter Tryz.func11, Tryz.ntmps11
     go_wp2_with fail
     refine I1.out.mono ?_
     rintro e w1 ⟨rfl, rfl⟩
     go_wp2_with fail
     refine I2.out.mono ?_
     rintro e w2 ⟨rfl, rfl⟩
     go_wp2_with fail
     go_ret
     exact ⟨by rw [HD.out]; rfl, rfl⟩
theorem counts_facts {n m : Nat} (hn : n ≤ 99999) (hm : m ≤ 99999) (E : ByteArray) (el : List UInt8) (md : Int) (hE : E = ⟨el.toArray⟩) (he : EndM el md) (w : World) (HGl : ∀ w1, Below w.heap.size w w1 → Glo w1) : ∃ d1 d2 : List UInt8, (∀ w, Calls Tryz.prog 11 #[.int .i64 n] w (DigPost d1 w)) ∧ (∀ w, Calls Tryz.prog 11 #[.int .i64 m] w (DigPost d2 w)) ∧ ByteArray.size (⟨#[97, 123]⟩ : ByteArray) ≤ 1000 ∧ ByteArray.size (⟨d1.toArray⟩ : ByteArray) ≤ 1000 ∧ ByteArray.size (⟨d2.toArray⟩ : ByteArray) ≤ 1000 ∧ ByteArray.size (⟨#[44]⟩ : ByteArray) ≤ 1000 ∧ ByteArray.size (⟨#[125]⟩ : ByteArray) ≤ 1000 ∧ ByteArray.size (⟨#[44, 125]⟩ : ByteArray) ≤ 1000 ∧ ByteArray.size ((⟨#[97, 123]⟩ : ByteArray) ++ ⟨d1.toArray⟩) ≤ 1000 ∧ ByteArray.size (((⟨#[97, 123]⟩ : ByteArray) ++ ⟨d1.toArray⟩) ++ ⟨#[44]⟩) ≤ 1000 ∧ ByteArray.size ((((⟨#[97, 123]⟩ : ByteArray) ++ ⟨d1.toArray⟩) ++ ⟨#[44]⟩) ++ ⟨d2.toArray⟩) ≤ 1000 ∧ ByteArray.size (((((⟨#[97, 123]⟩ : ByteArray) ++ ⟨d1.toArray⟩) ++ ⟨#[44]⟩) ++ ⟨d2.toArray⟩) ++ ⟨#[125]⟩) ≤ 1000 ∧ ByteArray.size (((⟨#[97, 123]⟩ : ByteArray) ++ ⟨d1.toArray⟩) ++ ⟨#[44, 125]⟩) ≤ 1000 ∧ ByteArray.size E ≤ 1000 ∧ ByteArray.size ((((((⟨#[97, 123]⟩ : ByteArray) ++ ⟨d1.toArray⟩) ++ ⟨#[44]⟩) ++ ⟨d2.toArray⟩) ++ ⟨#[125]⟩) ++ E) = 2 + d1.length + 1 + d2.length + 1 + el.length ∧ ByteArray.size ((((⟨#[97, 123]⟩ : ByteArray) ++ ⟨d1.toArray⟩) ++ ⟨#[44, 125]⟩) ++ E) = 2 + d1.length + 2 + el.length ∧ (∀ w1, Below w.heap.size w w1 → ((convert 9 22 (.string ((((((⟨#[97, 123]⟩ : ByteArray) ++ ⟨d1.toArray⟩) ++ ⟨#[44]⟩) ++ ⟨d2.toArray⟩) ++ ⟨#[125]⟩) ++ E))).run Tryz.prog w1 = .ok (.slice (some ⟨w1.heap.size, 0, none⟩) (ByteArray.size ((((((⟨#[97, 123]⟩ : ByteArray) ++ ⟨d1.toArray⟩) ++ ⟨#[44]⟩) ++ ⟨d2.toArray⟩) ++ ⟨#[125]⟩) ++ E)) (grownCap w1 (ByteArray.size ((((((⟨#[97, 123]⟩ : ByteArray) ++ ⟨d1.toArray⟩) ++ ⟨#[44]⟩) ++ ⟨d2.toArray⟩) ++ ⟨#[125]⟩) ++ E)) 0 5)) (Lib.bytesWorld w1 5 ((((((⟨#[97, 123]⟩ : ByteArray) ++ ⟨d1.toArray⟩) ++ ⟨#[44]⟩) ++ ⟨d2.toArray⟩) ++ ⟨#[125]⟩) ++ E)) ∧ Below w1.heap.size w1 (Lib.bytesWorld w1 5 ((((((⟨#[97, 123]⟩ : ByteArray) ++ ⟨d1.toArray⟩) ++ ⟨#[44]⟩) ++ ⟨d2.toArray⟩) ++ ⟨#[125]⟩) ++ E)) ∧ Calls Tryz.prog 8 #[.slice (some ⟨w1.heap.size, 0, none⟩) (ByteArray.size ((((((⟨#[97, 123]⟩ : ByteArray) ++ ⟨d1.toArray⟩) ++ ⟨#[44]⟩) ++ ⟨d2.toArray⟩) ++ ⟨#[125]⟩) ++ E)) (grownCap w1 (ByteArray.size ((((((⟨#[97, 123]⟩ : ByteArray) ++ ⟨d1.toArray⟩) ++ ⟨#[44]⟩) ++ ⟨d2.toArray⟩) ++ ⟨#[125]⟩) ++ E)) 0 5), .int .i64 0] (Lib.bytesWorld w1 5 ((((((⟨#[97, 123]⟩ : ByteArray) ++ ⟨d1.toArray⟩) ++ ⟨#[44]⟩) ++ ⟨d2.toArray⟩) ++ ⟨#[125]⟩) ++ E)) (ReadB (Lib.bytesWorld w1 5 ((((((⟨#[97, 123]⟩ : ByteArray) ++ ⟨d1.toArray⟩) ++ ⟨#[44]⟩) ++ ⟨d2.toArray⟩) ++ ⟨#[125]⟩) ++ E)) (lexP (sgL (97 :: 123 :: (d1 ++ 44 :: (d2 ++ 125 :: el)))) (97 :: 123 :: (d1 ++ 44 :: (d2 ++ 125 :: el))).length 0)))) ∧ (∀ w1, Below w.heap.size w w1 → ((convert 9 22 (.string ((((⟨#[97, 123]⟩ : ByteArray) ++ ⟨d1.toArray⟩) ++ ⟨#[44, 125]⟩) ++ E))).run Tryz.prog w1 = .ok (.slice (some ⟨w1.heap.size, 0, none⟩) (ByteArray.size ((((⟨#[97, 123]⟩ : ByteArray) ++ ⟨d1.toArray⟩) ++ ⟨#[44, 125]⟩) ++ E)) (grownCap w1 (ByteArray.size ((((⟨#[97, 123]⟩ : ByteArray) ++ ⟨d1.toArray⟩) ++ ⟨#[44, 125]⟩) ++ E)) 0 5)) (Lib.bytesWorld w1 5 ((((⟨#[97, 123]⟩ : ByteArray) ++ ⟨d1.toArray⟩) ++ ⟨#[44, 125]⟩) ++ E)) ∧ Below w1.heap.size w1 (Lib.bytesWorld w1 5 ((((⟨#[97, 123]⟩ : ByteArray) ++ ⟨d1.toArray⟩) ++ ⟨#[44, 125]⟩) ++ E)) ∧ Calls Tryz.prog 8 #[.slice (some ⟨w1.heap.size, 0, none⟩) (ByteArray.size ((((⟨#[97, 123]⟩ : ByteArray) ++ ⟨d1.toArray⟩) ++ ⟨#[44, 125]⟩) ++ E)) (grownCap w1 (ByteArray.size ((((⟨#[97, 123]⟩ : ByteArray) ++ ⟨d1.toArray⟩) ++ ⟨#[44, 125]⟩) ++ E)) 0 5), .int .i64 0] (Lib.bytesWorld w1 5 ((((⟨#[97, 123]⟩ : ByteArray) ++ ⟨d1.toArray⟩) ++ ⟨#[44, 125]⟩) ++ E)) (ReadB (Lib.bytesWorld w1 5 ((((⟨#[97, 123]⟩ : ByteArray) ++ ⟨d1.toArray⟩) ++ ⟨#[44, 125]⟩) ++ E)) (lexP (sgL (97 :: 123 :: (d1 ++ 44 :: 125 :: el))) (97 :: 123 :: (d1 ++ 44 :: 125 :: el)).length 0)))) ∧ ((255 < n ∨ 255 < m → lexP (sgL (97 :: 123 :: (d1 ++ 44 :: (d2 ++ 125 :: el)))) (97 :: 123 :: (d1 ++ 44 :: (d2 ++ 125 :: el))).length 0 = .error (25, 1)) ∧ (¬ (255 < n ∨ 255 < m) → m < n → lexP (sgL (97 :: 123 :: (d1 ++ 44 :: (d2 ++ 125 :: el)))) (97 :: 123 :: (d1 ++ 44 :: (d2 ++ 125 :: el))).length 0 = .error (23, 1)) ∧ (¬ (255 < n ∨ 255 < m) → ¬ m < n → lexP (sgL (97 :: 123 :: (d1 ++ 44 :: (d2 ++ 125 :: el)))) (97 :: 123 :: (d1 ++ 44 :: (d2 ++ 125 :: el))).length 0 = .ok [litT (ptOf (sgL (97 :: 123 :: (d1 ++ 44 :: (d2 ++ 125 :: el)))) (97 :: 123 :: (d1 ++ 44 :: (d2 ++ 125 :: el))).length 0) 0, lay { kind := 9, n := n, m := m, mode := md } 1 (97 :: 123 :: (d1 ++ 44 :: (d2 ++ 125 :: el))).length])) ∧ ((255 < n → lexP (sgL (97 :: 123 :: (d1 ++ 44 :: 125 :: el))) (97 :: 123 :: (d1 ++ 44 :: 125 :: el)).length 0 = .error (25, 1)) ∧ (¬ 255 < n → lexP (sgL (97 :: 123 :: (d1 ++ 44 :: 125 :: el))) (97 :: 123 :: (d1 ++ 44 :: 125 :: el)).length 0 = .ok [litT (ptOf (sgL (97 :: 123 :: (d1 ++ 44 :: 125 :: el))) (97 :: 123 :: (d1 ++ 44 :: 125 :: el)).length 0) 0, lay { kind := 9, n := n, m := -1, mode := md } 1 (97 :: 123 :: (d1 ++ 44 :: 125 :: el)).length])) := by
 obtain ⟨p0, p⟩ := counts_two (n := n) (m := m) hn hm he rfl
 obtain ⟨o0, o⟩ := counts_open (n := n) hn he rfl
 have l1 := (dec_ok 4 n (by omega)).2.2.1
 have l2 := (dec_ok 4 m (by omega)).2.2.1
 have l3 : el.length ≤ 1 := by rcases he with ⟨rfl, _⟩ | ⟨rfl, _⟩ | ⟨rfl, _⟩ <;> simp
 have hz : E.size = el.length := by rw [hE]; simp [ByteArray.size]
 refine ⟨decF 4 n, decF 4 m, fun w => lawdig_any 4 n (by omega) (by omega) hn w, fun w => lawdig_any 4 m (by omega) (by omega) hm w, ?_, ?_, ?_, ?_, ?_, ?_, ?_, ?_, ?_, ?_, ?_, by omega, ?_, ?_, fun w1 hb => lex_str w1 _ _ (by rw [show (⟨#[97, 123]⟩ : ByteArray) = ⟨[97, 123].toArray⟩ from rfl, show (⟨#[44]⟩ : ByteArray) = ⟨[44].toArray⟩ from rfl, show (⟨#[125]⟩ : ByteArray) = ⟨[125].toArray⟩ from rfl, hE]; simp only [bs_app, List.append_assoc, List.cons_append, List.nil_append]) p0 0 (HGl w1 hb), fun w1 hb => lex_str w1 _ _ (by rw [show (⟨#[97, 123]⟩ : ByteArray) = ⟨[97, 123].toArray⟩ from rfl, show (⟨#[44, 125]⟩ : ByteArray) = ⟨[44, 125].toArray⟩ from rfl, hE]; simp only [bs_app, List.append_assoc, List.cons_append, List.nil_append]) o0 0 (HGl w1 hb), p, o⟩
 all_goals (generalize decF 4 n = d1 at *; generalize decF 4 m = d2 at *; clear p0 p o0 o hE)
 all_goals first | (simp only [ByteArray.size_append, hz]; simp only [ByteArray.size, List.size_toArray, List.length_cons, List.length_nil]; omega) | (simp only [ByteArray.size_append, hz]; simp only [ByteArray.size, List.size_toArray, List.length_cons, List.length_nil]; done) | (simp [ByteArray.size] <;> omega)
def ModeOf (z : Int) (E : ByteArray) (el : List UInt8) (md : Int) : Prop :=
 (¬ z < 0 ∧ z.tmod 3 = 0 ∧ E = ⟨#[]⟩ ∧ el = [] ∧ md = 0) ∨ (¬ z < 0 ∧ z.tmod 3 = 1 ∧ E = ⟨#[63]⟩ ∧ el = [63] ∧ md = 1) ∨ (¬ z < 0 ∧ z.tmod 3 = 2 ∧ E = ⟨#[43]⟩ ∧ el = [43] ∧ md = 2) ∨
 (z < 0 ∧ (-(z + 1)).tmod 3 = 0 ∧ E = ⟨#[]⟩ ∧ el = [] ∧ md = 0) ∨ (z < 0 ∧ (-(z + 1)).tmod 3 = 1 ∧ E = ⟨#[63]⟩ ∧ el = [63] ∧ md = 1) ∨ (z < 0 ∧ (-(z + 1)).tmod 3 = 2 ∧ E = ⟨#[43]⟩ ∧ el = [43] ∧ md = 2)
theorem ModeOf.str {z : Int} {E : ByteArray} {el : List UInt8} {md : Int} (h : ModeOf z E el md) : E = ⟨el.toArray⟩ := by
 rcases h with ⟨_, _, rfl, rfl, _⟩ | ⟨_, _, rfl, rfl, _⟩ | ⟨_, _, rfl, rfl, _⟩ | ⟨_, _, rfl, rfl, _⟩ | ⟨_, _, rfl, rfl, _⟩ | ⟨_, _, rfl, rfl, _⟩ <;> rfl
theorem ModeOf.fin {z : Int} {E : ByteArray} {el : List UInt8} {md : Int} (h : ModeOf z E el md) : EndM el md := by
 unfold EndM
 rcases h with ⟨_, _, _, rfl, rfl⟩ | ⟨_, _, _, rfl, rfl⟩ | ⟨_, _, _, rfl, rfl⟩ | ⟨_, _, _, rfl, rfl⟩ | ⟨_, _, _, rfl, rfl⟩ | ⟨_, _, _, rfl, rfl⟩ <;> simp
theorem mode_of (z : Int) : ∃ E el md, ModeOf z E el md := by
 unfold ModeOf
 by_cases hz : z < 0
 · have h3 : (-(z + 1)).tmod 3 = 0 ∨ (-(z + 1)).tmod 3 = 1 ∨ (-(z + 1)).tmod 3 = 2 := by rw [Int.tmod_eq_emod_of_nonneg (by omega)]; omega
   rcases h3 with h3 | h3 | h3
   · exact ⟨_, _, _, Or.inr (Or.inr (Or.inr (Or.inl ⟨hz, h3, rfl, rfl, rfl⟩)))⟩
   · exact ⟨_, _, _, Or.inr (Or.inr (Or.inr (Or.inr (Or.inl ⟨hz, h3, rfl, rfl, rfl⟩))))⟩
   · exact ⟨_, _, _, Or.inr (Or.inr (Or.inr (Or.inr (Or.inr ⟨hz, h3, rfl, rfl, rfl⟩))))⟩
 · have h3 : z.tmod 3 = 0 ∨ z.tmod 3 = 1 ∨ z.tmod 3 = 2 := by rw [Int.tmod_eq_emod_of_nonneg (by omega)]; omega
   rcases h3 with h3 | h3 | h3
   · exact ⟨_, _, _, Or.inl ⟨hz, h3, rfl, rfl, rfl⟩⟩
   · exact ⟨_, _, _, Or.inr (Or.inl ⟨hz, h3, rfl, rfl, rfl⟩)⟩
   · exact ⟨_, _, _, Or.inr (Or.inr (Or.inl ⟨hz, h3, rfl, rfl, rfl⟩))⟩
set_option maxRecDepth 100000 in
set_option maxHeartbeats 8000000 in
theorem counts_one (n m : Nat) (z : Int) (w : World) (hn : n ≤ 99999) (hm : m ≤ 99999) (z0 : -9223372036854775808 ≤ z) (z1 : z ≤ 9223372036854775807) (hc : 255 < n) (E : ByteArray) (el : List UInt8) (md : Int) (hE : ModeOf z E el md) (HA : Hid (Calls Tryz.prog 7 #[] w (BoolB true w))) (HGl : Hid (∀ w1, Below w.heap.size w w1 → Glo w1)) : Calls Tryz.prog 6 #[.int .i64 n, .int .i64 m, .int .i64 z] w (BoolB true w) := by
 obtain ⟨d1, d2, D1', D2', y0, y1, y2, y3, y4, y5, y6, y7, y8, y9, y10, y11, z1', z2', LS1', LS2', ⟨p1, p2, p3⟩, o1, o2⟩ := counts_facts (n := n) (m := m) hn hm E el md hE.str hE.fin w HGl.out
 have D1 := Lib.hid D1'
 have D2 := Lib.hid D2'
 have LS1 := Lib.hid LS1'
 have LS2 := Lib.hid LS2'
 have X1 := Lib.hid (p1 (Or.inl hc))
 have X2 := Lib.hid (o1 hc)
 have i1 : (255 : Int) < (n : Int) := by omega
 clear D1' D2' LS1' LS2'
 rcases hE with ⟨hz, ht, rfl, hel, hmd⟩ | ⟨hz, ht, rfl, hel, hmd⟩ | ⟨hz, ht, rfl, hel, hmd⟩ | ⟨hz, ht, rfl, hel, hmd⟩ | ⟨hz, ht, rfl, hel, hmd⟩ | ⟨hz, ht, rfl, hel, hmd⟩
 all_goals
   rw [hel] at z1' z2'
   simp only [List.length_nil, List.length_cons, Nat.add_zero, Nat.zero_add] at z1' z2'
   have HZ1 := Lib.hid z1'
   have HZ2 := Lib.hid z2'
   clear z1' z2' hel
   clear p1 p2 p3 o1 o2
   go_enter Tryz.func6, Tryz.ntmps6
   go_wp2_with fail
   refine HA.out.mono ?_
   rintro e w1 ⟨rfl, hb1⟩
   go_wp2_with fail
   refine (D1.out _).mono ?_
   rintro e w2 ⟨rfl, rfl⟩
   have hb2 := below_trans hb1 (below_al w1 (.cells #[.string ⟨#[]⟩, .string ⟨#[63]⟩, .string ⟨#[43]⟩] 9))
   obtain ⟨cv1, cb1, cl1⟩ := LS1.out _ hb2
   rw [X1.out] at cl1
   simp only [HZ1.out, World.size_alloc] at cl1
   have CL1 := Lib.hid cl1
   have CB1 := Lib.hid cb1
   clear cl1 cb1
   go_wp2_with fail
   refine (D2.out _).mono ?_
   rintro e w3 ⟨rfl, rfl⟩
   go_wp2_with fail
   refine CL1.out.mono ?_
   rintro e w4 ⟨hb4, rfl⟩
   have hw4 := below_trans hb2 (below_trans CB1.out hb4)
   obtain ⟨cv2, cb2, cl2⟩ := LS2.out _ hw4
   rw [X2.out] at cl2
   simp only [HZ2.out] at cl2
   have CL2 := Lib.hid cl2
   have CB2 := Lib.hid cb2
   clear cl2 cb2 cv1
   go_wp2_with fail
   refine (D1.out _).mono ?_
   rintro e w5 ⟨rfl, rfl⟩
   go_wp2_with fail
   refine CL2.out.mono ?_
   rintro e w6 ⟨hb6, rfl⟩
   have hw6 := below_trans hw4 (below_trans CB2.out hb6)
   go_wp2_with fail
   go_ret
   first | exact ⟨rfl, hw6⟩ | (refine ⟨?_, hw6⟩; show Ending.returned (.bool (!decide ((255 : Int) < (n : Int)))) = _; rw [decide_eq_false (by omega)]; rfl)
set_option maxRecDepth 100000 in
set_option maxHeartbeats 8000000 in
theorem counts_two' (n m : Nat) (z : Int) (w : World) (hn : n ≤ 99999) (hm : m ≤ 99999) (z0 : -9223372036854775808 ≤ z) (z1 : z ≤ 9223372036854775807) (hc : ¬ 255 < n ∧ 255 < m) (E : ByteArray) (el : List UInt8) (md : Int) (hE : ModeOf z E el md) (HA : Hid (Calls Tryz.prog 7 #[] w (BoolB true w))) (HGl : Hid (∀ w1, Below w.heap.size w w1 → Glo w1)) : Calls Tryz.prog 6 #[.int .i64 n, .int .i64 m, .int .i64 z] w (BoolB true w) := by
 obtain ⟨d1, d2, D1', D2', y0, y1, y2, y3, y4, y5, y6, y7, y8, y9, y10, y11, z1', z2', LS1', LS2', ⟨p1, p2, p3⟩, o1, o2⟩ := counts_facts (n := n) (m := m) hn hm E el md hE.str hE.fin w HGl.out
 have D1 := Lib.hid D1'
 have D2 := Lib.hid D2'
 have LS1 := Lib.hid LS1'
 have LS2 := Lib.hid LS2'
 obtain ⟨a1, a2⟩ := hc
 have X1 := Lib.hid (p1 (Or.inr a2))
 have X2 := Lib.hid (o2 a1)
 have i1 : ¬ (255 : Int) < (n : Int) := by omega
 have i2 : (255 : Int) < (m : Int) := by omega
 clear D1' D2' LS1' LS2'
 rcases hE with ⟨hz, ht, rfl, hel, hmd⟩ | ⟨hz, ht, rfl, hel, hmd⟩ | ⟨hz, ht, rfl, hel, hmd⟩ | ⟨hz, ht, rfl, hel, hmd⟩ | ⟨hz, ht, rfl, hel, hmd⟩ | ⟨hz, ht, rfl, hel, hmd⟩
 all_goals
   rw [hel] at z1' z2'
   simp only [List.length_nil, List.length_cons, Nat.add_zero, Nat.zero_add] at z1' z2'
   have HZ1 := Lib.hid z1'
   have HZ2 := Lib.hid z2'
   clear z1' z2' hel
   clear p1 p2 p3 o1 o2
   go_enter Tryz.func6, Tryz.ntmps6
   go_wp2_with fail
   refine HA.out.mono ?_
   rintro e w1 ⟨rfl, hb1⟩
   go_wp2_with fail
   refine (D1.out _).mono ?_
   rintro e w2 ⟨rfl, rfl⟩
   have hb2 := below_trans hb1 (below_al w1 (.cells #[.string ⟨#[]⟩, .string ⟨#[63]⟩, .string ⟨#[43]⟩] 9))
   obtain ⟨cv1, cb1, cl1⟩ := LS1.out _ hb2
   rw [X1.out] at cl1
   simp only [HZ1.out, World.size_alloc] at cl1
   have CL1 := Lib.hid cl1
   have CB1 := Lib.hid cb1
   clear cl1 cb1
   go_wp2_with fail
   refine (D2.out _).mono ?_
   rintro e w3 ⟨rfl, rfl⟩
   go_wp2_with fail
   refine CL1.out.mono ?_
   rintro e w4 ⟨hb4, rfl⟩
   have hw4 := below_trans hb2 (below_trans CB1.out hb4)
   obtain ⟨cv2, cb2, cl2⟩ := LS2.out _ hw4
   rw [X2.out] at cl2
   simp only [HZ2.out] at cl2
   have CL2 := Lib.hid cl2
   have CB2 := Lib.hid cb2
   clear cl2 cb2 cv1
   go_wp2_with fail
   refine (D1.out _).mono ?_
   rintro e w5 ⟨rfl, rfl⟩
   go_wp2_with fail
   refine CL2.out.mono ?_
   rintro e w6 ⟨hb6, v6, rfl, hr6⟩
   have hw6 := below_trans hw4 (below_trans CB2.out hb6)
   obtain ⟨va6, vc6, rfl, ha6, hb6x, hq6 | ⟨g6, rfl, hcell6⟩⟩ := tok_cells hr6
   · cases hq6
   obtain ⟨sx6, sy6, hj6⟩ := hcell6 1 _ rfl
   have k66 : w6.cell? ⟨g6, 18, none⟩ = some (.int .i64 n) := hj6 6 (by decide)
   have k67 : w6.cell? ⟨g6, 19, none⟩ = some (.int .i64 (-1)) := hj6 7 (by decide)
   have k68 : w6.cell? ⟨g6, 20, none⟩ = some (.int .i64 md) := hj6 8 (by decide)
   rw [hmd] at k68
   clear hcell6 hj6 hr6
   simp only [List.length_cons, List.length_nil, Nat.zero_add, Nat.reduceAdd] at *
   go_wp2_with fail
   go_ret
   first | exact ⟨rfl, hw6⟩ | (refine ⟨?_, hw6⟩; show Ending.returned (.bool (!decide ((255 : Int) < (n : Int)))) = _; rw [decide_eq_false (by omega)]; rfl)
set_option maxRecDepth 100000 in
set_option maxHeartbeats 8000000 in
theorem counts_three (n m : Nat) (z : Int) (w : World) (hn : n ≤ 99999) (hm : m ≤ 99999) (z0 : -9223372036854775808 ≤ z) (z1 : z ≤ 9223372036854775807) (hc : ¬ 255 < n ∧ ¬ 255 < m ∧ m < n) (E : ByteArray) (el : List UInt8) (md : Int) (hE : ModeOf z E el md) (HA : Hid (Calls Tryz.prog 7 #[] w (BoolB true w))) (HGl : Hid (∀ w1, Below w.heap.size w w1 → Glo w1)) : Calls Tryz.prog 6 #[.int .i64 n, .int .i64 m, .int .i64 z] w (BoolB true w) := by
 obtain ⟨d1, d2, D1', D2', y0, y1, y2, y3, y4, y5, y6, y7, y8, y9, y10, y11, z1', z2', LS1', LS2', ⟨p1, p2, p3⟩, o1, o2⟩ := counts_facts (n := n) (m := m) hn hm E el md hE.str hE.fin w HGl.out
 have D1 := Lib.hid D1'
 have D2 := Lib.hid D2'
 have LS1 := Lib.hid LS1'
 have LS2 := Lib.hid LS2'
 obtain ⟨a1, a2, a3⟩ := hc
 have X1 := Lib.hid (p2 (by omega) a3)
 have X2 := Lib.hid (o2 a1)
 have i1 : ¬ (255 : Int) < (n : Int) := by omega
 have i2 : ¬ (255 : Int) < (m : Int) := by omega
 have i3 : (m : Int) < (n : Int) := by omega
 clear D1' D2' LS1' LS2'
 rcases hE with ⟨hz, ht, rfl, hel, hmd⟩ | ⟨hz, ht, rfl, hel, hmd⟩ | ⟨hz, ht, rfl, hel, hmd⟩ | ⟨hz, ht, rfl, hel, hmd⟩ | ⟨hz, ht, rfl, hel, hmd⟩ | ⟨hz, ht, rfl, hel, hmd⟩
 all_goals
   rw [hel] at z1' z2'
   simp only [List.length_nil, List.length_cons, Nat.add_zero, Nat.zero_add] at z1' z2'
   have HZ1 := Lib.hid z1'
   have HZ2 := Lib.hid z2'
   clear z1' z2' hel
   clear p1 p2 p3 o1 o2
   go_enter Tryz.func6, Tryz.ntmps6
   go_wp2_with fail
   refine HA.out.mono ?_
   rintro e w1 ⟨rfl, hb1⟩
   go_wp2_with fail
   refine (D1.out _).mono ?_
   rintro e w2 ⟨rfl, rfl⟩
   have hb2 := below_trans hb1 (below_al w1 (.cells #[.string ⟨#[]⟩, .string ⟨#[63]⟩, .string ⟨#[43]⟩] 9))
   obtain ⟨cv1, cb1, cl1⟩ := LS1.out _ hb2
   rw [X1.out] at cl1
   simp only [HZ1.out, World.size_alloc] at cl1
   have CL1 := Lib.hid cl1
   have CB1 := Lib.hid cb1
   clear cl1 cb1
   go_wp2_with fail
   refine (D2.out _).mono ?_
   rintro e w3 ⟨rfl, rfl⟩
   go_wp2_with fail
   refine CL1.out.mono ?_
   rintro e w4 ⟨hb4, rfl⟩
   have hw4 := below_trans hb2 (below_trans CB1.out hb4)
   obtain ⟨cv2, cb2, cl2⟩ := LS2.out _ hw4
   rw [X2.out] at cl2
   simp only [HZ2.out] at cl2
   have CL2 := Lib.hid cl2
   have CB2 := Lib.hid cb2
   clear cl2 cb2 cv1
   go_wp2_with fail
   refine (D1.out _).mono ?_
   rintro e w5 ⟨rfl, rfl⟩
   go_wp2_with fail
   refine CL2.out.mono ?_
   rintro e w6 ⟨hb6, v6, rfl, hr6⟩
   have hw6 := below_trans hw4 (below_trans CB2.out hb6)
   obtain ⟨va6, vc6, rfl, ha6, hb6x, hq6 | ⟨g6, rfl, hcell6⟩⟩ := tok_cells hr6
   · cases hq6
   obtain ⟨sx6, sy6, hj6⟩ := hcell6 1 _ rfl
   have k66 : w6.cell? ⟨g6, 18, none⟩ = some (.int .i64 n) := hj6 6 (by decide)
   have k67 : w6.cell? ⟨g6, 19, none⟩ = some (.int .i64 (-1)) := hj6 7 (by decide)
   have k68 : w6.cell? ⟨g6, 20, none⟩ = some (.int .i64 md) := hj6 8 (by decide)
   rw [hmd] at k68
   clear hcell6 hj6 hr6
   simp only [List.length_cons, List.length_nil, Nat.zero_add, Nat.reduceAdd] at *
   go_wp2_with fail
   go_ret
   first | exact ⟨rfl, hw6⟩ | (refine ⟨?_, hw6⟩; show Ending.returned (.bool (!decide ((255 : Int) < (n : Int)))) = _; rw [decide_eq_false (by omega)]; rfl)
set_option maxRecDepth 100000 in
set_option maxHeartbeats 8000000 in
theorem counts_four (n m : Nat) (z : Int) (w : World) (hn : n ≤ 99999) (hm : m ≤ 99999) (z0 : -9223372036854775808 ≤ z) (z1 : z ≤ 9223372036854775807) (hc : ¬ 255 < n ∧ ¬ 255 < m ∧ ¬ m < n) (E : ByteArray) (el : List UInt8) (md : Int) (hE : ModeOf z E el md) (HA : Hid (Calls Tryz.prog 7 #[] w (BoolB true w))) (HGl : Hid (∀ w1, Below w.heap.size w w1 → Glo w1)) : Calls Tryz.prog 6 #[.int .i64 n, .int .i64 m, .int .i64 z] w (BoolB true w) := by
 obtain ⟨d1, d2, D1', D2', y0, y1, y2, y3, y4, y5, y6, y7, y8, y9, y10, y11, z1', z2', LS1', LS2', ⟨p1, p2, p3⟩, o1, o2⟩ := counts_facts (n := n) (m := m) hn hm E el md hE.str hE.fin w HGl.out
 have D1 := Lib.hid D1'
 have D2 := Lib.hid D2'
 have LS1 := Lib.hid LS1'
 have LS2 := Lib.hid LS2'
 obtain ⟨a1, a2, a3⟩ := hc
 have X1 := Lib.hid (p3 (by omega) a3)
 have X2 := Lib.hid (o2 a1)
 have i1 : ¬ (255 : Int) < (n : Int) := by omega
 have i2 : ¬ (255 : Int) < (m : Int) := by omega
 have i3 : ¬ (m : Int) < (n : Int) := by omega
 clear D1' D2' LS1' LS2'
 rcases hE with ⟨hz, ht, rfl, hel, hmd⟩ | ⟨hz, ht, rfl, hel, hmd⟩ | ⟨hz, ht, rfl, hel, hmd⟩ | ⟨hz, ht, rfl, hel, hmd⟩ | ⟨hz, ht, rfl, hel, hmd⟩ | ⟨hz, ht, rfl, hel, hmd⟩
 all_goals
   rw [hel] at z1' z2'
   simp only [List.length_nil, List.length_cons, Nat.add_zero, Nat.zero_add] at z1' z2'
   have HZ1 := Lib.hid z1'
   have HZ2 := Lib.hid z2'
   clear z1' z2' hel
   clear p1 p2 p3 o1 o2
   go_enter Tryz.func6, Tryz.ntmps6
   go_wp2_with fail
   refine HA.out.mono ?_
   rintro e w1 ⟨rfl, hb1⟩
   go_wp2_with fail
   refine (D1.out _).mono ?_
   rintro e w2 ⟨rfl, rfl⟩
   have hb2 := below_trans hb1 (below_al w1 (.cells #[.string ⟨#[]⟩, .string ⟨#[63]⟩, .string ⟨#[43]⟩] 9))
   obtain ⟨cv1, cb1, cl1⟩ := LS1.out _ hb2
   rw [X1.out] at cl1
   simp only [HZ1.out, World.size_alloc] at cl1
   have CL1 := Lib.hid cl1
   have CB1 := Lib.hid cb1
   clear cl1 cb1
   go_wp2_with fail
   refine (D2.out _).mono ?_
   rintro e w3 ⟨rfl, rfl⟩
   go_wp2_with fail
   refine CL1.out.mono ?_
   rintro e w4 ⟨hb4, v4, rfl, hr4⟩
   have hw4 := below_trans hb2 (below_trans CB1.out hb4)
   obtain ⟨cv2, cb2, cl2⟩ := LS2.out _ hw4
   rw [X2.out] at cl2
   simp only [HZ2.out] at cl2
   have CL2 := Lib.hid cl2
   have CB2 := Lib.hid cb2
   clear cl2 cb2 cv1
   obtain ⟨va4, vc4, rfl, ha4, hb4x, hq4 | ⟨g4, rfl, hcell4⟩⟩ := tok_cells hr4
   · cases hq4
   obtain ⟨sx4, sy4, hj4⟩ := hcell4 1 _ rfl
   have k46 : w4.cell? ⟨g4, 18, none⟩ = some (.int .i64 n) := hj4 6 (by decide)
   have k47 : w4.cell? ⟨g4, 19, none⟩ = some (.int .i64 m) := hj4 7 (by decide)
   have k48 : w4.cell? ⟨g4, 20, none⟩ = some (.int .i64 md) := hj4 8 (by decide)
   rw [hmd] at k48
   clear hcell4 hj4 hr4
   simp only [List.length_cons, List.length_nil, Nat.zero_add, Nat.reduceAdd] at *
   go_wp2_with fail
   refine (D1.out _).mono ?_
   rintro e w5 ⟨rfl, rfl⟩
   go_wp2_with fail
   refine CL2.out.mono ?_
   rintro e w6 ⟨hb6, v6, rfl, hr6⟩
   have hw6 := below_trans hw4 (below_trans CB2.out hb6)
   obtain ⟨va6, vc6, rfl, ha6, hb6x, hq6 | ⟨g6, rfl, hcell6⟩⟩ := tok_cells hr6
   · cases hq6
   obtain ⟨sx6, sy6, hj6⟩ := hcell6 1 _ rfl
   have k66 : w6.cell? ⟨g6, 18, none⟩ = some (.int .i64 n) := hj6 6 (by decide)
   have k67 : w6.cell? ⟨g6, 19, none⟩ = some (.int .i64 (-1)) := hj6 7 (by decide)
   have k68 : w6.cell? ⟨g6, 20, none⟩ = some (.int .i64 md) := hj6 8 (by decide)
   rw [hmd] at k68
   clear hcell6 hj6 hr6
   simp only [List.length_cons, List.length_nil, Nat.zero_add, Nat.reduceAdd] at *
   have k46 := below_cell (below_trans CB2.out hb6) k46
   have k47 := below_cell (below_trans CB2.out hb6) k47
   have k48 := below_cell (below_trans CB2.out hb6) k48
   go_wp2_with fail
   go_ret
   first | exact ⟨rfl, hw6⟩ | (refine ⟨?_, hw6⟩; show Ending.returned (.bool (!decide ((255 : Int) < (n : Int)))) = _; rw [decide_eq_false (by omega)]; rfl)
theorem counts_main (n m : Nat) (z : Int) (w : World) (hn : n ≤ 99999) (hm : m ≤ 99999) (z0 : -9223372036854775808 ≤ z) (z1 : z ≤ 9223372036854775807) (HA : Hid (Calls Tryz.prog 7 #[] w (BoolB true w))) (HGl : Hid (∀ w1, Below w.heap.size w w1 → Glo w1)) : Calls Tryz.prog 6 #[.int .i64 n, .int .i64 m, .int .i64 z] w (BoolB true w) := by
 obtain ⟨E, el, md, hE⟩ := mode_of z
 by_cases a1 : 255 < n
 · exact counts_one n m z w hn hm z0 z1 a1 E el md hE HA HGl
 · by_cases a2 : 255 < m
   · exact counts_two' n m z w hn hm z0 z1 ⟨a1, a2⟩ E el md hE HA HGl
   · by_cases a3 : m < n
     · exact counts_three n m z w hn hm z0 z1 ⟨a1, a2, a3⟩ E el md hE HA HGl
     · exact counts_four n m z w hn hm z0 z1 ⟨a1, a2, a3⟩ E el md hE HA HGl
set_option maxRecDepth 100000 in
set_option maxHeartbeats 8000000 in
theorem counts_law (x y z : Int) (w : World) (z0 : -9223372036854775808 ≤ z) (z1 : z ≤ 9223372036854775807) (hG : Glo w) : Calls Tryz.prog 6 #[.int .i64 x, .int .i64 y, .int .i64 z] w (BoolB true w) := by
 have HA := Lib.hid (awake_any w hG)
 have HGl := Lib.hid (fun w1 (hb : Below w.heap.size w w1) => glo_below hG hb)
 clear hG
 have hc : x < 0 ∨ (¬ x < 0 ∧ 99999 < x) ∨ (¬ x < 0 ∧ ¬ 99999 < x ∧ y < 0) ∨ (¬ x < 0 ∧ ¬ 99999 < x ∧ ¬ y < 0 ∧ 99999 < y) ∨ (¬ x < 0 ∧ ¬ 99999 < x ∧ ¬ y < 0 ∧ ¬ 99999 < y) := by omega
 rcases hc with c1 | ⟨c1, c2⟩ | ⟨c1, c2, c3⟩ | ⟨c1, c2, c3, c4⟩ | ⟨c1, c2, c3, c4⟩
 · go_enter Tryz.func6, Tryz.ntmps6
   go_wp2_with fail
   refine HA.out.mono ?_
   rintro e w1 ⟨rfl, hb1⟩
   go_wp2_with fail
   go_ret
   exact ⟨rfl, hb1⟩
 · go_enter Tryz.func6, Tryz.ntmps6
   go_wp2_with fail
   refine HA.out.mono ?_
   rintro e w1 ⟨rfl, hb1⟩
   go_wp2_with fail
   go_ret
   exact ⟨rfl, hb1⟩
 · go_enter Tryz.func6, Tryz.ntmps6
   go_wp2_with fail
   refine HA.out.mono ?_
   rintro e w1 ⟨rfl, hb1⟩
   go_wp2_with fail
   go_ret
   exact ⟨rfl, hb1⟩
 · go_enter Tryz.func6, Tryz.ntmps6
   go_wp2_with fail
   refine HA.out.mono ?_
   rintro e w1 ⟨rfl, hb1⟩
   go_wp2_with fail
   go_ret
   exact ⟨rfl, hb1⟩
 · obtain ⟨n, rfl⟩ := Int.eq_ofNat_of_zero_le (show 0 ≤ x by omega)
   obtain ⟨m, rfl⟩ := Int.eq_ofNat_of_zero_le (show 0 ≤ y by omega)
   exact counts_main n m z w (by omega) (by omega) z0 z1 HA HGl
end Go.Proofs.YtpjmclhnnogppaaGreatDoor.tkw
end
