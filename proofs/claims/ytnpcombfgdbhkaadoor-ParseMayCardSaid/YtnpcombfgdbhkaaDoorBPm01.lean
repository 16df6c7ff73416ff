/- T -/
import Derived.BigQuiet
import Derived.Laws.BytesArg
import Derived.Laws.CopyRow
import Derived.Laws.Rows
import Derived.Lib.Hide
import Derived.Lib.QuietBelow
import Derived.OwnWalk
import Derived.Test.YtnpcombfgdbhkaaDoorRows
import Derived.WalkKit
import Derived.Test.YtnpcombfgdbhkaaDoorBPs01
import Derived.Test.YtnpcombfgdbhkaaDoorBPs02
import Derived.Test.YtnpcombfgdbhkaaDoorBPs03
import Derived.Test.YtnpcombfgdbhkaaDoorBPs04
import Derived.Test.YtnpcombfgdbhkaaDoorBPs05
import Derived.Test.YtnpcombfgdbhkaaDoorBPs06
import Derived.Test.YtnpcombfgdbhkaaDoorBPs07
import Derived.Test.YtnpcombfgdbhkaaDoorBPs08
import Derived.Test.YtnpcombfgdbhkaaDoorBPs09
import Derived.Test.YtnpcombfgdbhkaaDoorBPs10
import Derived.Test.YtnpcombfgdbhkaaDoorBPs11
import Derived.Test.YtnpcombfgdbhkaaDoorBPs12
import Derived.Test.YtnpcombfgdbhkaaDoorBPs13
import Derived.Test.YtnpcombfgdbhkaaDoorBPs14
import Derived.Test.YtnpcombfgdbhkaaDoorBPs15
import Derived.Test.YtnpcombfgdbhkaaDoorBPs16
import Derived.Test.YtnpcombfgdbhkaaDoorBPs17
import Derived.Test.YtnpcombfgdbhkaaDoorBPs18
import Derived.Test.YtnpcombfgdbhkaaDoorBPs19
import Derived.Test.YtnpcombfgdbhkaaDoorBPs20
import Derived.Test.YtnpcombfgdbhkaaDoorBPs21
import Derived.Test.YtnpcombfgdbhkaaDoorBPs22
import Derived.Test.YtnpcombfgdbhkaaDoorBPs23
import Derived.Test.YtnpcombfgdbhkaaDoorBPs24
import Derived.Test.YtnpcombfgdbhkaaDoorBPs25
import Derived.Test.YtnpcombfgdbhkaaDoorBPs26
namespace Go.Proofs.YtnpcombfgdbhkaaDoor.bulk
end Go.Proofs.YtnpcombfgdbhkaaDoor.bulk
namespace Go.Proofs.YtnpcombfgdbhkaaDoor.flt
end Go.Proofs.YtnpcombfgdbhkaaDoor.flt
namespace Go.Proofs.YtnpcombfgdbhkaaDoor.lawParseMay
end Go.Proofs.YtnpcombfgdbhkaaDoor.lawParseMay
namespace Go.Proofs.YtnpcombfgdbhkaaDoor.prd
end Go.Proofs.YtnpcombfgdbhkaaDoor.prd
namespace Go.Proofs.YtnpcombfgdbhkaaDoor.prp
end Go.Proofs.YtnpcombfgdbhkaaDoor.prp
namespace Go.Proofs.YtnpcombfgdbhkaaDoor.prw
end Go.Proofs.YtnpcombfgdbhkaaDoor.prw
namespace Go.Proofs.YtnpcombfgdbhkaaDoor.psl
end Go.Proofs.YtnpcombfgdbhkaaDoor.psl
namespace Go.Proofs.YtnpcombfgdbhkaaDoor.psm
end Go.Proofs.YtnpcombfgdbhkaaDoor.psm
namespace Go.Proofs.YtnpcombfgdbhkaaDoor.psp
end Go.Proofs.YtnpcombfgdbhkaaDoor.psp
namespace Go.Proofs.YtnpcombfgdbhkaaDoor.psr
end Go.Proofs.YtnpcombfgdbhkaaDoor.psr
namespace Go.Proofs.YtnpcombfgdbhkaaDoor.psw
end Go.Proofs.YtnpcombfgdbhkaaDoor.psw
namespace Go.Proofs.YtnpcombfgdbhkaaDoor.rpp
end Go.Proofs.YtnpcombfgdbhkaaDoor.rpp
namespace Go.Proofs.YtnpcombfgdbhkaaDoor.rpw
end Go.Proofs.YtnpcombfgdbhkaaDoor.rpw
namespace Go.Proofs.YtnpcombfgdbhkaaDoor.rtp
end Go.Proofs.YtnpcombfgdbhkaaDoor.rtp
namespace Go.Proofs.YtnpcombfgdbhkaaDoor.rtw
end Go.Proofs.YtnpcombfgdbhkaaDoor.rtw
namespace Go.Proofs.YtnpcombfgdbhkaaDoor.setl
end Go.Proofs.YtnpcombfgdbhkaaDoor.setl
namespace Go.Proofs.YtnpcombfgdbhkaaDoor.setp
end Go.Proofs.YtnpcombfgdbhkaaDoor.setp
namespace Go.Proofs.YtnpcombfgdbhkaaDoor.setw
end Go.Proofs.YtnpcombfgdbhkaaDoor.setw
namespace Go.Proofs.YtnpcombfgdbhkaaDoor.sq
end Go.Proofs.YtnpcombfgdbhkaaDoor.sq
namespace Go.Proofs.YtnpcombfgdbhkaaDoor.tkp
end Go.Proofs.YtnpcombfgdbhkaaDoor.tkp
namespace Go.Proofs.YtnpcombfgdbhkaaDoor.tkw
end Go.Proofs.YtnpcombfgdbhkaaDoor.tkw
namespace Go.Proofs.YtnpcombfgdbhkaaDoor.trp
end Go.Proofs.YtnpcombfgdbhkaaDoor.trp
namespace Go.Proofs.YtnpcombfgdbhkaaDoor.trw
end Go.Proofs.YtnpcombfgdbhkaaDoor.trw
namespace Go.Proofs.YtnpcombfgdbhkaaDoor.ucdp
end Go.Proofs.YtnpcombfgdbhkaaDoor.ucdp
namespace Go.Proofs.YtnpcombfgdbhkaaDoor.ucdw
end Go.Proofs.YtnpcombfgdbhkaaDoor.ucdw
namespace Go.Proofs.YtnpcombfgdbhkaaDoor.utfp
end Go.Proofs.YtnpcombfgdbhkaaDoor.utfp
namespace Go.Proofs.YtnpcombfgdbhkaaDoor.utfw
end Go.Proofs.YtnpcombfgdbhkaaDoor.utfw
set_option maxHeartbeats 16000000
set_option maxRecDepth 1000000
section
namespace Go.Proofs.YtnpcombfgdbhkaaDoor.trp
open sq
open Go
def F.deep : F → Nat
 | .nil => 0
 | .cons _ k r => max (k.deep + 1) r.deep
def wi (n a b : Int) : Bool := decide (a ≤ n) && decide (n ≤ b)
def leafP (x : Lab) : Bool :=
 if x.kind = 1 then wi x.c 0 1114111
 else if x.kind = 2 then rises 0 x.set
 else if x.kind = 3 ∨ x.kind = 5 ∨ x.kind = 6 ∨ x.kind = 11 then true
 else if x.kind = 4 then wi x.n 1 10
 else if x.kind = 7 ∨ x.kind = 8 then wi x.m 0 3 && wi x.n 0 255
 else if x.kind = 9 then wi x.n 1 7
 else if x.kind = 10 then wi x.n 0 255
 else false
def condP (x : Lab) (k : F) : Bool :=
 wi x.mode (-1) 255 && wi x.m 0 3 && (if x.n = 9 ∨ x.n = 10 ∨ x.n = 11 then wi k.len 1 2 else if x.n = 12 then decide (k.len = 1) else if x.n = 13 then wi k.len 2 3 && decide (k.hd = 18) else false)
def repP (x : Lab) (k : F) : Bool := wi x.n 0 255 && (decide (x.m = -1) || wi x.m x.n 255) && wi x.mode 0 2 && repK k.hd
def mayP (t : Nd) : Bool :=
 if t.1.kind = 12 then decide (t.2.len ≠ 1)
 else if t.1.kind = 13 then decide (2 ≤ t.2.len)
 else if t.1.kind = 16 then decide (1 ≤ t.2.len)
 else if t.1.kind = 14 ∨ t.1.kind = 15 ∨ t.1.kind = 17 then decide (t.2.len = 1)
 else if t.1.kind = 18 then decide (t.2.len = 1) && wi t.1.n 5 8
 else if t.1.kind = 19 then condP t.1 t.2
 else if t.1.kind = 20 then decide (t.2.len = 1) && repP t.1 t.2
 else decide (t.2.len = 0) && leafP t.1
def allP : F → Bool
 | .nil => true
 | .cons x k r => mayP (x, k) && allP k && allP r
def checkP (t : Nd) : Bool := decide (t.2.size + 1 ≤ 4000) && decide (t.2.deep + 1 ≤ 300) && (mayP t && allP t.2)
def cnt : F → Int → Int
 | .nil, l => l
 | .cons _ k r, l => if l < 0 then l else cnt r (cnt k (l - 1))
theorem cnt_neg : ∀ (f : F) (l : Int), l < 0 → cnt f l = l
 | .nil, _, _ => rfl
 | .cons _ _ _, l, h => by unfold cnt; rw [if_pos h]
theorem cnt_eq : ∀ (f : F) (l : Int), 0 ≤ l → cnt f l = max (-1) (l - f.size)
 | .nil, l, h => by simp only [cnt, F.size]; omega
 | .cons _ k r, l, h => by
  unfold cnt;rw [if_neg (by omega)];by_cases h0 : l = 0
  ·subst h0;rw [cnt_neg k _ (by omega), cnt_neg r _ (by omega)];simp only [F.size];omega
  ·have hk := cnt_eq k (l - 1) (by omega);rw [hk];by_cases h1 : 0 ≤ l - 1 - k.size
   ·rw [show max (-1) (l - 1 - (k.size : Int)) = l - 1 - k.size by omega, cnt_eq r _ h1];simp only [F.size];omega
   ·rw [cnt_neg r _ (by omega)];simp only [F.size];omega
theorem cnt_cons {x : Lab} {k r : F} {l : Int} (h : ¬ l < 0) : cnt (.cons x k r) l = cnt r (cnt k (l - 1)) := by show (if l < 0 then l else cnt r (cnt k (l - 1))) = _;rw [if_neg h]
theorem cnt_eq' (f : F) (l : Int) (h : 0 ≤ l) : cnt f (l - 1) = max (-1) (l - 1 - f.size) := by
 by_cases h0 : l = 0
 ·subst h0;rw [cnt_neg _ _ (by omega)];omega
 ·exact cnt_eq f (l - 1) (by omega)
end Go.Proofs.YtnpcombfgdbhkaaDoor.trp
end
section
namespace Go.Proofs.YtnpcombfgdbhkaaDoor.trw
open sq
open Go Go.RowKit trp
theorem count_any : ∀ (n : Nat) (x : Lab) (k : F) (l : Int) (w : World), k.size < n → NdAt w (x, k) → 0 ≤ l → l ≤ 4000 → Calls Tryd.prog 48 #[ndV x, .int .i64 l] w (IntB (cnt k (l - 1)) w) := by
 intro n
 induction n with
 | zero => intro x k l w hn; omega
 | succ n ih =>
  intro x k l w hn hd hl0 hl1;obtain ⟨_, _, hk⟩ := hd;obtain ⟨a, cap, hkv⟩ := kids_len hk;obtain ⟨xk, xa, xc, xs, xset, xneg, xn, xm, xmode, xname, xon, xoff, xkv⟩ := x;simp only at hk hkv;subst hkv;obtain ⟨R, hR⟩ : ∃ R, cnt k (l - 1) = R := ⟨_, rfl⟩;rw [hR];have HR := xH hR;have HK := xH hk;clear hk hR;go_enter Tryd.func48, Tryd.ntmps48;unfold ndV;go_wp2_with fail
  have hbl := qg w (.cells #[.int .i64 xk, .int .i64 xa, .int .i64 xc, xs, .bool xneg, .int .i64 xn, .int .i64 xm, .int .i64 xmode, .string xname, .int .i64 xon, .int .i64 xoff, .slice a k.len cap] 31);have hc11 : (w.alloc (.cells #[.int .i64 xk, .int .i64 xa, .int .i64 xc, xs, .bool xneg, .int .i64 xn, .int .i64 xm, .int .i64 xmode, .string xname, .int .i64 xon, .int .i64 xoff, .slice a k.len cap] 31)).cell? ⟨w.heap.size, 11, none⟩ = some (.slice a k.len cap) := by simp
  obtain ⟨B, hB⟩ : ∃ B, w.heap.size = B := ⟨_, rfl⟩;rw [hB] at hc11 ⊢;generalize w.alloc _ = w1 at *;have HB := xH hbl;have HC := xH hc11;clear hbl hc11
  go_loopw [1, 5] (fun lv iv wr => ∃ (i : Nat) (c : Int), lv = .int .i64 c ∧ iv = .int .i64 i ∧ i ≤ k.len ∧ -1 ≤ c ∧ c ≤ 4000 ∧ Hid (cnt (k.drop i) c = R) ∧ Below w1.heap.size w1 wr) (fun _ iv _ => k.len - (intOf iv).toNat)
  case atStart => exact ⟨0, l - 1, by go_num, rfl, Nat.zero_le _, by omega, by omega, xH (by rw [drop_zero]; exact HR.out), Below.refl _ _⟩
  case round =>
   obtain ⟨i, c, rfl, rfl, hi, hc0, hc1, HCn, hb⟩ := hrel;have hcell : wr.cell? ⟨B, 11, none⟩ = some (.slice a k.len cap) := qf hb HC.out;by_cases hend : i = k.len
   ·have HRes := xH (show c = R by have := HCn.out; rw [drop_end (by omega)] at this; exact this);subst hend;go_wp2_with fail
    go_ret
    exact ⟨by rw [HRes.out]; rfl, qi HB.out hb⟩
   ·by_cases hneg : c < 0
    ·have HRes := xH (show c = R by have := HCn.out; rw [cnt_neg _ _ hneg] at this; exact this);go_wp2_with fail
     go_ret
     exact ⟨by rw [HRes.out]; rfl, qi HB.out hb⟩
    ·obtain ⟨y, k', r, hdr⟩ := drop_lt (f := k) (i := i) (by omega);obtain ⟨b, o, cap', hv2, hcap, hcap2, hlt, hf⟩ := kid_at (below_kids (qi HB.out hb) HK.out) hdr;obtain ⟨rfl, rfl⟩ : a = some ⟨b, o, none⟩ ∧ cap = cap' := by have := hv2;simp only [Value.slice.injEq] at this;exact ⟨this.1, this.2.2⟩
     have hnd := fAt_head hf;have hcs := xH hf.1;have hsz := size_lt hdr;have HI := xH (ih y k' c wr (by omega) hnd (by omega) (by omega));have hstep : cnt k' (c - 1) ≤ 4000 ∧ -1 ≤ cnt k' (c - 1) := by rw [cnt_eq' k' c (by omega)]; omega
     have HN := xH (show cnt (k.drop (i + 1)) (cnt k' (c - 1)) = R by rw [drop_succ hdr, ← HCn.out, hdr];exact (cnt_cons hneg).symm)
     have hadd := add_row b o i 12;obtain ⟨q, hq⟩ : ∃ q, cnt k' (c - 1) = q := ⟨_, rfl⟩;rw [hq] at hstep HI HN;clear hf hnd hdr hq hv2;go_wp2_with (refine jv rfl _ rfl b (o + i * 12) rfl y hcs.out ?_)
     refine HI.out.mono ?_;rintro e w2 ⟨rfl, hb2⟩;go_wp2_with fail
     go_roundw
     case rel => exact ⟨i + 1, q, rfl, by go_num, hlt, hstep.2, hstep.1, HN, qi hb hb2⟩
     case measure => simp [intOf]; omega
end Go.Proofs.YtnpcombfgdbhkaaDoor.trw
end
section
namespace Go.Proofs.YtnpcombfgdbhkaaDoor.trw
open sq
open Go Go.RowKit trp
theorem small_any (x : Lab) (k : F) (w : World) (hd : NdAt w (x, k)) : Calls Tryd.prog 28 #[ndV x] w (BoolB (decide (k.size + 1 ≤ 4000)) w) := by
 have hbl := qg w (.cells (ndC x).toArray 31);have HC := xH (count_any (k.size + 1) x k 4000 (w.alloc (.cells (ndC x).toArray 31)) (Nat.lt_succ_self _) (vO hbl hd) (by omega) (by omega));have HB := xH hbl;have hq : decide (0 ≤ cnt k (4000 - 1)) = decide (k.size + 1 ≤ 4000) := by rw [cnt_eq' k 4000 (by omega)];exact decide_eq_decide.2 (by omega)
 have HQ := xH hq;clear hbl hd hq;generalize cnt k (4000 - 1) = c at *;unfold ndC at HC HB;unfold ndV at *;go_enter Tryd.func28, Tryd.ntmps28;go_wp2_with fail
 refine HC.out.mono ?_;rintro e w2 ⟨rfl, hb2⟩;go_wp2_with fail
 go_ret
 exact ⟨by rw [← HQ.out]; rfl, qi HB.out hb2⟩
theorem deep_any : ∀ (n : Nat) (x : Lab) (k : F) (L : Nat) (w : World), k.size < n → NdAt w (x, k) → 1 ≤ L → L ≤ 301 → Calls Tryd.prog 49 #[ndV x, .int .i64 L] w (IntB (min L (k.deep + 1) : Nat) w) := by
 intro n
 induction n with
 | zero => intro x k l w hn; omega
 | succ n ih =>
  intro x k L w hn hd hl0 hl1;obtain ⟨hlab, hrg, hk⟩ := hd;obtain ⟨a, cap, hkv⟩ := kids_len hk;obtain ⟨xk, xa, xc, xs, xset, xneg, xn, xm, xmode, xname, xon, xoff, xkv⟩ := x;simp only at hk hkv hrg hlab;subst hkv;have HK := xH hk;clear hk hlab hrg;obtain ⟨R, hR⟩ : ∃ R, min (L - 1) k.deep = R := ⟨_, rfl⟩;have HR := xH hR;have HF := xH (show ((R + 1 : Nat) : Int) = (min L (k.deep + 1) : Nat) by rw [← hR]; omega);have hR2 : R ≤ 300 := by omega
  clear hR;by_cases h1 : L = 1
  ·have HF2 := xH (show ((min L (k.deep + 1) : Nat) : Int) = 1 by rw [h1]; omega);subst h1;go_enter Tryd.func49, Tryd.ntmps49;unfold ndV;go_wp2_with fail
   go_ret
   exact ⟨by rw [HF2.out]; rfl, qg w _⟩
  have hb1 : ((L : Int) == 1) = false := by simp; omega
  go_enter Tryd.func49, Tryd.ntmps49;unfold ndV;go_wp2_with fail
  have hbl := qg w (.cells #[.int .i64 xk, .int .i64 xa, .int .i64 xc, xs, .bool xneg, .int .i64 xn, .int .i64 xm, .int .i64 xmode, .string xname, .int .i64 xon, .int .i64 xoff, .slice a k.len cap] 31);have hc11 : (w.alloc (.cells #[.int .i64 xk, .int .i64 xa, .int .i64 xc, xs, .bool xneg, .int .i64 xn, .int .i64 xm, .int .i64 xmode, .string xname, .int .i64 xon, .int .i64 xoff, .slice a k.len cap] 31)).cell? ⟨w.heap.size, 11, none⟩ = some (.slice a k.len cap) := by simp
  obtain ⟨B, hB⟩ : ∃ B, w.heap.size = B := ⟨_, rfl⟩;rw [hB] at hc11 ⊢;generalize w.alloc _ = w1 at *;have HB := xH hbl;have HC := xH hc11;clear hbl hc11
  go_loopw [5, 6, 7] (fun mv iv _ wr => ∃ (i m : Nat), mv = .int .i64 m ∧ iv = .int .i64 i ∧ i ≤ k.len ∧ m ≤ 300 ∧ Hid (max m (min (L - 1) (k.drop i).deep) = R) ∧ Below w1.heap.size w1 wr) (fun _ iv _ _ => k.len - (intOf iv).toNat)
  case atStart => exact ⟨0, 0, rfl, rfl, Nat.zero_le _, by omega, xH (by rw [drop_zero, HR.out]; omega), Below.refl _ _⟩
  case round =>
   obtain ⟨i, m, rfl, rfl, hi, hm, HM, hb⟩ := hrel;have hcell : wr.cell? ⟨B, 11, none⟩ = some (.slice a k.len cap) := qf hb HC.out;by_cases hend : i = k.len
   ·have HRes := xH (show m = R by have := HM.out; rw [drop_end (by omega)] at this; simpa [F.deep] using this);subst hend;go_wp2_with fail
    go_ret
    exact ⟨by rw [← HF.out, ← HRes.out]; go_num, qi HB.out hb⟩
   ·have hlt0 : i < k.len := by omega
    obtain ⟨y, k', r, hdr⟩ := drop_lt (f := k) (i := i) (by omega);obtain ⟨b, o, cap', hv2, hcap, hcap2, hlt, hf⟩ := kid_at (below_kids (qi HB.out hb) HK.out) hdr;obtain ⟨rfl, rfl⟩ : a = some ⟨b, o, none⟩ ∧ cap = cap' := by have := hv2;simp only [Value.slice.injEq] at this;exact ⟨this.1, this.2.2⟩
    have hnd := fAt_head hf;have hcs := xH hf.1;have hsz := size_lt hdr;have hadd := add_row b o i 12;have HI := xH (ih y k' (L - 1) wr (by omega) hnd (by omega) (by omega));have hdm : min (L - 1) (k'.deep + 1) ≤ 300 := by omega
    have hl2 : (L : Int) - 1 = ((L - 1 : Nat) : Int) := by omega
    have HN := xH (show max (max m (min (L - 1) (k'.deep + 1))) (min (L - 1) (k.drop (i + 1)).deep) = R by rw [drop_succ hdr, ← HM.out, hdr];simp only [F.deep];omega)
    obtain ⟨q, hq⟩ : ∃ q, min (L - 1) (k'.deep + 1) = q := ⟨_, rfl⟩;rw [hq] at HI HN hdm;clear hf hnd hdr hq hv2;go_wp2_with (refine jv rfl _ rfl b (o + i * 12) rfl y hcs.out ?_)
    refine HI.out.mono ?_;rintro e w2 ⟨rfl, hb2⟩;by_cases hgt : m < q
    ·go_wp2_with fail
     go_roundw
     case rel => exact ⟨i + 1, q, rfl, by go_num, hlt, hdm, xH (by rw [← HN.out]; congr 1; omega), qi hb hb2⟩
     case measure => simp [intOf]; omega
    ·go_wp2_with fail
     go_roundw
     case rel => exact ⟨i + 1, m, rfl, by go_num, hlt, hm, xH (by rw [← HN.out]; congr 1; omega), qi hb hb2⟩
     case measure => simp [intOf]; omega
end Go.Proofs.YtnpcombfgdbhkaaDoor.trw
end
section
namespace Go.Proofs.YtnpcombfgdbhkaaDoor.trw
open sq
open Go Go.RowKit trp
theorem rises_bad {lo : Int} {r : Int × Int} {l : List (Int × Int)} (h : r.1 < lo ∨ r.2 < r.1 ∨ 1114111 < r.2) : rises lo (r :: l) = false := by
 unfold rises;rcases h with h | h | h
 ·simp [show ¬ lo ≤ r.1 by omega]
 ·simp [show ¬ r.1 ≤ r.2 by omega]
 ·simp [show ¬ r.2 ≤ 1114111 by omega]
theorem rises_ok {lo : Int} {r : Int × Int} {l : List (Int × Int)} (h1 : lo ≤ r.1) (h2 : r.1 ≤ r.2) (h3 : r.2 ≤ 1114111) : rises lo (r :: l) = rises (r.2 + 2) l := by show (decide (lo ≤ r.1) && decide (r.1 ≤ r.2) && decide (r.2 ≤ 1114111) && rises (r.2 + 2) l) = _;simp [h1, h2, h3]
theorem rg_len {w : World} {v : Value} {l : List (Int × Int)} (h : RgAt w v l) : ∃ a cap, v = .slice a l.length cap := by obtain ⟨a, cap, h, _⟩ := h;exact ⟨a, cap, h⟩
theorem rg_at {w : World} {a : Option Addr} {n cap : Nat} {l : List (Int × Int)} (h : RgAt w (.slice a n cap) l) {i : Nat} (hi : i < l.length) : ∃ b o, a = some ⟨b, o, none⟩ ∧ n = l.length ∧ l.length ≤ cap ∧ cap ≤ 9223372036854775807 ∧
 ∀ i r, l[i]? = some r → w.cell? ⟨b, o + i * 2, none⟩ = some (.int .i64 r.1) ∧ w.cell? ⟨b, o + i * 2 + 1, none⟩ = some (.int .i64 r.2) ∧ I64 r.1 ∧ I64 r.2 := by
 obtain ⟨a', cap', h1, h2, h3, h4 | ⟨b, o, h4, h5⟩⟩ := h
 ·subst h4; simp at hi
 ·simp only [Value.slice.injEq] at h1;obtain ⟨rfl, rfl, rfl⟩ := h1;exact ⟨b, o, h4, rfl, h2, h3, h5⟩
theorem get_drop {l : List (Int × Int)} {i : Nat} (h : i < l.length) : ∃ r, l[i]? = some r ∧ l.drop i = r :: l.drop (i + 1) := ⟨l[i], by simp [h], List.drop_eq_getElem_cons h⟩
end Go.Proofs.YtnpcombfgdbhkaaDoor.trw
end
section
namespace Go.Proofs.YtnpcombfgdbhkaaDoor.trw
open sq
open Go.Sort Go Go.RowKit trp
theorem cell_regrown {w : World} {a : Addr} {v : Value} (h : w.cell? a = some v) : ∀ d os, (grow (redrawn w d) os).cell? a = some v := fun d os => qf (below_regrown w d os) h
theorem rrises_any (v : Value) (l : List (Int × Int)) (w : World) (hv : RgAt w v l) : Calls Tryd.prog 75 #[v] w (BoolB (rises 0 l) w) := by
 obtain ⟨a, cap, rfl⟩ := rg_len hv;obtain ⟨R, hR⟩ : ∃ R, rises 0 l = R := ⟨_, rfl⟩;rw [hR];have HR := xH hR;have HV := xH hv;clear hR hv;go_enter Tryd.func75, Tryd.ntmps75;go_wp2_with fail
 go_loopw [3] (fun iv wr => ∃ (i : Nat) (lo : Int), iv = .int .i64 i ∧ i ≤ l.length ∧ Hid ((i = 0 ∧ lo = 0) ∨ ∃ q, 0 < i ∧ l[i - 1]? = some q ∧ lo = q.2 + 2 ∧ 0 ≤ q.2 ∧ q.2 ≤ 1114111) ∧ Hid (rises lo (l.drop i) = R) ∧ Below w.heap.size w wr) (fun iv _ => l.length - (intOf iv).toNat)
 case atStart => exact ⟨0, 0, rfl, Nat.zero_le _, xH (Or.inl ⟨rfl, rfl⟩), HR, Below.refl _ _⟩
 case round =>
  obtain ⟨i, lo, rfl, hi, HP, HL, hb⟩ := hrel;by_cases hend : i = l.length
  ·have HRes := xH (show true = R by have := HL.out; rwa [hend, List.drop_length] at this);subst hend;clear HP;go_wp2_with fail
   go_ret
   exact ⟨by rw [← HRes.out]; rfl, hb⟩
  ·have hlt : i < l.length := by omega
   obtain ⟨b, o, rfl, _, hcap, hcap2, hall⟩ := rg_at HV.out hlt;obtain ⟨r, hr, hdr⟩ := get_drop hlt;obtain ⟨c0, c1, i0, i1⟩ := hall i r hr;have c0 := qf hb c0;have c1 := qf hb c1;have hadd := add_row b o i 2;have hi0' : (0 : Int) ≤ (i : Int) := by omega
   have hiL : (i : Int) < (l.length : Int) := by omega
   have HD := xH hdr;have hp := HP.out;have nx : ∀ lo', lo' = r.2 + 2 → 0 ≤ r.2 → r.2 ≤ 1114111 → Hid ((i + 1 = 0 ∧ lo' = 0) ∨ ∃ q, 0 < i + 1 ∧ l[i + 1 - 1]? = some q ∧ lo' = q.2 + 2 ∧ 0 ≤ q.2 ∧ q.2 ≤ 1114111) := fun lo' e1 e2 e3 => xH (Or.inr ⟨r, Nat.succ_pos _, hr, e1, e2, e3⟩)
   have NX := xH nx;obtain ⟨lo', hi'⟩ := r;simp only [I64] at c0 c1 i0 i1;clear hr hdr nx;rcases hp with ⟨rfl, rfl⟩ | ⟨⟨pl, ph⟩, hi0, hq, rfl, hp1, hp2⟩
   ·clear hall HP;simp only [Nat.zero_mul, Nat.add_zero] at c0 c1 hadd;have k0 := cell_regrown c0;have k1 := cell_regrown c1;by_cases hbad : lo' < 0 ∨ hi' < lo' ∨ 1114111 < hi'
    ·have HRes := xH (show false = R by rw [← HL.out, HD.out, rises_bad hbad]);rcases (show lo' < 0 ∨ (0 ≤ lo' ∧ hi' < lo') ∨ (0 ≤ lo' ∧ lo' ≤ hi' ∧ 1114111 < hi') by omega) with h | ⟨h, h2⟩ | ⟨h, h2, h3⟩
     all_goals
      clear hbad;first
       | have q0 : decide (lo' < 0) = true := decide_eq_true (by omega)
       | have q0 : decide (lo' < 0) = false := decide_eq_false (by omega)
      first
       | have q1 : decide (hi' < lo') = true := decide_eq_true (by omega)
       | have q1 : decide (hi' < lo') = false := decide_eq_false (by omega)
       | skip
      first
       | have q2 : decide (1114111 < hi') = true := decide_eq_true (by omega)
       | have q2 : decide (1114111 < hi') = false := decide_eq_false (by omega)
       | skip
      first
       | have q3 : decide (lo' ≤ ph + 1) = true := decide_eq_true (by omega)
       | skip
      go_wp2_with fail
      refine wp_region_quiet_below (by kernel_rfl) (by kernel_rfl) ?_
      repeat (go_big_quiet_step (fail))
      refine wpQuiet_nil ?_;intro _ hw';obtain ⟨⟨dq, osq⟩, hw''⟩ := hw';subst hw'';have hbq := qi hb (below_regrown _ dq osq);go_wp2_with fail
      go_ret
      exact ⟨by rw [← HRes.out]; rfl, hbq⟩
    ·simp only [not_or] at hbad;obtain ⟨h1, h2, h3⟩ := hbad;have HN := xH (show rises (hi' + 2) (l.drop (0 + 1)) = R by rw [← HL.out, HD.out, rises_ok (by omega) (by omega) (by omega)]);have h1 : 0 ≤ lo' := by omega
     have h2 : lo' ≤ hi' := by omega
     have h3 : hi' ≤ 1114111 := by omega
     have q0 : decide (lo' < 0) = false := decide_eq_false (by omega);have q1 : decide (hi' < lo') = false := decide_eq_false (by omega);have q2 : decide (1114111 < hi') = false := decide_eq_false (by omega);go_wp2_with fail
     refine wp_region_quiet_below (by kernel_rfl) (by kernel_rfl) ?_
     repeat (go_big_quiet_step (fail))
     refine wpQuiet_nil ?_;intro _ hw';obtain ⟨⟨dq, osq⟩, hw''⟩ := hw';subst hw'';have hbq := qi hb (below_regrown _ dq osq);go_wp2_with fail
     go_roundw
     case rel => exact ⟨0 + 1, hi' + 2, by go_num, hlt, NX.out _ rfl (by omega) h3, HN, hbq⟩
     case measure => simp [intOf]; omega
   ·obtain ⟨j, rfl⟩ : ∃ j, i = j + 1 := ⟨i - 1, by omega⟩;obtain ⟨d0, d1, _, _⟩ := hall j (pl, ph) hq;have d0 := qf hb d0;have d1 := qf hb d1;simp only at d0 d1 hp1 hp2;have hadd2 := add_row b o j 2;clear hall HP hq;have k0 := cell_regrown c0;have k1 := cell_regrown c1;have m0 := cell_regrown d0;have m1 := cell_regrown d1;have q4 : decide ((0 : Int) < (j : Int) + 1) = true := decide_eq_true (by omega);have hj1 : (0 : Int) ≤ (j : Int) + 1 := by omega
    have hj2 : (j : Int) + 1 < (l.length : Int) := by omega
    have hj3 : (0 : Int) ≤ (j : Int) := by omega
    have hj4 : (j : Int) < (l.length : Int) := by omega
    by_cases hbad : lo' < ph + 2 ∨ hi' < lo' ∨ 1114111 < hi'
    ·have HRes := xH (show false = R by rw [← HL.out, HD.out, rises_bad hbad]);rcases (show lo' < 0 ∨ (0 ≤ lo' ∧ hi' < lo') ∨ (0 ≤ lo' ∧ lo' ≤ hi' ∧ 1114111 < hi') ∨ (0 ≤ lo' ∧ lo' ≤ hi' ∧ hi' ≤ 1114111 ∧ lo' ≤ ph + 1) by omega) with h | ⟨h, h2⟩ | ⟨h, h2, h3⟩ | ⟨h, h2, h3, h4⟩
     all_goals
      clear hbad;first
       | have q0 : decide (lo' < 0) = true := decide_eq_true (by omega)
       | have q0 : decide (lo' < 0) = false := decide_eq_false (by omega)
      first
       | have q1 : decide (hi' < lo') = true := decide_eq_true (by omega)
       | have q1 : decide (hi' < lo') = false := decide_eq_false (by omega)
       | skip
      first
       | have q2 : decide (1114111 < hi') = true := decide_eq_true (by omega)
       | have q2 : decide (1114111 < hi') = false := decide_eq_false (by omega)
       | skip
      first
       | have q3 : decide (lo' ≤ ph + 1) = true := decide_eq_true (by omega)
       | skip
      go_wp2_with fail
      refine wp_region_quiet_below (by kernel_rfl) (by kernel_rfl) ?_
      repeat (go_big_quiet_step (fail))
      refine wpQuiet_nil ?_;intro _ hw';obtain ⟨⟨dq, osq⟩, hw''⟩ := hw';subst hw'';have hbq := qi hb (below_regrown _ dq osq);go_wp2_with fail
      go_ret
      exact ⟨by rw [← HRes.out]; rfl, hbq⟩
    ·simp only [not_or] at hbad;obtain ⟨h1, h2, h3⟩ := hbad;have HN := xH (show rises (hi' + 2) (l.drop (j + 1 + 1)) = R by rw [← HL.out, HD.out, rises_ok (by omega) (by omega) (by omega)]);have h1 : 0 ≤ lo' := by omega
     have h2 : lo' ≤ hi' := by omega
     have h3 : hi' ≤ 1114111 := by omega
     have q0 : decide (lo' < 0) = false := decide_eq_false (by omega);have q1 : decide (hi' < lo') = false := decide_eq_false (by omega);have q2 : decide (1114111 < hi') = false := decide_eq_false (by omega);have q3 : decide (lo' ≤ ph + 1) = false := decide_eq_false (by omega);go_wp2_with fail
     refine wp_region_quiet_below (by kernel_rfl) (by kernel_rfl) ?_
     repeat (go_big_quiet_step (fail))
     refine wpQuiet_nil ?_;intro _ hw';obtain ⟨⟨dq, osq⟩, hw''⟩ := hw';subst hw'';have hbq := qi hb (below_regrown _ dq osq);go_wp2_with fail
     go_roundw
     case rel => exact ⟨j + 1 + 1, hi' + 2, by go_num, hlt, NX.out _ rfl (by omega) h3, HN, hbq⟩
     case measure => simp [intOf]; omega
end Go.Proofs.YtnpcombfgdbhkaaDoor.trw
end
section
namespace Go.Proofs.YtnpcombfgdbhkaaDoor.trw
open sq
open Go Go.RowKit trp
theorem below_box {w w2 : World} {o : Obj} (h : Below (w.alloc o).heap.size (w.alloc o) w2) : Below w.heap.size w w2 := qi (qg w o) h
theorem may_1 (x : Lab) (k : F) (w : World) (hd : NdAt w (x, k)) (hk : x.kind = 1) : Calls Tryd.prog 50 #[ndV x] w (BoolB (mayP (x, k)) w) := by
 obtain ⟨hlab, hrg, hkd⟩ := hd;obtain ⟨a, cap, hkv⟩ := kids_len hkd;obtain ⟨xk, xa, xc, xs, xset, xneg, xn, xm, xmode, xname, xon, xoff, xkv⟩ := x;simp only at hkd hkv hrg hlab hk;subst hkv hk;obtain ⟨R, hR⟩ : ∃ R, mayP (⟨1, xa, xc, xs, xset, xneg, xn, xm, xmode, xname, xon, xoff, .slice a k.len cap⟩, k) = R := ⟨_, rfl⟩;rw [hR];have HM := xH (show (decide (k.len = 0) && wi xc 0 1114111) = R by rw [← hR]; rfl);obtain ⟨n, hn⟩ : ∃ n, k.len = n := ⟨_, rfl⟩;rw [hn] at HM ⊢;clear hkd hrg hlab hn hR;unfold ndV;go_enter Tryd.func50, Tryd.ntmps50;go_wp2_with fail
 all_goals go_ret
 all_goals refine ⟨?_, qg w _⟩
 all_goals
  rw [← HM.out];first
   | rfl
   | (refine congrArg (fun b => Ending.returned (Value.bool b)) ?_; rw [Bool.eq_iff_iff]; simp [wi]; done)
   | (refine congrArg (fun b => Ending.returned (Value.bool b)) ?_; rw [Bool.eq_iff_iff]; simp [wi]; omega)
theorem may_3 (x : Lab) (k : F) (w : World) (hd : NdAt w (x, k)) (hk : x.kind = 3) : Calls Tryd.prog 50 #[ndV x] w (BoolB (mayP (x, k)) w) := by
 obtain ⟨hlab, hrg, hkd⟩ := hd;obtain ⟨a, cap, hkv⟩ := kids_len hkd;obtain ⟨xk, xa, xc, xs, xset, xneg, xn, xm, xmode, xname, xon, xoff, xkv⟩ := x;simp only at hkd hkv hrg hlab hk;subst hkv hk;obtain ⟨R, hR⟩ : ∃ R, mayP (⟨3, xa, xc, xs, xset, xneg, xn, xm, xmode, xname, xon, xoff, .slice a k.len cap⟩, k) = R := ⟨_, rfl⟩;rw [hR];have HM := xH (show (decide (k.len = 0) && true) = R by rw [← hR]; rfl);obtain ⟨n, hn⟩ : ∃ n, k.len = n := ⟨_, rfl⟩;rw [hn] at HM ⊢;clear hkd hrg hlab hn hR;unfold ndV;go_enter Tryd.func50, Tryd.ntmps50;go_wp2_with fail
 all_goals go_ret
 all_goals refine ⟨?_, qg w _⟩
 all_goals
  rw [← HM.out];first
   | rfl
   | (refine congrArg (fun b => Ending.returned (Value.bool b)) ?_; rw [Bool.eq_iff_iff]; simp []; done)
   | (refine congrArg (fun b => Ending.returned (Value.bool b)) ?_; rw [Bool.eq_iff_iff]; simp [wi]; omega)
theorem may_5 (x : Lab) (k : F) (w : World) (hd : NdAt w (x, k)) (hk : x.kind = 5) : Calls Tryd.prog 50 #[ndV x] w (BoolB (mayP (x, k)) w) := by
 obtain ⟨hlab, hrg, hkd⟩ := hd;obtain ⟨a, cap, hkv⟩ := kids_len hkd;obtain ⟨xk, xa, xc, xs, xset, xneg, xn, xm, xmode, xname, xon, xoff, xkv⟩ := x;simp only at hkd hkv hrg hlab hk;subst hkv hk;obtain ⟨R, hR⟩ : ∃ R, mayP (⟨5, xa, xc, xs, xset, xneg, xn, xm, xmode, xname, xon, xoff, .slice a k.len cap⟩, k) = R := ⟨_, rfl⟩;rw [hR];have HM := xH (show (decide (k.len = 0) && true) = R by rw [← hR]; rfl);obtain ⟨n, hn⟩ : ∃ n, k.len = n := ⟨_, rfl⟩;rw [hn] at HM ⊢;clear hkd hrg hlab hn hR;unfold ndV;go_enter Tryd.func50, Tryd.ntmps50;go_wp2_with fail
 all_goals go_ret
 all_goals refine ⟨?_, qg w _⟩
 all_goals
  rw [← HM.out];first
   | rfl
   | (refine congrArg (fun b => Ending.returned (Value.bool b)) ?_; rw [Bool.eq_iff_iff]; simp []; done)
   | (refine congrArg (fun b => Ending.returned (Value.bool b)) ?_; rw [Bool.eq_iff_iff]; simp [wi]; omega)
theorem may_6 (x : Lab) (k : F) (w : World) (hd : NdAt w (x, k)) (hk : x.kind = 6) : Calls Tryd.prog 50 #[ndV x] w (BoolB (mayP (x, k)) w) := by
 obtain ⟨hlab, hrg, hkd⟩ := hd;obtain ⟨a, cap, hkv⟩ := kids_len hkd;obtain ⟨xk, xa, xc, xs, xset, xneg, xn, xm, xmode, xname, xon, xoff, xkv⟩ := x;simp only at hkd hkv hrg hlab hk;subst hkv hk;obtain ⟨R, hR⟩ : ∃ R, mayP (⟨6, xa, xc, xs, xset, xneg, xn, xm, xmode, xname, xon, xoff, .slice a k.len cap⟩, k) = R := ⟨_, rfl⟩;rw [hR];have HM := xH (show (decide (k.len = 0) && true) = R by rw [← hR]; rfl);obtain ⟨n, hn⟩ : ∃ n, k.len = n := ⟨_, rfl⟩;rw [hn] at HM ⊢;clear hkd hrg hlab hn hR;unfold ndV;go_enter Tryd.func50, Tryd.ntmps50;go_wp2_with fail
 all_goals go_ret
 all_goals refine ⟨?_, qg w _⟩
 all_goals
  rw [← HM.out];first
   | rfl
   | (refine congrArg (fun b => Ending.returned (Value.bool b)) ?_; rw [Bool.eq_iff_iff]; simp []; done)
   | (refine congrArg (fun b => Ending.returned (Value.bool b)) ?_; rw [Bool.eq_iff_iff]; simp [wi]; omega)
theorem may_11 (x : Lab) (k : F) (w : World) (hd : NdAt w (x, k)) (hk : x.kind = 11) : Calls Tryd.prog 50 #[ndV x] w (BoolB (mayP (x, k)) w) := by
 obtain ⟨hlab, hrg, hkd⟩ := hd;obtain ⟨a, cap, hkv⟩ := kids_len hkd;obtain ⟨xk, xa, xc, xs, xset, xneg, xn, xm, xmode, xname, xon, xoff, xkv⟩ := x;simp only at hkd hkv hrg hlab hk;subst hkv hk;obtain ⟨R, hR⟩ : ∃ R, mayP (⟨11, xa, xc, xs, xset, xneg, xn, xm, xmode, xname, xon, xoff, .slice a k.len cap⟩, k) = R := ⟨_, rfl⟩;rw [hR];have HM := xH (show (decide (k.len = 0) && true) = R by rw [← hR]; rfl);obtain ⟨n, hn⟩ : ∃ n, k.len = n := ⟨_, rfl⟩;rw [hn] at HM ⊢;clear hkd hrg hlab hn hR;unfold ndV;go_enter Tryd.func50, Tryd.ntmps50;go_wp2_with fail
 all_goals go_ret
 all_goals refine ⟨?_, qg w _⟩
 all_goals
  rw [← HM.out];first
   | rfl
   | (refine congrArg (fun b => Ending.returned (Value.bool b)) ?_; rw [Bool.eq_iff_iff]; simp []; done)
   | (refine congrArg (fun b => Ending.returned (Value.bool b)) ?_; rw [Bool.eq_iff_iff]; simp [wi]; omega)
theorem may_4 (x : Lab) (k : F) (w : World) (hd : NdAt w (x, k)) (hk : x.kind = 4) : Calls Tryd.prog 50 #[ndV x] w (BoolB (mayP (x, k)) w) := by
 obtain ⟨hlab, hrg, hkd⟩ := hd;obtain ⟨a, cap, hkv⟩ := kids_len hkd;obtain ⟨xk, xa, xc, xs, xset, xneg, xn, xm, xmode, xname, xon, xoff, xkv⟩ := x;simp only at hkd hkv hrg hlab hk;subst hkv hk;obtain ⟨R, hR⟩ : ∃ R, mayP (⟨4, xa, xc, xs, xset, xneg, xn, xm, xmode, xname, xon, xoff, .slice a k.len cap⟩, k) = R := ⟨_, rfl⟩;rw [hR];have HM := xH (show (decide (k.len = 0) && wi xn 1 10) = R by rw [← hR]; rfl);obtain ⟨n, hn⟩ : ∃ n, k.len = n := ⟨_, rfl⟩;rw [hn] at HM ⊢;clear hkd hrg hlab hn hR;unfold ndV;go_enter Tryd.func50, Tryd.ntmps50;go_wp2_with fail
 all_goals go_ret
 all_goals refine ⟨?_, qg w _⟩
 all_goals
  rw [← HM.out];first
   | rfl
   | (refine congrArg (fun b => Ending.returned (Value.bool b)) ?_; rw [Bool.eq_iff_iff]; simp [wi]; done)
   | (refine congrArg (fun b => Ending.returned (Value.bool b)) ?_; rw [Bool.eq_iff_iff]; simp [wi]; omega)
theorem may_7 (x : Lab) (k : F) (w : World) (hd : NdAt w (x, k)) (hk : x.kind = 7) : Calls Tryd.prog 50 #[ndV x] w (BoolB (mayP (x, k)) w) := by
 obtain ⟨hlab, hrg, hkd⟩ := hd;obtain ⟨a, cap, hkv⟩ := kids_len hkd;obtain ⟨xk, xa, xc, xs, xset, xneg, xn, xm, xmode, xname, xon, xoff, xkv⟩ := x;simp only at hkd hkv hrg hlab hk;subst hkv hk;obtain ⟨R, hR⟩ : ∃ R, mayP (⟨7, xa, xc, xs, xset, xneg, xn, xm, xmode, xname, xon, xoff, .slice a k.len cap⟩, k) = R := ⟨_, rfl⟩;rw [hR];have HM := xH (show (decide (k.len = 0) && (wi xm 0 3 && wi xn 0 255)) = R by rw [← hR]; rfl);obtain ⟨n, hn⟩ : ∃ n, k.len = n := ⟨_, rfl⟩;rw [hn] at HM ⊢;clear hkd hrg hlab hn hR;unfold ndV;go_enter Tryd.func50, Tryd.ntmps50;go_wp2_with fail
 all_goals go_ret
 all_goals refine ⟨?_, qg w _⟩
 all_goals
  rw [← HM.out];first
   | rfl
   | (refine congrArg (fun b => Ending.returned (Value.bool b)) ?_; rw [Bool.eq_iff_iff]; simp [wi]; done)
   | (refine congrArg (fun b => Ending.returned (Value.bool b)) ?_; rw [Bool.eq_iff_iff]; simp [wi]; omega)
theorem may_8 (x : Lab) (k : F) (w : World) (hd : NdAt w (x, k)) (hk : x.kind = 8) : Calls Tryd.prog 50 #[ndV x] w (BoolB (mayP (x, k)) w) := by
 obtain ⟨hlab, hrg, hkd⟩ := hd;obtain ⟨a, cap, hkv⟩ := kids_len hkd;obtain ⟨xk, xa, xc, xs, xset, xneg, xn, xm, xmode, xname, xon, xoff, xkv⟩ := x;simp only at hkd hkv hrg hlab hk;subst hkv hk;obtain ⟨R, hR⟩ : ∃ R, mayP (⟨8, xa, xc, xs, xset, xneg, xn, xm, xmode, xname, xon, xoff, .slice a k.len cap⟩, k) = R := ⟨_, rfl⟩;rw [hR];have HM := xH (show (decide (k.len = 0) && (wi xm 0 3 && wi xn 0 255)) = R by rw [← hR]; rfl);obtain ⟨n, hn⟩ : ∃ n, k.len = n := ⟨_, rfl⟩;rw [hn] at HM ⊢;clear hkd hrg hlab hn hR;unfold ndV;go_enter Tryd.func50, Tryd.ntmps50;go_wp2_with fail
 all_goals go_ret
 all_goals refine ⟨?_, qg w _⟩
 all_goals
  rw [← HM.out];first
   | rfl
   | (refine congrArg (fun b => Ending.returned (Value.bool b)) ?_; rw [Bool.eq_iff_iff]; simp [wi]; done)
   | (refine congrArg (fun b => Ending.returned (Value.bool b)) ?_; rw [Bool.eq_iff_iff]; simp [wi]; omega)
theorem may_9 (x : Lab) (k : F) (w : World) (hd : NdAt w (x, k)) (hk : x.kind = 9) : Calls Tryd.prog 50 #[ndV x] w (BoolB (mayP (x, k)) w) := by
 obtain ⟨hlab, hrg, hkd⟩ := hd;obtain ⟨a, cap, hkv⟩ := kids_len hkd;obtain ⟨xk, xa, xc, xs, xset, xneg, xn, xm, xmode, xname, xon, xoff, xkv⟩ := x;simp only at hkd hkv hrg hlab hk;subst hkv hk;obtain ⟨R, hR⟩ : ∃ R, mayP (⟨9, xa, xc, xs, xset, xneg, xn, xm, xmode, xname, xon, xoff, .slice a k.len cap⟩, k) = R := ⟨_, rfl⟩;rw [hR];have HM := xH (show (decide (k.len = 0) && wi xn 1 7) = R by rw [← hR]; rfl);obtain ⟨n, hn⟩ : ∃ n, k.len = n := ⟨_, rfl⟩;rw [hn] at HM ⊢;clear hkd hrg hlab hn hR;unfold ndV;go_enter Tryd.func50, Tryd.ntmps50;go_wp2_with fail
 all_goals go_ret
 all_goals refine ⟨?_, qg w _⟩
 all_goals
  rw [← HM.out];first
   | rfl
   | (refine congrArg (fun b => Ending.returned (Value.bool b)) ?_; rw [Bool.eq_iff_iff]; simp [wi]; done)
   | (refine congrArg (fun b => Ending.returned (Value.bool b)) ?_; rw [Bool.eq_iff_iff]; simp [wi]; omega)
theorem may_10 (x : Lab) (k : F) (w : World) (hd : NdAt w (x, k)) (hk : x.kind = 10) : Calls Tryd.prog 50 #[ndV x] w (BoolB (mayP (x, k)) w) := by
 obtain ⟨hlab, hrg, hkd⟩ := hd;obtain ⟨a, cap, hkv⟩ := kids_len hkd;obtain ⟨xk, xa, xc, xs, xset, xneg, xn, xm, xmode, xname, xon, xoff, xkv⟩ := x;simp only at hkd hkv hrg hlab hk;subst hkv hk;obtain ⟨R, hR⟩ : ∃ R, mayP (⟨10, xa, xc, xs, xset, xneg, xn, xm, xmode, xname, xon, xoff, .slice a k.len cap⟩, k) = R := ⟨_, rfl⟩;rw [hR];have HM := xH (show (decide (k.len = 0) && wi xn 0 255) = R by rw [← hR]; rfl);obtain ⟨n, hn⟩ : ∃ n, k.len = n := ⟨_, rfl⟩;rw [hn] at HM ⊢;clear hkd hrg hlab hn hR;unfold ndV;go_enter Tryd.func50, Tryd.ntmps50;go_wp2_with fail
 all_goals go_ret
 all_goals refine ⟨?_, qg w _⟩
 all_goals
  rw [← HM.out];first
   | rfl
   | (refine congrArg (fun b => Ending.returned (Value.bool b)) ?_; rw [Bool.eq_iff_iff]; simp [wi]; done)
   | (refine congrArg (fun b => Ending.returned (Value.bool b)) ?_; rw [Bool.eq_iff_iff]; simp [wi]; omega)
theorem may_12 (x : Lab) (k : F) (w : World) (hd : NdAt w (x, k)) (hk : x.kind = 12) : Calls Tryd.prog 50 #[ndV x] w (BoolB (mayP (x, k)) w) := by
 obtain ⟨hlab, hrg, hkd⟩ := hd;obtain ⟨a, cap, hkv⟩ := kids_len hkd;obtain ⟨xk, xa, xc, xs, xset, xneg, xn, xm, xmode, xname, xon, xoff, xkv⟩ := x;simp only at hkd hkv hrg hlab hk;subst hkv hk;obtain ⟨R, hR⟩ : ∃ R, mayP (⟨12, xa, xc, xs, xset, xneg, xn, xm, xmode, xname, xon, xoff, .slice a k.len cap⟩, k) = R := ⟨_, rfl⟩;rw [hR];have HM := xH (show (decide (k.len ≠ 1)) = R by rw [← hR]; rfl);obtain ⟨n, hn⟩ : ∃ n, k.len = n := ⟨_, rfl⟩;rw [hn] at HM ⊢;clear hkd hrg hlab hn hR;unfold ndV;go_enter Tryd.func50, Tryd.ntmps50;go_wp2_with fail
 all_goals go_ret
 all_goals refine ⟨?_, qg w _⟩
 all_goals
  rw [← HM.out];first
   | rfl
   | (refine congrArg (fun b => Ending.returned (Value.bool b)) ?_; rw [Bool.eq_iff_iff]; simp []; done)
   | (refine congrArg (fun b => Ending.returned (Value.bool b)) ?_; rw [Bool.eq_iff_iff]; simp []; omega)
theorem may_13 (x : Lab) (k : F) (w : World) (hd : NdAt w (x, k)) (hk : x.kind = 13) : Calls Tryd.prog 50 #[ndV x] w (BoolB (mayP (x, k)) w) := by
 obtain ⟨hlab, hrg, hkd⟩ := hd;obtain ⟨a, cap, hkv⟩ := kids_len hkd;obtain ⟨xk, xa, xc, xs, xset, xneg, xn, xm, xmode, xname, xon, xoff, xkv⟩ := x;simp only at hkd hkv hrg hlab hk;subst hkv hk;obtain ⟨R, hR⟩ : ∃ R, mayP (⟨13, xa, xc, xs, xset, xneg, xn, xm, xmode, xname, xon, xoff, .slice a k.len cap⟩, k) = R := ⟨_, rfl⟩;rw [hR];have HM := xH (show (decide (2 ≤ k.len)) = R by rw [← hR]; rfl);obtain ⟨n, hn⟩ : ∃ n, k.len = n := ⟨_, rfl⟩;rw [hn] at HM ⊢;clear hkd hrg hlab hn hR;unfold ndV;go_enter Tryd.func50, Tryd.ntmps50;go_wp2_with fail
 all_goals go_ret
 all_goals refine ⟨?_, qg w _⟩
 all_goals
  rw [← HM.out];first
   | rfl
   | (refine congrArg (fun b => Ending.returned (Value.bool b)) ?_; rw [Bool.eq_iff_iff]; simp []; done)
   | (refine congrArg (fun b => Ending.returned (Value.bool b)) ?_; rw [Bool.eq_iff_iff]; simp []; omega)
theorem may_16 (x : Lab) (k : F) (w : World) (hd : NdAt w (x, k)) (hk : x.kind = 16) : Calls Tryd.prog 50 #[ndV x] w (BoolB (mayP (x, k)) w) := by
 obtain ⟨hlab, hrg, hkd⟩ := hd;obtain ⟨a, cap, hkv⟩ := kids_len hkd;obtain ⟨xk, xa, xc, xs, xset, xneg, xn, xm, xmode, xname, xon, xoff, xkv⟩ := x;simp only at hkd hkv hrg hlab hk;subst hkv hk;obtain ⟨R, hR⟩ : ∃ R, mayP (⟨16, xa, xc, xs, xset, xneg, xn, xm, xmode, xname, xon, xoff, .slice a k.len cap⟩, k) = R := ⟨_, rfl⟩;rw [hR];have HM := xH (show (decide (1 ≤ k.len)) = R by rw [← hR]; rfl);obtain ⟨n, hn⟩ : ∃ n, k.len = n := ⟨_, rfl⟩;rw [hn] at HM ⊢;clear hkd hrg hlab hn hR;unfold ndV;go_enter Tryd.func50, Tryd.ntmps50;go_wp2_with fail
 all_goals go_ret
 all_goals refine ⟨?_, qg w _⟩
 all_goals
  rw [← HM.out];first
   | rfl
   | (refine congrArg (fun b => Ending.returned (Value.bool b)) ?_; rw [Bool.eq_iff_iff]; simp []; done)
   | (refine congrArg (fun b => Ending.returned (Value.bool b)) ?_; rw [Bool.eq_iff_iff]; simp []; omega)
theorem may_14 (x : Lab) (k : F) (w : World) (hd : NdAt w (x, k)) (hk : x.kind = 14) : Calls Tryd.prog 50 #[ndV x] w (BoolB (mayP (x, k)) w) := by
 obtain ⟨hlab, hrg, hkd⟩ := hd;obtain ⟨a, cap, hkv⟩ := kids_len hkd;obtain ⟨xk, xa, xc, xs, xset, xneg, xn, xm, xmode, xname, xon, xoff, xkv⟩ := x;simp only at hkd hkv hrg hlab hk;subst hkv hk;obtain ⟨R, hR⟩ : ∃ R, mayP (⟨14, xa, xc, xs, xset, xneg, xn, xm, xmode, xname, xon, xoff, .slice a k.len cap⟩, k) = R := ⟨_, rfl⟩;rw [hR];have HM := xH (show (decide (k.len = 1)) = R by rw [← hR]; rfl);obtain ⟨n, hn⟩ : ∃ n, k.len = n := ⟨_, rfl⟩;rw [hn] at HM ⊢;clear hkd hrg hlab hn hR;unfold ndV;go_enter Tryd.func50, Tryd.ntmps50;go_wp2_with fail
 all_goals go_ret
 all_goals refine ⟨?_, qg w _⟩
 all_goals
  rw [← HM.out];first
   | rfl
   | (refine congrArg (fun b => Ending.returned (Value.bool b)) ?_; rw [Bool.eq_iff_iff]; simp []; done)
   | (refine congrArg (fun b => Ending.returned (Value.bool b)) ?_; rw [Bool.eq_iff_iff]; simp []; omega)
theorem may_15 (x : Lab) (k : F) (w : World) (hd : NdAt w (x, k)) (hk : x.kind = 15) : Calls Tryd.prog 50 #[ndV x] w (BoolB (mayP (x, k)) w) := by
 obtain ⟨hlab, hrg, hkd⟩ := hd;obtain ⟨a, cap, hkv⟩ := kids_len hkd;obtain ⟨xk, xa, xc, xs, xset, xneg, xn, xm, xmode, xname, xon, xoff, xkv⟩ := x;simp only at hkd hkv hrg hlab hk;subst hkv hk;obtain ⟨R, hR⟩ : ∃ R, mayP (⟨15, xa, xc, xs, xset, xneg, xn, xm, xmode, xname, xon, xoff, .slice a k.len cap⟩, k) = R := ⟨_, rfl⟩;rw [hR];have HM := xH (show (decide (k.len = 1)) = R by rw [← hR]; rfl);obtain ⟨n, hn⟩ : ∃ n, k.len = n := ⟨_, rfl⟩;rw [hn] at HM ⊢;clear hkd hrg hlab hn hR;unfold ndV;go_enter Tryd.func50, Tryd.ntmps50;go_wp2_with fail
 all_goals go_ret
 all_goals refine ⟨?_, qg w _⟩
 all_goals
  rw [← HM.out];first
   | rfl
   | (refine congrArg (fun b => Ending.returned (Value.bool b)) ?_; rw [Bool.eq_iff_iff]; simp []; done)
   | (refine congrArg (fun b => Ending.returned (Value.bool b)) ?_; rw [Bool.eq_iff_iff]; simp []; omega)
theorem may_17 (x : Lab) (k : F) (w : World) (hd : NdAt w (x, k)) (hk : x.kind = 17) : Calls Tryd.prog 50 #[ndV x] w (BoolB (mayP (x, k)) w) := by
 obtain ⟨hlab, hrg, hkd⟩ := hd;obtain ⟨a, cap, hkv⟩ := kids_len hkd;obtain ⟨xk, xa, xc, xs, xset, xneg, xn, xm, xmode, xname, xon, xoff, xkv⟩ := x;simp only at hkd hkv hrg hlab hk;subst hkv hk;obtain ⟨R, hR⟩ : ∃ R, mayP (⟨17, xa, xc, xs, xset, xneg, xn, xm, xmode, xname, xon, xoff, .slice a k.len cap⟩, k) = R := ⟨_, rfl⟩;rw [hR];have HM := xH (show (decide (k.len = 1)) = R by rw [← hR]; rfl);obtain ⟨n, hn⟩ : ∃ n, k.len = n := ⟨_, rfl⟩;rw [hn] at HM ⊢;clear hkd hrg hlab hn hR;unfold ndV;go_enter Tryd.func50, Tryd.ntmps50;go_wp2_with fail
 all_goals go_ret
 all_goals refine ⟨?_, qg w _⟩
 all_goals
  rw [← HM.out];first
   | rfl
   | (refine congrArg (fun b => Ending.returned (Value.bool b)) ?_; rw [Bool.eq_iff_iff]; simp []; done)
   | (refine congrArg (fun b => Ending.returned (Value.bool b)) ?_; rw [Bool.eq_iff_iff]; simp []; omega)
theorem may_18 (x : Lab) (k : F) (w : World) (hd : NdAt w (x, k)) (hk : x.kind = 18) : Calls Tryd.prog 50 #[ndV x] w (BoolB (mayP (x, k)) w) := by
 obtain ⟨hlab, hrg, hkd⟩ := hd;obtain ⟨a, cap, hkv⟩ := kids_len hkd;obtain ⟨xk, xa, xc, xs, xset, xneg, xn, xm, xmode, xname, xon, xoff, xkv⟩ := x;simp only at hkd hkv hrg hlab hk;subst hkv hk;obtain ⟨R, hR⟩ : ∃ R, mayP (⟨18, xa, xc, xs, xset, xneg, xn, xm, xmode, xname, xon, xoff, .slice a k.len cap⟩, k) = R := ⟨_, rfl⟩;rw [hR];have HM := xH (show (decide (k.len = 1) && wi xn 5 8) = R by rw [← hR]; rfl);obtain ⟨n, hn⟩ : ∃ n, k.len = n := ⟨_, rfl⟩;rw [hn] at HM ⊢;clear hkd hrg hlab hn hR;unfold ndV;go_enter Tryd.func50, Tryd.ntmps50;go_wp2_with fail
 all_goals go_ret
 all_goals refine ⟨?_, qg w _⟩
 all_goals
  rw [← HM.out];first
   | rfl
   | (refine congrArg (fun b => Ending.returned (Value.bool b)) ?_; rw [Bool.eq_iff_iff]; simp [wi]; done)
   | (refine congrArg (fun b => Ending.returned (Value.bool b)) ?_; rw [Bool.eq_iff_iff]; simp [wi]; omega)
end Go.Proofs.YtnpcombfgdbhkaaDoor.trw
end
section
namespace Go.Proofs.YtnpcombfgdbhkaaDoor.trw
open sq
open Go Go.RowKit trp
theorem len_one {k : F} (h : 1 ≤ k.len) : ∃ x k' r, k = .cons x k' r := by
 cases k with
 | nil => simp [F.len] at h
 | cons x k' r => exact ⟨x, k', r, rfl⟩
theorem hd_at {w : World} {a : Option Addr} {n cap : Nat} {k : F} (h : jr w (.slice a n cap) k) (h1 : 1 ≤ k.len) : ∃ b o, a = some ⟨b, o, none⟩ ∧ w.cell? ⟨b, o, none⟩ = some (.int .i64 k.hd) := by
 obtain ⟨a', cap', e1, _, _, e4 | ⟨b, o, e4, e5⟩⟩ := h
 ·omega
 ·simp only [Value.slice.injEq] at e1;obtain ⟨rfl, rfl, rfl⟩ := e1;obtain ⟨x, k', r, rfl⟩ := len_one h1;exact ⟨b, o, e4, e5.1 0 _ rfl⟩
theorem may_2 (x : Lab) (k : F) (w : World) (hd : NdAt w (x, k)) (hk : x.kind = 2) : Calls Tryd.prog 50 #[ndV x] w (BoolB (mayP (x, k)) w) := by
 obtain ⟨hlab, hrg, hkd⟩ := hd;obtain ⟨a, cap, hkv⟩ := kids_len hkd;obtain ⟨xk, xa, xc, xs, xset, xneg, xn, xm, xmode, xname, xon, xoff, xkv⟩ := x;simp only at hkd hkv hrg hlab hk;subst hkv;subst hk;obtain ⟨R, hR⟩ : ∃ R, mayP (⟨2, xa, xc, xs, xset, xneg, xn, xm, xmode, xname, xon, xoff, .slice a k.len cap⟩, k) = R := ⟨_, rfl⟩;rw [hR];have HM := xH (show (decide (k.len = 0) && rises 0 xset) = R by rw [← hR]; rfl);obtain ⟨n, hn⟩ : ∃ n, k.len = n := ⟨_, rfl⟩;rw [hn] at HM ⊢;have HS := xH (rrises_any xs xset (w.alloc (.cells #[.int .i64 2, .int .i64 xa, .int .i64 xc, xs, .bool xneg, .int .i64 xn, .int .i64 xm, .int .i64 xmode, .string xname, .int .i64 xon, .int .i64 xoff, .slice a n cap] 31)) (rgAt_mono (fun _ _ hc => qf (qg w _) hc) hrg));clear hkd hrg hlab hn hR;generalize rises 0 xset = q at *;unfold ndV;go_enter Tryd.func50, Tryd.ntmps50;by_cases hn0 : n = 0
 ·subst hn0;go_wp2_with fail
  refine HS.out.mono ?_;rintro e w2 ⟨rfl, hb2⟩;go_wp2_with fail
  go_ret
  refine ⟨?_, below_box hb2⟩;rw [← HM.out];rfl
 ·have hn1 : ((n : Int) == 0) = false := by simp; omega
  go_wp2_with fail
  go_ret
  refine ⟨?_, qg w _⟩;rw [← HM.out];simp [hn0]
theorem may_19 (x : Lab) (k : F) (w : World) (hd : NdAt w (x, k)) (hk : x.kind = 19) : Calls Tryd.prog 50 #[ndV x] w (BoolB (mayP (x, k)) w) := by
 obtain ⟨hlab, hrg, hkd⟩ := hd;obtain ⟨a, cap, hkv⟩ := kids_len hkd;obtain ⟨xk, xa, xc, xs, xset, xneg, xn, xm, xmode, xname, xon, xoff, xkv⟩ := x;simp only at hkd hkv hrg hlab hk;subst hkv;subst hk;obtain ⟨R, hR⟩ : ∃ R, mayP (⟨19, xa, xc, xs, xset, xneg, xn, xm, xmode, xname, xon, xoff, .slice a k.len cap⟩, k) = R := ⟨_, rfl⟩;rw [hR];have HM := xH (show (wi xmode (-1) 255 && wi xm 0 3 && (if xn = 9 ∨ xn = 10 ∨ xn = 11 then wi k.len 1 2 else if xn = 12 then decide (k.len = 1) else if xn = 13 then wi k.len 2 3 && decide (k.hd = 18) else false)) = R by rw [← hR]; rfl);clear hR hrg hlab;by_cases hin : xmode < -1 ∨ 255 < xmode ∨ xm < 0 ∨ 3 < xm ∨ xn < 9 ∨ 13 < xn
 ·have HF := xH (show false = R by
   rw [← HM.out];symm
   rw [Bool.eq_false_iff];intro hh;simp only [Bool.and_eq_true, wi, decide_eq_true_eq] at hh;obtain ⟨⟨⟨h1, h2⟩, h3, h4⟩, h5⟩ := hh;rw [if_neg (by omega), if_neg (by omega), if_neg (by omega)] at h5;cases h5)
  clear hkd HM;unfold ndV;go_enter Tryd.func50, Tryd.ntmps50;rcases (show xmode < -1 ∨ (-1 ≤ xmode ∧ 255 < xmode) ∨ (-1 ≤ xmode ∧ xmode ≤ 255 ∧ xm < 0) ∨ (-1 ≤ xmode ∧ xmode ≤ 255 ∧ 0 ≤ xm ∧ 3 < xm) ∨ (-1 ≤ xmode ∧ xmode ≤ 255 ∧ 0 ≤ xm ∧ xm ≤ 3 ∧ xn < 9) ∨ (-1 ≤ xmode ∧ xmode ≤ 255 ∧ 0 ≤ xm ∧ xm ≤ 3 ∧ 9 ≤ xn ∧ 13 < xn) by omega) with h | ⟨h, h2⟩ | ⟨h, h2, h3⟩ | ⟨h, h2, h3, h4⟩ | ⟨h, h2, h3, h4, h5⟩ | ⟨h, h2, h3, h4, h5, h6⟩
  all_goals
   clear hin;go_wp2_with fail
   go_ret
   exact ⟨by rw [← HF.out]; rfl, qg w _⟩
 ·simp only [not_or] at hin;obtain ⟨h1, h2, h3, h4, h5, h6⟩ := hin;have h1 : -1 ≤ xmode := by omega
  have h2 : xmode ≤ 255 := by omega
  have h3 : 0 ≤ xm := by omega
  have h4 : xm ≤ 3 := by omega
  have HM2 := xH (show (if xn = 9 ∨ xn = 10 ∨ xn = 11 then wi k.len 1 2 else if xn = 12 then decide (k.len = 1) else if xn = 13 then wi k.len 2 3 && decide (k.hd = 18) else false) = R by rw [← HM.out]; simp [wi, h1, h2, h3, h4]);clear HM;by_cases h13 : xn = 13
  ·subst h13;have HM3 := xH (show (wi k.len 2 3 && decide (k.hd = 18)) = R by rw [← HM2.out, if_neg (by omega), if_neg (by omega), if_pos rfl]);clear HM2;by_cases h23 : k.len = 2 ∨ k.len = 3
   ·obtain ⟨b, o, rfl, hc⟩ := hd_at hkd (by omega);have hcb := qf (qg w (.cells #[.int .i64 19, .int .i64 xa, .int .i64 xc, xs, .bool xneg, .int .i64 13, .int .i64 xm, .int .i64 xmode, .string xname, .int .i64 xon, .int .i64 xoff, .slice (some ⟨b, o, none⟩) k.len cap] 31)) hc;have HM := xH (show decide (k.hd = 18) = R by rw [← HM3.out]; rcases h23 with h | h <;> simp [wi, h]);clear HM3 hkd hc;rcases h23 with h | h
    all_goals
     simp only [h] at hcb;rw [h];generalize k.hd = q at *;clear h;unfold ndV;go_enter Tryd.func50, Tryd.ntmps50;go_wp2_with fail
     all_goals go_ret
     all_goals refine ⟨?_, qg w _⟩
     all_goals
      rw [← HM.out];first
       | rfl
       | (refine congrArg (fun b => Ending.returned (Value.bool b)) ?_; rw [Bool.eq_iff_iff]; simp; done)
   ·have HM := xH (show false = R by rw [← HM3.out]; symm; rw [Bool.eq_false_iff]; intro hh; simp [wi] at hh; omega);obtain ⟨n, hn⟩ : ∃ n, k.len = n := ⟨_, rfl⟩;rw [hn] at h23 ⊢;have e2 : ((n : Int) == 2) = false := by simp; omega
    have e3 : ((n : Int) == 3) = false := by simp; omega
    clear hkd hn HM3 h23;unfold ndV;go_enter Tryd.func50, Tryd.ntmps50;go_wp2_with fail
    go_ret
    exact ⟨by rw [← HM.out]; rfl, qg w _⟩
  ·by_cases h12 : xn = 12
   ·subst h12;have HM := xH (show decide (k.len = 1) = R by rw [← HM2.out, if_neg (by omega), if_pos rfl]);obtain ⟨n, hn⟩ : ∃ n, k.len = n := ⟨_, rfl⟩;rw [hn] at HM ⊢;clear hkd hn HM2;unfold ndV;go_enter Tryd.func50, Tryd.ntmps50;go_wp2_with fail
    all_goals go_ret
    all_goals refine ⟨?_, qg w _⟩
    all_goals
     rw [← HM.out];first
      | rfl
      | (refine congrArg (fun b => Ending.returned (Value.bool b)) ?_; rw [Bool.eq_iff_iff]; simp; done)
      | (refine congrArg (fun b => Ending.returned (Value.bool b)) ?_; rw [Bool.eq_iff_iff]; simp; omega)
   ·have HM := xH (show wi k.len 1 2 = R by rw [← HM2.out, if_pos (by omega)]);obtain ⟨n, hn⟩ : ∃ n, k.len = n := ⟨_, rfl⟩;rw [hn] at HM ⊢;have e1 : (xn == 13) = false := by simp; omega
    have e2 : (xn == 12) = false := by simp; omega
    clear hkd hn HM2;unfold ndV;go_enter Tryd.func50, Tryd.ntmps50;go_wp2_with fail
    all_goals go_ret
    all_goals refine ⟨?_, qg w _⟩
    all_goals
     rw [← HM.out];first
      | rfl
      | (refine congrArg (fun b => Ending.returned (Value.bool b)) ?_; rw [Bool.eq_iff_iff]; simp [wi]; done)
      | (refine congrArg (fun b => Ending.returned (Value.bool b)) ?_; rw [Bool.eq_iff_iff]; simp [wi]; omega)
theorem may_no (x : Lab) (k : F) (w : World) (hd : NdAt w (x, k)) (hk : x.kind < 1 ∨ 20 < x.kind) : Calls Tryd.prog 50 #[ndV x] w (BoolB (mayP (x, k)) w) := by
 obtain ⟨hlab, hrg, hkd⟩ := hd;obtain ⟨a, cap, hkv⟩ := kids_len hkd;obtain ⟨xk, xa, xc, xs, xset, xneg, xn, xm, xmode, xname, xon, xoff, xkv⟩ := x;simp only at hkd hkv hrg hlab hk;subst hkv;have HF := xH (show mayP (⟨xk, xa, xc, xs, xset, xneg, xn, xm, xmode, xname, xon, xoff, .slice a k.len cap⟩, k) = false by unfold mayP leafP;simp only;rw [if_neg (by omega), if_neg (by omega), if_neg (by omega), if_neg (by omega), if_neg (by omega), if_neg (by omega), if_neg (by omega), if_neg (by omega), if_neg (by omega), if_neg (by omega), if_neg (by omega), if_neg (by omega), if_neg (by omega), if_neg (by omega)];exact Bool.and_false _)
 have n1 : (xk == 1) = false := by simp; omega
 have n2 : (xk == 2) = false := by simp; omega
 have n3 : (xk == 3) = false := by simp; omega
 have n4 : (xk == 4) = false := by simp; omega
 have n5 : (xk == 5) = false := by simp; omega
 have n6 : (xk == 6) = false := by simp; omega
 have n7 : (xk == 7) = false := by simp; omega
 have n8 : (xk == 8) = false := by simp; omega
 have n9 : (xk == 9) = false := by simp; omega
 have n10 : (xk == 10) = false := by simp; omega
 have n11 : (xk == 11) = false := by simp; omega
 have n12 : (xk == 12) = false := by simp; omega
 have n13 : (xk == 13) = false := by simp; omega
 have n14 : (xk == 14) = false := by simp; omega
 have n15 : (xk == 15) = false := by simp; omega
 have n16 : (xk == 16) = false := by simp; omega
 have n17 : (xk == 17) = false := by simp; omega
 have n18 : (xk == 18) = false := by simp; omega
 have n19 : (xk == 19) = false := by simp; omega
 have n20 : (xk == 20) = false := by simp; omega
 clear hkd hrg hlab hk;unfold ndV;go_enter Tryd.func50, Tryd.ntmps50;go_wp2_with fail
 go_ret
 exact ⟨by rw [HF.out]; rfl, qg w _⟩
end Go.Proofs.YtnpcombfgdbhkaaDoor.trw
end
section
namespace Go.Proofs.YtnpcombfgdbhkaaDoor.trw
open sq
open Go Go.RowKit trp
theorem may_20 (x : Lab) (k : F) (w : World) (hd : NdAt w (x, k)) (hk : x.kind = 20) : Calls Tryd.prog 50 #[ndV x] w (BoolB (mayP (x, k)) w) := by
 obtain ⟨hlab, hrg, hkd⟩ := hd;obtain ⟨a, cap, hkv⟩ := kids_len hkd;obtain ⟨xk, xa, xc, xs, xset, xneg, xn, xm, xmode, xname, xon, xoff, xkv⟩ := x;simp only at hkd hkv hrg hlab hk;subst hkv;subst hk;obtain ⟨R, hR⟩ : ∃ R, mayP (⟨20, xa, xc, xs, xset, xneg, xn, xm, xmode, xname, xon, xoff, .slice a k.len cap⟩, k) = R := ⟨_, rfl⟩;rw [hR];have HM := xH (show (decide (k.len = 1) && (wi xn 0 255 && (decide (xm = -1) || wi xm xn 255) && wi xmode 0 2 && repK k.hd)) = R by rw [← hR]; rfl);clear hR hrg hlab;by_cases hin : k.len ≠ 1 ∨ xn < 0 ∨ 255 < xn ∨ (xm ≠ -1 ∧ (xm < xn ∨ 255 < xm)) ∨ xmode < 0 ∨ 2 < xmode
 ·have HF := xH (show false = R by
   rw [← HM.out];symm
   rw [Bool.eq_false_iff];intro hh;simp only [Bool.and_eq_true, Bool.or_eq_true, wi, decide_eq_true_eq] at hh;omega)
  obtain ⟨n, hn⟩ : ∃ n, k.len = n := ⟨_, rfl⟩;rw [hn] at hin ⊢;clear hkd HM hn;unfold ndV;go_enter Tryd.func50, Tryd.ntmps50;rcases (show n ≠ 1 ∨ (n = 1 ∧ xn < 0) ∨ (n = 1 ∧ 0 ≤ xn ∧ 255 < xn) ∨ (n = 1 ∧ 0 ≤ xn ∧ xn ≤ 255 ∧ xm ≠ -1 ∧ xm < xn) ∨ (n = 1 ∧ 0 ≤ xn ∧ xn ≤ 255 ∧ xm ≠ -1 ∧ xn ≤ xm ∧ 255 < xm) ∨ (n = 1 ∧ 0 ≤ xn ∧ xn ≤ 255 ∧ xm = -1 ∧ xmode < 0) ∨ (n = 1 ∧ 0 ≤ xn ∧ xn ≤ 255 ∧ xm = -1 ∧ 0 ≤ xmode ∧ 2 < xmode) ∨ (n = 1 ∧ 0 ≤ xn ∧ xn ≤ 255 ∧ xm ≠ -1 ∧ xn ≤ xm ∧ xm ≤ 255 ∧ xmode < 0) ∨ (n = 1 ∧ 0 ≤ xn ∧ xn ≤ 255 ∧ xm ≠ -1 ∧ xn ≤ xm ∧ xm ≤ 255 ∧ 0 ≤ xmode ∧ 2 < xmode) by omega) with h | ⟨rfl, h⟩ | ⟨rfl, h, h2⟩ | ⟨rfl, h, h2, h3, h4⟩ | ⟨rfl, h, h2, h3, h4, h5⟩ | ⟨rfl, h, h2, rfl, h4⟩ | ⟨rfl, h, h2, rfl, h4, h5⟩ | ⟨rfl, h, h2, h3, h4, h5, h6⟩ | ⟨rfl, h, h2, h3, h4, h5, h6, h7⟩
  all_goals
   clear hin;first
    | have e1 : (n == 1) = false := by simp; omega
    | skip
   go_wp2_with fail
   go_ret
   exact ⟨by rw [← HF.out]; rfl, qg w _⟩
 ·have hl : k.len = 1 := by omega
  have HM2 := xH (show repK k.hd = R by
   rw [← HM.out];have a1 : wi xn 0 255 = true := by simp only [wi, Bool.and_eq_true, decide_eq_true_eq]; omega
   have a2 : wi xmode 0 2 = true := by simp only [wi, Bool.and_eq_true, decide_eq_true_eq]; omega
   have a3 : (decide (xm = -1) || wi xm xn 255) = true := by simp only [wi, Bool.or_eq_true, Bool.and_eq_true, decide_eq_true_eq]; omega
   rw [a1, a2, a3];simp [hl])
  obtain ⟨b, o, rfl, hc⟩ := hd_at hkd (by omega);have hcb := qf (qg w (.cells #[.int .i64 20, .int .i64 xa, .int .i64 xc, xs, .bool xneg, .int .i64 xn, .int .i64 xm, .int .i64 xmode, .string xname, .int .i64 xon, .int .i64 xoff, .slice (some ⟨b, o, none⟩) k.len cap] 31)) hc;have h1 : 0 ≤ xn := by omega
  have h2 : xn ≤ 255 := by omega
  have h4 : 0 ≤ xmode := by omega
  have h5 : xmode ≤ 2 := by omega
  have h3 : xm = -1 ∨ (xm ≠ -1 ∧ xn ≤ xm ∧ xm ≤ 255) := by omega
  clear hin HM hkd hc;rw [hl] at hcb ⊢;generalize k.hd = q at *;unfold ndV;go_enter Tryd.func50, Tryd.ntmps50;rcases h3 with rfl | ⟨h3, h6, h7⟩
  all_goals
   go_wp2_with fail
   all_goals go_ret
   all_goals refine ⟨?_, qg w _⟩
   all_goals
    rw [← HM2.out];first
     | rfl
     | (refine congrArg (fun b => Ending.returned (Value.bool b)) ?_; rw [Bool.eq_iff_iff]; simp [repK]; done)
     | (refine congrArg (fun b => Ending.returned (Value.bool b)) ?_; rw [Bool.eq_iff_iff]; simp [repK]; omega)
theorem may_any (x : Lab) (k : F) (w : World) (hd : NdAt w (x, k)) : Calls Tryd.prog 50 #[ndV x] w (BoolB (mayP (x, k)) w) := by
 by_cases hno : x.kind < 1 ∨ 20 < x.kind
 ·exact may_no x k w hd hno
 by_cases k1 : x.kind = 1
 ·exact may_1 x k w hd k1
 by_cases k2 : x.kind = 2
 ·exact may_2 x k w hd k2
 by_cases k3 : x.kind = 3
 ·exact may_3 x k w hd k3
 by_cases k4 : x.kind = 4
 ·exact may_4 x k w hd k4
 by_cases k5 : x.kind = 5
 ·exact may_5 x k w hd k5
 by_cases k6 : x.kind = 6
 ·exact may_6 x k w hd k6
 by_cases k7 : x.kind = 7
 ·exact may_7 x k w hd k7
 by_cases k8 : x.kind = 8
 ·exact may_8 x k w hd k8
 by_cases k9 : x.kind = 9
 ·exact may_9 x k w hd k9
 by_cases k10 : x.kind = 10
 ·exact may_10 x k w hd k10
 by_cases k11 : x.kind = 11
 ·exact may_11 x k w hd k11
 by_cases k12 : x.kind = 12
 ·exact may_12 x k w hd k12
 by_cases k13 : x.kind = 13
 ·exact may_13 x k w hd k13
 by_cases k14 : x.kind = 14
 ·exact may_14 x k w hd k14
 by_cases k15 : x.kind = 15
 ·exact may_15 x k w hd k15
 by_cases k16 : x.kind = 16
 ·exact may_16 x k w hd k16
 by_cases k17 : x.kind = 17
 ·exact may_17 x k w hd k17
 by_cases k18 : x.kind = 18
 ·exact may_18 x k w hd k18
 by_cases k19 : x.kind = 19
 ·exact may_19 x k w hd k19
 exact may_20 x k w hd (by omega)
end Go.Proofs.YtnpcombfgdbhkaaDoor.trw
end
