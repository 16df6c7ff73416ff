/- T -/
import Derived.Test.YtdgfclbajjjcgaaBWb24
set_option maxHeartbeats 16000000
set_option maxRecDepth 1000000
namespace Go.Proofs.Ytdgfclbajjjcgaa
section
namespace rfp
open sq
open Go tkp trp setp rtp rpp rsp gpp
def LfF : F → Prop
 | .nil => True
 | .cons x k r => (x.kind = 7 ∨ x.kind = 8 → k = .nil) ∧ LfF k ∧ LfF r
theorem lfF_app : ∀ {f g : F}, LfF f → LfF g → LfF (F.app f g)
 | .nil, _, _, h => h
 | .cons _ _ _, _, ⟨a, b, c⟩, h => ⟨a, b, lfF_app c h⟩
theorem lfF_one {x : Lab} {k : F} (h : x.kind ≠ 7 ∧ x.kind ≠ 8) (hk : LfF k) : LfF (F.one x k) := ⟨fun e => absurd e (fun c => c.elim h.1 h.2), hk, trivial⟩
theorem lfF_j (K : Int) {x : Lab} {k : F} (hk : LfF k) (e : x.kind = K := by rfl) (h : K ≠ 7 ∧ K ≠ 8 := by decide) : LfF (F.one x k) := lfF_one (by rw [e]; exact h) hk
theorem lfF_leaf (x : Lab) : LfF (F.one x .nil) := ⟨fun _ => rfl, trivial, trivial⟩
theorem lfF_oneF (K : Int) (hK : K ≠ 7 ∧ K ≠ 8) : ∀ {l : F}, LfF l → LfF (oneF K l)
 | .nil, h => lfF_one hK h
 | .cons _ _ .nil, h => h
 | .cons _ _ (.cons _ _ _), h => lfF_one hK h
theorem lfF_group {t : Tk} {look l : F} (h : LfF look) (hl : LfF l) : LfF (jf t look l) := by
 have a := lfF_oneF 13 (by decide) hl;unfold jf;split
 ·exact lfF_j 14 a
 split
 ·exact lfF_j 15 a
 split
 ·exact lfF_j 17 a
 split
 ·exact lfF_j 18 a
 split
 ·exact lfF_j 16 hl
 ·exact lfF_j 19 (lfF_app h hl)
def AccL : Md → Prop
 | .alt acc => LfF acc
 | .seq acc => LfF acc
 | .thing => True
theorem run_lfF {L : List Tk} : ∀ (f : Nat) (md : Md) (s : Ps), AccL md → LfF (run L f md s).1
 | 0, _, _, _ => trivial
 | f + 1, .alt acc, s, h => by
  have a := run_lfF (L := L) f (.seq .nil) s trivial;have b : AccL (.alt (F.app acc (run L f (.seq .nil) s).1)) := lfF_app h a;rw [run];simp only;split
  ·exact run_lfF f _ _ b
  ·exact b
 | f + 1, .seq acc, s, h => by
  have a := run_lfF (L := L) f .thing s trivial;rw [run];split
  ·exact lfF_oneF 12 (by decide) h
  split
  ·exact lfF_leaf _
  simp only;split
  ·exact run_lfF f _ _ (lfF_app h (lfF_j 20 a))
  ·exact run_lfF f _ _ (lfF_app h a)
 | f + 1, .thing, s, _ => by
  rw [run];simp only;split
  ·exact lfF_leaf _
  split
  ·exact lfF_leaf _
  obtain ⟨q, hq⟩ : ∃ q, (if (L.getD s.i zeroT).n = 13 ∧ kindS L { s with i := s.i + 1, op := s.op + 1 } = 10 then run L f .thing { s with i := s.i + 1, op := s.op + 1 } else (.nil, { s with i := s.i + 1, op := s.op + 1 })) = q := ⟨_, rfl⟩;have hq1 : LfF q.1 := by
   rw [← hq];split
   ·exact run_lfF f .thing _ trivial
   ·exact trivial
  rw [hq];split
  ·exact lfF_leaf _
  ·exact lfF_group hq1 (run_lfF f (.alt .nil) _ trivial)
theorem parse_lfF {L : List Tk} {n : Int} {q : F} (h : parseP L n = .ok q) : LfF q := by
 unfold parseP at h;simp only at h;have e : oneF 13 (run L (3 * L.length + 3) (.alt .nil) { i := 0 }).1 = q := by generalize (if (run L (3 * L.length + 3) (.alt .nil) { i := 0 }).2.e = 0 ∧ (run L (3 * L.length + 3) (.alt .nil) { i := 0 }).2.i < L.length then failS (run L (3 * L.length + 3) (.alt .nil) { i := 0 }).2 _ _ else (run L (3 * L.length + 3) (.alt .nil) { i := 0 }).2) = z at h;exact z110
 rw [← e];exact lfF_oneF 13 (by decide) (run_lfF _ (.alt .nil) _ trivial)
theorem strip_nil {f : F} (h : f = .nil) : strip f = .nil := by rw [h]; rfl
theorem strip_lfF : ∀ {f : F}, LfF f → LfF (strip f)
 | .nil, h => h
 | .cons _ _ _, ⟨a, b, c⟩ => ⟨fun e => strip_nil (a e), strip_lfF b, strip_lfF c⟩
theorem listF_lfF {x : Lab} {k : F} (h : x.kind = 7 ∨ x.kind = 8 → k = .nil) (hk : LfF k) : LfF (listF x k) := by
 unfold listF;split
 ·exact hk
 ·exact ⟨h, hk, trivial⟩
theorem flatF_lfF : ∀ {f : F}, LfF f → LfF (flatF f)
 | .nil, h => h
 | .cons _ _ _, ⟨a, b, c⟩ => lfF_app (listF_lfF a b) (flatF_lfF c)
theorem firstF_lfF : ∀ {f : F}, LfF f → LfF (firstF f)
 | .nil, h => h
 | .cons _ _ _, ⟨a, b, _⟩ => ⟨a, b, trivial⟩
theorem setL_lfF (a : Int) (l : List Rg) : LfF (setL a l) := lfF_leaf _
theorem nodeP_lfF (u : Bool) (m : Int) (rk : Int → F × Int) (hr : ∀ f, LfF (rk f).1) (x : Lab) (k : F) (hn : ∀ f, k = .nil → (rk f).1 = .nil) (f : Int) (hx : x.kind = 7 ∨ x.kind = 8 → k = .nil) (hk : LfF k) : LfF (nodeP u m rk x k f).1 := by
 unfold nodeP;split
 ·exact setL_lfF _ _
 split
 ·exact setL_lfF _ _
 split
 ·exact setL_lfF _ _
 split
 ·rename_i h4;exact lfF_one (show x.kind ≠ 7 ∧ x.kind ≠ 8 by omega) (strip_lfF hk)
 split
 ·exact lfF_j 17 (lfF_j 13 (lfF_app (lfF_j 12 (lfF_app (setL_lfF _ _) (setL_lfF _ _))) (setL_lfF _ _)))
 split
 ·exact ⟨fun c => strip_nil (hx c), strip_lfF hk, trivial⟩
 split
 ·exact lfF_leaf _
 split
 ·exact lfF_oneF 12 (by decide) (flatF_lfF (hr f))
 split
 ·exact ⟨fun c => hn f (hx c), hr f, trivial⟩
 split
 ·exact firstF_lfF (hr _)
 ·exact ⟨fun c => hn f (hx c), hr f, trivial⟩
theorem rowP_lfF (u : Bool) (m : Int) : ∀ (l : F) (f : Int), LfF l → LfF (rowP u m l f).1
 | .nil, _, _ => trivial
 | .cons x k r, f, ⟨a, b, c⟩ => by rw [rowP];exact lfF_app (nodeP_lfF u m _ (fun g => rowP_lfF u m k g b) x k (fun _ e => by rw [e]; rfl) f a b) (rowP_lfF u m r _ c)
theorem resP_lfF (t : Nd) (o : Int) (h : LfF (F.one t.1 t.2)) : LfF (resP t o) := by unfold resP;exact nodeP_lfF _ _ _ (fun g => rowP_lfF _ _ t.2 g h.2.1) t.1 t.2 (fun _ e => by rw [e]; rfl) _ h.1 h.2.1
theorem refF_lfF : ∀ (l : F) (rs : Bool) (last most : Int), LfF l → LfF (refF rs last l most).1
 | .nil, _, _, _, _ => trivial
 | .cons x k r, rs, last, most, ⟨a, b, c⟩ => by
  rw [refF];refine ⟨fun e => ?_, refF_lfF k _ _ _ b, refF_lfF r _ _ _ c⟩;have e : x.kind = 7 ∨ x.kind = 8 := by revert e;split <;> exact id
  rw [a e];rfl
end rfp
end
section
namespace rdw
open sq
open Go.Sort Go Go.RowKit Go.Maps setp setw tkp trp trw rpp gpp rfp rfw sq
open gqw (NmI9 nm_blw9 name_n9)
def eN (E : Option Int) : Int := match E with
 | none => 0
 | some _ => 34
structure DS (w0 : World) (G : Nat) (cnt : Int) (v : Value) (E : Option Int) (w : World) : Prop where
 be : Below w0.heap.size w0 w
 g : w.heap[G]? = some (.cells #[.int .i64 cnt, v, .int .i64 (eN E), .int .i64 (E.getD 0)] 75 (0, 0))
 hg : w0.heap.size ≤ G
theorem DS.lt {w0 w : World} {G : Nat} {cnt : Int} {v : Value} {E : Option Int} (R : DS w0 G cnt v E w) : G < w.heap.size := (Array.getElem?_eq_some_iff.1 R.g).1
theorem DS.keep {w0 w w' : World} {G : Nat} {cnt : Int} {v : Value} {E : Option Int} (R : DS w0 G cnt v E w) (hb : Below w.heap.size w w') : DS w0 G cnt v E w' := ⟨R.be.trans (hb.mono R.be.size), (hb.block G R.lt).trans R.g, R.hg⟩
theorem DS.c {w0 w : World} {G : Nat} {cnt : Int} {v : Value} {E : Option Int} (R : DS w0 G cnt v E w) : w.cell? ⟨G, 0, none⟩ = some (.int .i64 cnt) ∧ w.cell? ⟨G, 1, none⟩ = some v ∧ w.cell? ⟨G, 2, none⟩ = some (.int .i64 (eN E)) ∧ w.cell? ⟨G, 3, none⟩ = some (.int .i64 (E.getD 0)) ∧ w.frozen? ⟨G, 2, none⟩ = false ∧ w.frozen? ⟨G, 3, none⟩ = false := by have := R.g;refine ⟨?_, ?_, ?_, ?_, ?_, ?_⟩ <;> simp [World.cell?, World.frozen?, this]
def Cg (G : Nat) (w w' : World) : Prop := gpw.Chg w.heap.size G 0 0 w w'
theorem Cg.of {G : Nat} {w w' : World} (h : Below w.heap.size w w') : Cg G w w' := gpw.Chg.of_below h (xL _)
theorem Cg.trans {G : Nat} {x y z : World} (h : Cg G x y) (k : Cg G y z) : Cg G x z :=
 ⟨k.os.trans h.os, k.tape.trans h.tape, k.output.trans h.output, Nat.le_trans h.size k.size, fun j h1 h2 h3 => (k.block j (Nat.lt_of_lt_of_le h1 h.size) h2 h3).trans (h.block j h1 h2 h3)⟩
theorem Cg.cell {G : Nat} (w : World) (o : Nat) (u : Value) : Cg G w (w.setCell ⟨G, o, none⟩ u) := gpw.Chg.cell w G o u (Or.inl rfl)
theorem DS.cg {w0 w w' : World} {G : Nat} (hb : Below w0.heap.size w0 w) (hg : w0.heap.size ≤ G) (h : Cg G w w') : Below w0.heap.size w0 w' :=
 ⟨h.os.trans hb.os, h.tape.trans hb.tape, h.output.trans hb.output, Nat.le_trans hb.size h.size, fun j hj => (h.block j (Nat.lt_of_lt_of_le hj hb.size) (by omega) (Or.inr (Nat.zero_le _))).trans (hb.block j hj)⟩
theorem meant_any {w0 w : World} {G : Nat} {cnt last : Int} {v : Value} {l : Nm} {E : Option Int} (R : DS w0 G cnt v E w) (hn : NmI9 w0 v l) (m k : Int) (s : ByteArray) (hk : Bq k) (hc : 0 ≤ last ∧ last ≤ 1000000) : Calls Try.prog 56 #[.pointer (some ⟨G, 0, none⟩), .int .i64 m, .int .i64 k, .string s, .int .i64 last] w (trw.IntB (meant cnt l last m k s) w) := by
 obtain ⟨c0, c1, _, _, _, _⟩ := R.c;have HN := xH (nm_blw9 hn R.be);obtain ⟨a, q, rfl, hl, _⟩ := hn;have hl5 : (l.length : Int) ≤ 9223372036854775807 := by omega
 obtain ⟨r, hr⟩ : ∃ r, meant cnt l last m k s = r := ⟨_, rfl⟩;rw [hr];unfold meant at hr;unfold Bq at hk;have HR := xH hr;clear R hr;by_cases m3 : m = 3
 ·have b3 : (m == 3) = true := by simp [m3]
  have HN1 := xH (show nameN l s = r from by have := HR.out; rw [if_pos m3] at this; exact this);clear m3 HR;go_enter Try.func56, Try.ntmps56;go_wp2_with fail
  go_loopw [11] (fun vi wr => ∃ i : Nat, vi = .int .i64 i ∧ i ≤ l.length ∧ Hid (nameN (l.drop i) s = r) ∧ Hid (Below w.heap.size w wr)) (fun vi _ => l.length - (intOf vi).toNat)
  case atStart => exact ⟨0, rfl, Nat.zero_le _, HN1, xH (Below.refl _ _)⟩
  case round =>
   obtain ⟨i, rfl, hi, HD, HB⟩ := hrel;have d1 := trw.qf HB.out c1;by_cases hlt : i < l.length
   ·obtain ⟨p, hp⟩ : ∃ p, l[i]? = some p := ⟨_, List.getElem?_eq_getElem hlt⟩;obtain ⟨na', nc', hs', _, hcs⟩ := HN.out;cases hs';obtain ⟨gb, rfl, hcz⟩ := hcs.resolve_left (fun e => by rw [e] at hlt; exact absurd hlt (Nat.not_lt_zero _));have n0 := trw.qf HB.out (hcz i p hp).1;have n1 := trw.qf HB.out (hcz i p hp).2;have hi5 : i < 9223372036854775807 := by omega
    have i1 : (i : Int) < (l.length : Int) := by omega
    have HDD := xH (show (if p.1 = s then p.2 else nameN (l.drop (i + 1)) s) = r from by
     rw [← HD.out, List.drop_eq_getElem_cons hlt, nameN_cons];have : l[i] = p := by simpa [List.getElem?_eq_getElem hlt] using hp
     rw [this])
    clear hcs hcz hp;by_cases heq : p.1 = s
    ·have beq : (p.1.toList == s.toList) = true := by rw [heq]; exact beq_self_eq_true _
     have HE := xH (show p.2 = r from by have := HDD.out; rw [if_pos heq] at this; exact this);clear heq;go_wp2_with fail
     go_ret
     exact ⟨by rw [← HE.out]; rfl, HB.out⟩
    ·have beq := name_n9 heq;have HE := xH (show nameN (l.drop (i + 1)) s = r from by have := HDD.out; rw [if_neg heq] at this; exact this);clear heq;go_wp2_with fail
     go_roundw
     case rel => exact ⟨i + 1, by go_num, by omega, HE, HB⟩
     case measure => simp [intOf]; omega
   ·have HE := xH (show r = -1 from by rw [← HD.out, List.drop_eq_nil_of_le (by omega)]; rfl);have hd : decide (i < l.length) = false := by simpa using hlt
    clear hlt;go_wp2_with fail
    go_ret
    exact ⟨by rw [HE.out]; rfl, HB.out⟩
 have b3 : (m == 3) = false := by simp [m3]
 obtain ⟨k2, hk2⟩ : ∃ k2 : Int, (if m = 1 then last - k + 1 else if m = 2 then last + k else k) = k2 := ⟨_, rfl⟩;have HR := xH (show (if k2 < 0 ∨ cnt < k2 then -1 else k2) = r from by have := HR.out; rw [if_neg m3] at this; rw [← hk2]; exact this);have HK := xH hk2;clear m3 hk2 HN;by_cases m1 : m = 1
 ·have b1 : (m == 1) = true := by simp [m1]
  have b2 : (m == 2) = false := by simp [m1]
  have HQ := xH (show last - k + 1 = k2 from by have := HK.out; rw [if_pos m1] at this; exact this);clear m1;exact z15
 have b1 : (m == 1) = false := by simp [m1]
 by_cases m2 : m = 2
 ·have b2 : (m == 2) = true := by simp [m2]
  have HQ := xH (show last + k = k2 from by have := HK.out; rw [if_neg m1, if_pos m2] at this; exact this);clear m1 m2;exact z15
 ·have b2 : (m == 2) = false := by simp [m2]
  have HQ : k = k2 := by have := HK.out; rw [if_neg m1, if_neg m2] at this; exact this
  subst HQ;clear m1 m2;go_enter Try.func56, Try.ntmps56;go_upto_region 12 with (fail)
  by_cases h0 : k < 0
  ·have HE := xH (show -1 = r from by have := HR.out; rw [if_pos (Or.inl h0)] at this; exact this);have d0 : decide (k < 0) = true := decide_eq_true h0;clear h0;go_wp2_with fail
   go_ret
   exact ⟨by rw [← HE.out]; rfl, Below.refl _ _⟩
  ·have d0 : decide (k < 0) = false := decide_eq_false h0;by_cases h1 : cnt < k
   ·have HE := xH (show -1 = r from by have := HR.out; rw [if_pos (Or.inr h1)] at this; exact this);have d1 : decide (k > cnt) = true := decide_eq_true h1;have d2 : decide (cnt < k) = true := decide_eq_true h1;clear h0 h1;go_wp2_with fail
    go_ret
    exact ⟨by rw [← HE.out]; rfl, Below.refl _ _⟩
   ·have HE := xH (show k = r from by have := HR.out; rw [if_neg (fun e => e.elim h0 h1)] at this; exact this);have d1 : decide (k > cnt) = false := decide_eq_false h1;have d2 : decide (cnt < k) = false := decide_eq_false h1;clear h0 h1;go_wp2_with fail
    go_ret
    exact ⟨by rw [← HE.out]; rfl, Below.refl _ _⟩
theorem need_any {w0 w : World} {G : Nat} {cnt : Int} {v : Value} {E : Option Int} (R : DS w0 G cnt v E w) (k least p : Int) : Calls Try.prog 57 #[.pointer (some ⟨G, 0, none⟩), .int .i64 k, .int .i64 least, .int .i64 p] w (fun e w' => e = .returned (.tuple #[]) ∧ DS w0 G cnt v (fst2 E (if k < least then some p else none)) w' ∧ Cg G w w') := by
 obtain ⟨_, _, c2, c3, z2, z3⟩ := R.c;obtain ⟨E2, hE⟩ : ∃ E2, fst2 E (if k < least then some p else none) = E2 := ⟨_, rfl⟩;rw [hE];have HR := xH R;clear R;by_cases h1 : k < least
 ·cases E with
  | none =>
   have HF := xH (show DS w0 G cnt v E2 ((w.setCell ⟨G, 2, none⟩ (.int .i64 34)).setCell ⟨G, 3, none⟩ (.int .i64 p)) ∧ Cg G w ((w.setCell ⟨G, 2, none⟩ (.int .i64 34)).setCell ⟨G, 3, none⟩ (.int .i64 p)) from by have hc := (Cg.cell (G := G) w 2 (.int .i64 34)).trans (Cg.cell (G := G) _ 3 (.int .i64 p));rw [← hE, if_pos h1];exact ⟨⟨DS.cg HR.out.be HR.out.hg hc, tkw.heap_set (tkw.heap_set HR.out.g), HR.out.hg⟩, hc⟩)
   have c2' : w.cell? ⟨G, 2, none⟩ = some (.int .i64 0) := c2;clear c2 hE;go_enter Try.func57, Try.ntmps57;go_wp2_with fail
   refine bodyPost_end (results_none rfl _ _ _) rfl ?_;exact ⟨rfl, HF.out⟩
  | some e0 =>
   have HF := xH (show DS w0 G cnt v E2 w from hE ▸ HR.out);have c2' : w.cell? ⟨G, 2, none⟩ = some (.int .i64 34) := c2;clear c2 hE;exact z114
 ·have HF := xH (show DS w0 G cnt v E2 w from by rw [← hE, if_neg h1];cases E <;> exact HR.out)
  clear hE;exact z114
end rdw
end
section
namespace rdw
open sq
open Go.Sort Go Go.RowKit Go.Maps setp setw tkp trp trw rpp rsp gpp sq
open gqw (NmI9 nm_blw9)
open rfp (meant stepD docF fst2 NmOk nameN Bq)
open rfw (LV Cb)
open rpw (sees jB qU own_below qp jH qh)
open rsw (Old hx OwnH hN nd_unN nd_fld)
theorem sees_cg {h : Nat → Bool} {G : Nat} {w w' : World} (hG : h G = true) (hb : Cg G w w') : ∀ a v, (sees h w).cell? a = some v → (sees h w').cell? a = some v :=
 qU fun a v h1 hc => ⟨h1, (World.cell?_of_block (hb.block a.block (cell_lt hc) (fun e => by rw [e, hG] at h1; cases h1) (Or.inr (Nat.zero_le _)))).trans hc⟩
theorem ndH_cg {h : Nat → Bool} {G : Nat} {w w' : World} (hG : h G = true) (hb : Cg G w w') {t : Nd} (H : NdAt (sees h w) t) : NdAt (sees h w') t := qY (sees_cg hG hb) H
theorem hx_g {h : Nat → Bool} {G : Nat} {v : Value} (hG : h G = true) : hx h v G = true := by simp [hx, hG]
theorem hN_g {h : Nat → Bool} {G q : Nat} (hG : h G = true) : hN h q G = true := by simp [hN, hG]
theorem ownH_cg {h : Nat → Bool} {n G : Nat} {w w' : World} {v : Value} {f : F} (hG : h G = true) (hn : G < n) (H : OwnH h n w v f) (hb : Cg G w w') : OwnH h n w' v f :=
 ⟨tkw.jJ H.1 (fun k hk => hb.block k (own_below H.1 hk).2 (by have := (own_below H.1 hk).1; omega) (Or.inr (Nat.zero_le _))), H.2.1, rpw.vw (sees_cg (hx_g hG) hb) H.2.2⟩
theorem sees_hx_cg {h : Nat → Bool} {G : Nat} {w w' : World} {v : Value} {n : Nat} (hG : h G = true) (hb : Cg G w w') (hn : w.heap.size ≤ n) (hv : ∀ g, v.ownBlock = some g → n ≤ g) : ∀ a u, (sees h w).cell? a = some u → (sees (hx h v) w').cell? a = some u :=
 qU fun a u h1 hc => by have hl := cell_lt hc;refine ⟨?_, (World.cell?_of_block (hb.block a.block hl (fun e => by rw [e, hG] at h1; cases h1) (Or.inr (Nat.zero_le _)))).trans hc⟩;simp only [hx, h1, Bool.false_or, dD];intro e;have := hv _ e;omega
structure DF (h : Nat → Bool) (G : Nat) (x : Lab) (j : F) (w w0 : World) : Prop where
 b : Cg G w w0
 n : w0.heap[w.heap.size]? = some (.cells (ndC x).toArray 27 (0, 0))
 r : w0.heap[w.heap.size + 1]? = some (.cells zC.toArray 27 (0, 0))
 t : NdAt (sees (hN h (w.heap.size + 1)) w0) (x, j)
 o : Old (hN h (w.heap.size + 1)) w0.heap.size
 s : w.heap.size + 2 ≤ w0.heap.size
 g : h G = true ∧ G < w.heap.size
theorem df_start {h : Nat → Bool} {G : Nat} {x : Lab} {j : F} {w : World} (hG : h G = true) (ho : Old h w.heap.size) (hn : NdAt (sees h w) (x, j)) : DF h G x j w ((w.alloc (.cells (ndC x).toArray 27)).alloc (.cells zC.toArray 27)) := by have H := gqw.rf_start ho hn;exact ⟨Cg.of H.b, H.n, H.r, H.t, H.o, H.s, hG, ho G hG⟩
theorem DF.cg {h : Nat → Bool} {G : Nat} {x : Lab} {j : F} {w w0 w1 : World} (hf : DF h G x j w w0) (hb : Cg G w0 w1) : DF h G x j w w1 := by have hs := hf.s;have hl := hf.g.2;exact ⟨hf.b.trans hb, (hb.block _ (by omega) (by omega) (Or.inr (Nat.zero_le _))).trans hf.n, (hb.block _ (by omega) (by omega) (Or.inr (Nat.zero_le _))).trans hf.r, ndH_cg (hN_g hf.g.1) hb hf.t, hf.o.le hb.size, Nat.le_trans hs hb.size, hf.g⟩
theorem DF.below {h : Nat → Bool} {G : Nat} {x : Lab} {j : F} {w w0 w1 : World} (hf : DF h G x j w w0) (hb : Below w0.heap.size w0 w1) : DF h G x j w w1 := hf.cg (Cg.of hb)
theorem DF.fld {h : Nat → Bool} {G : Nat} {x : Lab} {j k : F} {w w0 : World} (hf : DF h G x j w w0) (o : Nat) (v : Value) (L : Lab) (hL : (ndC x).toArray.setIfInBounds o v = (ndC L).toArray) (hok : LabOk L) (hs : L.sv = x.sv) (hs2 : L.set = x.set) (hk : jr (sees (hN h (w.heap.size + 1)) w0) L.kv k) : DF h G L k w (w0.setCell ⟨w.heap.size, o, none⟩ v) := by
 have hz : (w0.setCell ⟨w.heap.size, o, none⟩ v).heap.size = w0.heap.size := by simp [World.setCell]
 refine ⟨gpw.Chg.trans hf.b (gpw.Chg.cell w0 w.heap.size o v (Or.inr (xL _))), ?_, (heap_setCell_other w0 ⟨w.heap.size, o, none⟩ (w.heap.size + 1) v (show w.heap.size + 1 ≠ w.heap.size by omega)).trans hf.r, nd_fld (t := (L, k)) ⟨hok, by rw [show (L, k).1.sv = x.sv from hs, show (L, k).1.set = x.set from hs2]; exact hf.t.2.1, hk⟩, by rw [hz]; exact hf.o, by rw [hz]; exact hf.s, hf.g⟩;have := tkw.heap_set (o := o) (v := v) hf.n;rw [hL] at this;exact this
theorem DS.fld {w0 w : World} {G : Nat} {cnt : Int} {v : Value} {E : Option Int} (R : DS w0 G cnt v E w) {q : Nat} (hq : w0.heap.size ≤ q) (hg : G ≠ q) (o : Nat) (u : Value) : DS w0 G cnt v E (w.setCell ⟨q, o, none⟩ u) :=
 ⟨R.be.setCell hq _, (heap_setCell_other w ⟨q, o, none⟩ G u hg).trans R.g, R.hg⟩
theorem DS.row {w0 w : World} {G : Nat} {cnt : Int} {v : Value} {E : Option Int} (R : DS w0 G cnt v E w) {q : Nat} (hq : w0.heap.size ≤ q) (hg : G ≠ q) (C : Array Value) : DS w0 G cnt v E (w.setRow q C) :=
 ⟨rpw.qC R.be _ hq, (tkw.setRow_other _ _ _ _ hg).trans R.g, R.hg⟩
theorem Cg.row {G q : Nat} {w w' : World} (h : Cg G w w') (hq : w.heap.size ≤ q) (C : Array Value) : Cg G w (w'.setRow q C) :=
 ⟨h.os, h.tape, h.output, by have := h.size; simpa [World.setRow] using this, fun j h1 h2 h3 => (tkw.setRow_other _ _ _ _ (by omega)).trans (h.block j h1 h2 h3)⟩
def docN (cnt : Int) (l : Nm) (x : Lab) (k : F) (last : Int) : F × Int × Option Int :=
 let s := stepD cnt l (bare x) last
 let q := docF cnt l (decide (x.kind = 16)) s.2.2 (strip k) s.2.2
 (F.one s.2.1 q.1, q.2.1, fst2 (if s.1 = true then some x.at_ else none) q.2.2)
theorem fst2_assoc (a b c : Option Int) : fst2 (fst2 a b) c = fst2 a (fst2 b c) := by cases a <;> rfl
theorem docF_cons (cnt : Int) (l : Nm) (rs : Bool) (last : Int) (x : Lab) (k r : F) (most : Int) : docF cnt l rs last (strip (.cons x k r)) most =
 (F.app (docN cnt l x k (if rs = true then last else most)).1 (docF cnt l rs last (strip r) (if most < (docN cnt l x k (if rs = true then last else most)).2.1 then (docN cnt l x k (if rs = true then last else most)).2.1 else most)).1,
  (docF cnt l rs last (strip r) (if most < (docN cnt l x k (if rs = true then last else most)).2.1 then (docN cnt l x k (if rs = true then last else most)).2.1 else most)).2.1,
  fst2 (docN cnt l x k (if rs = true then last else most)).2.2 (docF cnt l rs last (strip r) (if most < (docN cnt l x k (if rs = true then last else most)).2.1 then (docN cnt l x k (if rs = true then last else most)).2.1 else most)).2.2) := by
 rw [strip, docF];unfold docN;simp only [fst2_assoc];rfl
def AllD : F → Prop
 | .nil => True
 | .cons x k r => LV x ∧ (x.kind = 7 ∨ x.kind = 8 → k = .nil) ∧ AllD k ∧ AllD r
theorem allD_at : ∀ {f : F} {i : Nat} {x : Lab} {k r : F}, AllD f → f.drop i = .cons x k r → AllD (F.one x k)
 | .nil, i, _, _, _, _, h => by cases i <;> cases h
 | .cons _ _ _, 0, _, _, _, ha, h => by cases h;exact ⟨ha.1, ha.2.1, ha.2.2.1, trivial⟩
 | .cons _ _ c, i + 1, _, _, _, ha, h => allD_at (f := c) (i := i) ha.2.2.2 h
theorem stepD_cb {cnt : Int} {l : Nm} {x : Lab} (h : LV x) {last : Int} (hc : Cb last) : Cb (stepD cnt l (bare x) last).2.2 := by
 have e : (stepD cnt l (bare x) last).2.2 = if x.kind = 14 then x.n else last := rfp.stepD_last cnt l (bare x) last
 rw [e];split
 ·exact h.1 (by assumption)
 ·exact hc
theorem docF_cb {cnt : Int} {l : Nm} : ∀ (f : F) (rs : Bool) (last most : Int), AllD f → Cb last → Cb most → Cb (docF cnt l rs last (strip f) most).2.1
 | .nil, _, _, _, _, _, h => h
 | .cons x k r, rs, last, most, ha, hl, hm => by have h1 : Cb (docN cnt l x k (if rs = true then last else most)).2.1 := docF_cb k _ _ _ ha.2.2.1 (stepD_cb ha.1 (by split <;> assumption)) (stepD_cb ha.1 (by split <;> assumption));rw [docF_cons];generalize docN cnt l x k (if rs = true then last else most) = t at *;exact docF_cb r rs last _ ha.2.2.2 hl (by split <;> assumption)
theorem docN_cb {cnt : Int} {l : Nm} {x : Lab} {k : F} {last : Int} (ha : AllD (F.one x k)) (hc : Cb last) : Cb (docN cnt l x k last).2.1 :=
 docF_cb k _ _ _ ha.2.2.1 (stepD_cb ha.1 hc) (stepD_cb ha.1 hc)
theorem meant_i64 {cnt : Int} {l : Nm} (h : NmOk cnt l) (hc : cnt ≤ 1000000) {last : Int} (hl : Cb last) (m : Int) {k : Int} (hk : Bq k) (s : ByteArray) : I64 (meant cnt l last m k s) := by
 have h1 := h.1;have h2 := h.2 s;unfold Cb at hl;unfold Bq at hk;unfold I64 meant;simp only
 repeat' split
 all_goals omega
def DocB (h : Nat → Bool) (w0 : World) (G : Nat) (cnt : Int) (v : Value) (E : Option Int) (r : F × Int × Option Int) (w : World) (e : Ending) (w' : World) : Prop :=
 Cg G w w' ∧ DS w0 G cnt v (fst2 E r.2.2) w' ∧ ∃ y j, e = .returned (.tuple #[ndV y, .int .i64 r.2.1]) ∧ NdAt (sees h w') (y, j) ∧ strip (F.one y j) = r.1
def DocC (w0 : World) (G : Nat) (cnt : Int) (v : Value) (l : Nm) (k : F) : Prop := ∀ (x : Lab) (last : Int) (w : World) (h : Nat → Bool) (E : Option Int), Old h w.heap.size → h G = true → NdAt (sees h w) (x, k) → DS w0 G cnt v E w → AllD (F.one x k) → k.size ≤ 100000 → Cb last →
 Calls Try.prog 41 #[.pointer (some ⟨G, 0, none⟩), ndV x, .int .i64 last] w (DocB h w0 G cnt v E (docN cnt l x k last) w)
def DocRel (h : Nat → Bool) (w0 : World) (G : Nat) (cnt : Int) (v : Value) (l : Nm) (k : F) (rs : Bool) (b : Int) (R : F × Int × Option Int) (w1 : World) (vm vo vi : Value) (wr : World) : Prop :=
 ∃ (i : Nat) (m : Int) (g : F) (E : Option Int), vm = .int .i64 m ∧ vi = .int .i64 i ∧ i ≤ k.len ∧ g.len = i ∧ Cb m ∧ Hid (OwnH h w1.heap.size wr vo g) ∧ Hid (Cg G w1 wr) ∧ Hid (DS w0 G cnt v E wr) ∧
  Hid ((F.app (strip g) (docF cnt l rs b (strip (k.drop i)) m).1, (docF cnt l rs b (strip (k.drop i)) m).2.1, fst2 E (docF cnt l rs b (strip (k.drop i)) m).2.2) = R)
theorem DF.fin {h : Nat → Bool} {G : Nat} {L : Lab} {j : F} {w w1 w0 : World} {cnt m : Int} {v : Value} {E F1 : Option Int} {r : F × Int × Option Int} (hf : DF h G L j w w1) (hd : DS w0 G cnt v F1 w1) (hw : w0.heap.size ≤ w.heap.size) (hs : strip (F.one L j) = r.1) (he : m = r.2.1) (hE : F1 = fst2 E r.2.2) :
 DocB h w0 G cnt v E r w (.returned (.tuple #[ndV L, .int .i64 m])) (w1.setRow (w.heap.size + 1) (ndC L).toArray) :=
 ⟨hf.b.row (Nat.le_succ _) _, hE ▸ hd.row (Nat.le_trans hw (Nat.le_succ _)) (by have := hf.g.2; omega) _, L, j, by rw [he], nd_unN hf.t, hs⟩
end rdw
end
section
namespace rdw
open sq
open Go.Sort Go Go.RowKit Go.Maps setp setw tkp trp trw rpp rsp gpp sq
open gqw (NmI9 nm_blw9 nd129 wpList_store_ny)
open rfp (meant stepD docF fst2 NmOk nameN Bq)
open rfw (LV Cb)
open rpw (sees jB qU own_below qp jH qh ql jc)
open rsw (Old hx hx_old OwnH ownH_nil ownH_kids ownH_below wpList_append_h row1_kids hN nd_unN nd_fld qV sees_to old_add qZ drop_size)
theorem ndz {w : World} {b : Nat} {C : Array Value} {T : TypeId} (h : w.heap[b]? = some (.cells C T (0, 0))) (j : Nat) : w.frozen? ⟨b, j, none⟩ = false := by unfold World.frozen?; rw [h]; simp
theorem fst2_none (a : Option Int) : fst2 a none = a := by cases a <;> rfl
theorem docN_78 {cnt : Int} {l : Nm} {x : Lab} {last t least : Int} (h : x.kind = 7 ∨ x.kind = 8) (ht : meant cnt l last x.m x.n x.name = t) (hl : (if x.kind = 8 then 0 else 1) = least) :
 docN cnt l x .nil last = (F.one (bare { x with n := t, m := 0, name := ⟨#[]⟩ }) .nil, last, if t < least then some x.at_ else none) := by
 unfold docN stepD;rw [if_pos (show (bare x).kind = 7 ∨ (bare x).kind = 8 from h)];subst ht hl;simp only [dF, strip, docF, fst2_none];rfl
theorem Cg.low {G : Nat} {w w1 w2 : World} (h : Cg G w w1) (hb : Below w.heap.size w1 w2) : Cg G w w2 := gpw.Chg.trans h (gpw.Chg.of_low hb)
theorem DS.low {w0 w w' : World} {G n : Nat} {cnt : Int} {v : Value} {E : Option Int} (R : DS w0 G cnt v E w) (hb : Below n w w') (hn : G < n) : DS w0 G cnt v E w' :=
 ⟨R.be.trans (hb.mono (by have := R.hg; omega)), (hb.block G hn).trans R.g, R.hg⟩
theorem stepD_bare (cnt : Int) (l : Nm) (x : Lab) (last : Int) : stepD cnt l (bare x) last = ((stepD cnt l x last).1, bare (stepD cnt l x last).2.1, (stepD cnt l x last).2.2) := by
 unfold stepD;by_cases h1 : x.kind = 7 ∨ x.kind = 8
 ·rw [if_pos h1, if_pos (show (bare x).kind = 7 ∨ (bare x).kind = 8 from h1)];rfl
 rw [if_neg h1, if_neg (show ¬ ((bare x).kind = 7 ∨ (bare x).kind = 8) from h1)];by_cases h2 : x.kind = 19
 ·rw [if_pos h2, if_pos (show (bare x).kind = 19 from h2)];by_cases h3 : x.n = 9 ∨ x.n = 10
  ·rw [if_pos h3, if_pos (show (bare x).n = 9 ∨ (bare x).n = 10 from h3)];rfl
  rw [if_neg h3, if_neg (show ¬ ((bare x).n = 9 ∨ (bare x).n = 10) from h3)];by_cases h4 : x.n = 11 ∧ x.mode ≠ -1
  ·rw [if_pos h4, if_pos (show (bare x).n = 11 ∧ (bare x).mode ≠ -1 from h4)];rfl
  ·rw [if_neg h4, if_neg (show ¬ ((bare x).n = 11 ∧ (bare x).mode ≠ -1) from h4)]
 ·rw [if_neg h2, if_neg (show ¬ (bare x).kind = 19 from h2)];rfl
theorem stepD_keep (cnt : Int) (l : Nm) (x : Lab) (last : Int) (h : ¬ (x.kind = 7 ∨ x.kind = 8)) : (stepD cnt l x last).2.1.kind = x.kind ∧ (stepD cnt l x last).2.1.kv = x.kv ∧ (x.kind = 14 → (stepD cnt l x last).2.1.n = x.n) := by
 unfold stepD;rw [if_neg h];by_cases k : x.kind = 19
 ·rw [if_pos k]
  repeat' split
  all_goals exact ⟨rfl, rfl, fun e => absurd (k.symm.trans e) (by decide)⟩
 ·rw [if_neg k];exact ⟨rfl, rfl, fun _ => rfl⟩
theorem docN_step {cnt : Int} {l : Nm} {x L : Lab} {k : F} {last b : Int} {rs : Bool} {E E1 : Option Int} {Q R : F × Int × Option Int} (hL : (stepD cnt l x last).2.1 = L) (hE : fst2 E (if (stepD cnt l x last).1 = true then some x.at_ else none) = E1)
 (hb : (if x.kind = 14 then x.n else last) = b) (hrs : decide (x.kind = 16) = rs) (hQ : docF cnt l rs b (strip k) b = Q) (hR : docN cnt l x k last = R) : R.1 = F.one (bare L) Q.1 ∧ R.2.1 = Q.2.1 ∧ fst2 E R.2.2 = fst2 E1 Q.2.2 := by
 rw [← hR, ← hQ, ← hrs, ← hb, ← hE, ← hL, ← rfp.stepD_last cnt l x last];unfold docN;rw [stepD_bare];exact ⟨rfl, rfl, (fst2_assoc _ _ _).symm⟩
theorem node_of {w0 : World} {G : Nat} {cnt : Int} {v : Value} {l : Nm} (hn9 : NmI9 w0 v l) (hnm : NmOk cnt l) (hcn : cnt ≤ 1000000) {k : F} (hN' : ∀ k' : F, k'.size < k.size → DocC w0 G cnt v l k') : DocC w0 G cnt v l k := by
 intro x last w h E hold hG hnd hds ha hsz hcb;have HN := xH hN';have HF0 := xH (df_start hG hold hnd);have HD0 := xH (hds.keep (trw.qi (qg w (.cells (ndC x).toArray 27)) (qg _ (.cells zC.toArray 27))));have HW := xH hds.be.size;have HNM := xH hn9;have HLAB := xH hnd.1;have HLV := xH ha.1;have HAK := xH ha.2.2.1;have HK0 := xH ha.2.1;have HOK := xH hnm;obtain ⟨ka, kq, hkv⟩ := kids_len hnd.2.2;have HKV := xH hkv;have hkl : k.len ≤ 100000 := by have := rsp.len_size k; omega
 obtain ⟨R, hR⟩ : ∃ R, docN cnt l x k last = R := ⟨_, rfl⟩;rw [hR];have HR := xH hR;have HCB := xH hcb;clear hold hnd hds hN' hkv hn9 hnm ha hR hG hcb;unfold ndC zC at HF0 HD0;go_enter Try.func41, Try.ntmps41;unfold ndV;go_upto_region 1 with (fail)
 generalize (w.alloc _).alloc _ = w1 at *;have HF0 : Hid (DF h G x k w w1) := HF0;obtain ⟨e0, e1, _, _, _, e5, e6, e7, e8, _, _, e11⟩ := nd129 HF0.out.n;by_cases k78 : x.kind = 7 ∨ x.kind = 8
 ·have hk0 := HK0.out k78;subst hk0;by_cases k7 : x.kind = 7
  ·obtain ⟨t, ht⟩ : ∃ t, meant cnt l last x.m x.n x.name = t := ⟨_, rfl⟩;have HRR := xH (HR.out.symm.trans (docN_78 (least := 1) k78 ht (by rw [k7]; rfl)));have hbq := (HLV.out.2 (k78.elim Or.inl fun e => Or.inr (Or.inl e))).1;have HM := xH (meant_any HD0.out HNM.out x.m x.n x.name hbq HCB.out);have hti := meant_i64 HOK.out hcn HCB.out x.m hbq x.name;rw [ht] at HM hti;have HTI := xH hti;have b7 : (x.kind == 7) = true := by simp [k7]
   have b8 : (x.kind == 8) = false := by simp [k7]
   clear ht hti HR hbq k78 k7;go_wp2_with (refine HM.out.mono ?_)
   rintro e w2 ⟨rfl, hb2⟩;have HF2 := xH (HF0.out.below hb2);have HD2 := xH (HD0.out.keep hb2);clear hb2 HM HF0 HD0 e0 e1 e5 e6 e7 e8 e11;have HF3 := xH (HF2.out.fld 5 (.int .i64 t) { x with n := t } rfl (by obtain ⟨a1, a2, a3, a4, a5, a6, a7, a8⟩ := HLAB.out; exact ⟨a1, a2, a3, HTI.out, a5, a6, a7, a8⟩) rfl rfl HF2.out.t.2.2);have HD3 := xH (HD2.out.fld HW.out (by have := HF2.out.g.2; omega) 5 (.int .i64 t));obtain ⟨_, _, _, _, _, e5, _, _, _, _, _, _⟩ := nd129 HF2.out.n;have z5 := ndz HF2.out.n 5;go_upto_region 6 with (fail)
   generalize w2.setCell _ _ = w3 at *;have HF3 : Hid (DF h G { x with n := t } .nil w w3) := HF3;clear e5 z5 HF2 HD2;have HF4 := xH (HF3.out.fld 6 (.int .i64 0) { x with n := t, m := 0 } rfl (by obtain ⟨a1, a2, a3, a4, a5, a6, a7, a8⟩ := HF3.out.t.1; exact ⟨a1, a2, a3, a4, by show I64 0; unfold I64; omega, a6, a7, a8⟩) rfl rfl HF3.out.t.2.2);have HD4 := xH (HD3.out.fld HW.out (by have := HF3.out.g.2; omega) 6 (.int .i64 0));obtain ⟨_, _, _, _, _, _, e6, _, _, _, _, _⟩ := nd129 HF3.out.n;have z6 := ndz HF3.out.n 6;go_upto_region 7 with (fail)
   generalize w3.setCell _ _ = w4 at *;clear e6 z6 HF3 HD3;have HF5 := xH (HF4.out.fld 8 (.string ⟨#[]⟩) { x with n := t, m := 0, name := ⟨#[]⟩ } rfl HF4.out.t.1 rfl rfl HF4.out.t.2.2);have HD5 := xH (HD4.out.fld HW.out (by have := HF4.out.g.2; omega) 8 (.string ⟨#[]⟩));obtain ⟨_, _, _, _, _, _, _, _, e8, _, _, _⟩ := nd129 HF4.out.n;have z8 := ndz HF4.out.n 8;go_upto_region 8 with (fail)
   generalize w4.setCell _ _ = w5 at *;clear e8 z8 HF4 HD4;obtain ⟨E2, hE2⟩ : ∃ E2, fst2 E (if t < 1 then some x.at_ else none) = E2 := ⟨_, rfl⟩;have hne := need_any HD5.out t 1 x.at_;exact z19
  ·have k8 := k78.resolve_left k7;clear k7;obtain ⟨t, ht⟩ : ∃ t, meant cnt l last x.m x.n x.name = t := ⟨_, rfl⟩;have HRR := xH (HR.out.symm.trans (docN_78 (least := 0) k78 ht (by rw [k8]; rfl)));have hbq := (HLV.out.2 (k78.elim Or.inl fun e => Or.inr (Or.inl e))).1;have HM := xH (meant_any HD0.out HNM.out x.m x.n x.name hbq HCB.out);have hti := meant_i64 HOK.out hcn HCB.out x.m hbq x.name;rw [ht] at HM hti;have HTI := xH hti;have b7 : (x.kind == 7) = false := by simp [k8]
   have b8 : (x.kind == 8) = true := by simp [k8]
   clear ht hti HR hbq k78 k8;go_wp2_with (refine HM.out.mono ?_)
   rintro e w2 ⟨rfl, hb2⟩;have HF2 := xH (HF0.out.below hb2);have HD2 := xH (HD0.out.keep hb2);clear hb2 HM HF0 HD0 e0 e1 e5 e6 e7 e8 e11;have HF3 := xH (HF2.out.fld 5 (.int .i64 t) { x with n := t } rfl (by obtain ⟨a1, a2, a3, a4, a5, a6, a7, a8⟩ := HLAB.out; exact ⟨a1, a2, a3, HTI.out, a5, a6, a7, a8⟩) rfl rfl HF2.out.t.2.2);have HD3 := xH (HD2.out.fld HW.out (by have := HF2.out.g.2; omega) 5 (.int .i64 t));obtain ⟨_, _, _, _, _, e5, _, _, _, _, _, _⟩ := nd129 HF2.out.n;have z5 := ndz HF2.out.n 5;go_upto_region 6 with (fail)
   generalize w2.setCell _ _ = w3 at *;have HF3 : Hid (DF h G { x with n := t } .nil w w3) := HF3;clear e5 z5 HF2 HD2;have HF4 := xH (HF3.out.fld 6 (.int .i64 0) { x with n := t, m := 0 } rfl (by obtain ⟨a1, a2, a3, a4, a5, a6, a7, a8⟩ := HF3.out.t.1; exact ⟨a1, a2, a3, a4, by show I64 0; unfold I64; omega, a6, a7, a8⟩) rfl rfl HF3.out.t.2.2);have HD4 := xH (HD3.out.fld HW.out (by have := HF3.out.g.2; omega) 6 (.int .i64 0));obtain ⟨_, _, _, _, _, _, e6, _, _, _, _, _⟩ := nd129 HF3.out.n;have z6 := ndz HF3.out.n 6;go_upto_region 7 with (fail)
   generalize w3.setCell _ _ = w4 at *;clear e6 z6 HF3 HD3;have HF5 := xH (HF4.out.fld 8 (.string ⟨#[]⟩) { x with n := t, m := 0, name := ⟨#[]⟩ } rfl HF4.out.t.1 rfl rfl HF4.out.t.2.2);have HD5 := xH (HD4.out.fld HW.out (by have := HF4.out.g.2; omega) 8 (.string ⟨#[]⟩));obtain ⟨_, _, _, _, _, _, _, _, e8, _, _, _⟩ := nd129 HF4.out.n;have z8 := ndz HF4.out.n 8;go_upto_region 8 with (fail)
   generalize w4.setCell _ _ = w5 at *;clear e8 z8 HF4 HD4;obtain ⟨E2, hE2⟩ : ∃ E2, fst2 E (if t < 0 then some x.at_ else none) = E2 := ⟨_, rfl⟩;have hne := need_any HD5.out t 0 x.at_;exact z19
 ·obtain ⟨L, hL⟩ : ∃ L, (stepD cnt l x last).2.1 = L := ⟨_, rfl⟩;obtain ⟨E1, hE1⟩ : ∃ E1, fst2 E (if (stepD cnt l x last).1 = true then some x.at_ else none) = E1 := ⟨_, rfl⟩;obtain ⟨b, hb⟩ : ∃ b : Int, (if x.kind = 14 then x.n else last) = b := ⟨_, rfl⟩;obtain ⟨rs, hrs⟩ : ∃ rs : Bool, decide (x.kind = 16) = rs := ⟨_, rfl⟩;obtain ⟨Q, hQ⟩ : ∃ Q, docF cnt l rs b (strip k) b = Q := ⟨_, rfl⟩;have HR1 := xH (docN_step (E := E) hL hE1 hb hrs hQ (HR.out));have HKL := xH (show L.kind = x.kind ∧ L.kv = x.kv ∧ (x.kind = 14 → L.n = x.n) from hL ▸ stepD_keep cnt l x last k78);have HCB2 := xH (show Cb b by rw [← hb]; split; exact HLV.out.1 (by assumption); exact HCB.out);have HQ := xH hQ;have HRS := xH hrs;have b7 : (x.kind == 7) = false := by simp; exact fun e => k78 (Or.inl e)
  have b8 : (x.kind == 8) = false := by simp; exact fun e => k78 (Or.inr e)
  clear hQ hrs HR;go_upto_if 51 with (fail)
  go_cut [2] (fun v2 wx => v2 = .int .i64 last ∧ Hid (DF h G L k w wx) ∧ Hid (DS w0 G cnt v E1 wx))
  case first =>
   clear hb;by_cases k19 : x.kind = 19
   ·have b19 : (x.kind == 19) = true := by simp [k19]
    by_cases c10 : x.n = 10
    ·have n10 : (x.n == 10) = true := by simp [c10]
     have n9 : (x.n == 9) = false := by simp [c10]
     obtain ⟨t, ht⟩ : ∃ t, meant cnt l last 3 x.mode x.name = t := ⟨_, rfl⟩;have hst : stepD cnt l x last = (decide (t < 1), { x with n := 9, mode := t, m := 0, name := ⟨#[]⟩ }, last) := by unfold stepD;rw [if_neg k78, if_pos k19, if_pos (Or.inr c10), if_pos c10, ht]
     rw [hst] at hL hE1;simp only [dF] at hE1;have hbq := (HLV.out.2 (Or.inr (Or.inr k19))).2;have hti := meant_i64 HOK.out hcn HCB.out (3) hbq x.name;rw [ht] at hti;have HTI := xH hti;subst hL;have HM := xH (fun (W : World) (hd : DS w0 G cnt v E W) => ht ▸ meant_any hd HNM.out (3) x.mode x.name hbq HCB.out);have HE1 := xH hE1;clear ht hti hbq hst hE1 k78 k19 c10;exact z4
    by_cases c9 : x.n = 9
    ·have n10 : (x.n == 10) = false := by simp [c10]
     have n9 : (x.n == 9) = true := by simp [c9]
     obtain ⟨t, ht⟩ : ∃ t, meant cnt l last x.m x.mode x.name = t := ⟨_, rfl⟩;have hst : stepD cnt l x last = (decide (t < 1), { x with n := 9, mode := t, m := 0, name := ⟨#[]⟩ }, last) := by unfold stepD;rw [if_neg k78, if_pos k19, if_pos (Or.inl c9), if_neg c10, ht]
     rw [hst] at hL hE1;simp only [dF] at hE1;have hbq := (HLV.out.2 (Or.inr (Or.inr k19))).2;have hti := meant_i64 HOK.out hcn HCB.out (x.m) hbq x.name;rw [ht] at hti;have HTI := xH hti;subst hL;have HM := xH (fun (W : World) (hd : DS w0 G cnt v E W) => ht ▸ meant_any hd HNM.out (x.m) x.mode x.name hbq HCB.out);have HE1 := xH hE1;clear ht hti hbq hst hE1 k78 k19 c9 c10;exact z4
    have n10 : (x.n == 10) = false := by simp [c10]
    have n9 : (x.n == 9) = false := by simp [c9]
    by_cases c11 : x.n = 11 ∧ x.mode ≠ -1
    ·have n11 : (x.n == 11) = true := by simp [c11.1]
     have n12 : (x.mode != -1) = true := by simp [c11.2]
     by_cases m3 : x.m = 3
     ·have b3 : (x.m == 3) = true := by simp [m3]
      obtain ⟨t, ht⟩ : ∃ t, meant cnt l last x.m x.mode x.name = t := ⟨_, rfl⟩;have hst : stepD cnt l x last = (decide (t < 1), { x with mode := t, m := 0, name := ⟨#[]⟩ }, last) := by unfold stepD;rw [if_neg k78, if_pos k19, if_neg (fun e => e.elim c9 c10), if_pos c11, ht, if_pos m3]
      rw [hst] at hL hE1;simp only [dF] at hE1;have hbq := (HLV.out.2 (Or.inr (Or.inr k19))).2;have hti := meant_i64 HOK.out hcn HCB.out (x.m) hbq x.name;rw [ht] at hti;have HTI := xH hti;subst hL;have HM := xH (ht ▸ meant_any HD0.out HNM.out (x.m) x.mode x.name hbq HCB.out);have HE1 := xH hE1;clear ht hti hbq hst hE1 k78 k19 c9 c10 c11 m3;go_wp2_with (refine HM.out.mono ?_)
      rintro e w3 ⟨rfl, hb3⟩;have HF3 := xH (HF0.out.below hb3);have HD3 := xH (HD0.out.keep hb3);clear hb3 HM HF0 HD0 e0 e1 e5 e6 e7 e8 e11;have HF4 := xH (HF3.out.fld 7 (.int .i64 t) { x with mode := t } rfl (by obtain ⟨a1, a2, a3, a4, a5, a6, a7, a8⟩ := HF3.out.t.1; exact ⟨a1, a2, a3, a4, a5, HTI.out, a7, a8⟩) rfl rfl HF3.out.t.2.2);have HD4 := xH (HD3.out.fld HW.out (by have := HF3.out.g.2; omega) 7 (.int .i64 t));obtain ⟨_, _, _, _, _, _, _, e7, _, _, _, _⟩ := nd129 HF3.out.n;have z7 := ndz HF3.out.n 7;go_upto_region 25 with (fail)
      generalize w3.setCell _ _ = w4 at *;have HF4 : Hid (DF h G { x with mode := t } k w w4) := HF4;clear e7 z7 HF3 HD3;have HF5 := xH (HF4.out.fld 6 (.int .i64 0) { x with mode := t, m := 0 } rfl (by obtain ⟨a1, a2, a3, a4, a5, a6, a7, a8⟩ := HF4.out.t.1; exact ⟨a1, a2, a3, a4, by show I64 0; unfold I64; omega, a6, a7, a8⟩) rfl rfl HF4.out.t.2.2);have HD5 := xH (HD4.out.fld HW.out (by have := HF4.out.g.2; omega) 6 (.int .i64 0));obtain ⟨_, _, _, _, _, _, e6, _, _, _, _, _⟩ := nd129 HF4.out.n;have z6 := ndz HF4.out.n 6;go_upto_region 26 with (fail)
      generalize w4.setCell _ _ = w5 at *;have HF5 : Hid (DF h G { x with mode := t, m := 0 } k w w5) := HF5;clear e6 z6 HF4 HD4;have HF6 := xH (HF5.out.fld 8 (.string ⟨#[]⟩) { x with mode := t, m := 0, name := ⟨#[]⟩ } rfl (HF5.out.t.1) rfl rfl HF5.out.t.2.2);have HD6 := xH (HD5.out.fld HW.out (by have := HF5.out.g.2; omega) 8 (.string ⟨#[]⟩));obtain ⟨_, _, _, _, _, _, _, _, e8, _, _, _⟩ := nd129 HF5.out.n;have z8 := ndz HF5.out.n 8;go_upto_region 27 with (fail)
      generalize w5.setCell _ _ = w6 at *;have HF6 : Hid (DF h G { x with mode := t, m := 0, name := ⟨#[]⟩ } k w w6) := HF6;clear e8 z8 HF5 HD5;have hne := need_any HD6.out t 1 x.at_;exact z44
     ·have b3 : (x.m == 3) = false := by simp [m3]
      obtain ⟨t, ht⟩ : ∃ t, meant cnt l last x.m x.mode x.name = t := ⟨_, rfl⟩;have hst : stepD cnt l x last = (decide (t < 0), { x with mode := t, m := 0, name := ⟨#[]⟩ }, last) := by unfold stepD;rw [if_neg k78, if_pos k19, if_neg (fun e => e.elim c9 c10), if_pos c11, ht, if_neg m3]
      rw [hst] at hL hE1;simp only [dF] at hE1;have hbq := (HLV.out.2 (Or.inr (Or.inr k19))).2;have hti := meant_i64 HOK.out hcn HCB.out (x.m) hbq x.name;rw [ht] at hti;have HTI := xH hti;subst hL;have HM := xH (ht ▸ meant_any HD0.out HNM.out (x.m) x.mode x.name hbq HCB.out);have HE1 := xH hE1;clear ht hti hbq hst hE1 k78 k19 c9 c10 c11 m3;go_wp2_with (refine HM.out.mono ?_)
      rintro e w3 ⟨rfl, hb3⟩;have HF3 := xH (HF0.out.below hb3);have HD3 := xH (HD0.out.keep hb3);clear hb3 HM HF0 HD0 e0 e1 e5 e6 e7 e8 e11;have HF4 := xH (HF3.out.fld 7 (.int .i64 t) { x with mode := t } rfl (by obtain ⟨a1, a2, a3, a4, a5, a6, a7, a8⟩ := HF3.out.t.1; exact ⟨a1, a2, a3, a4, a5, HTI.out, a7, a8⟩) rfl rfl HF3.out.t.2.2);have HD4 := xH (HD3.out.fld HW.out (by have := HF3.out.g.2; omega) 7 (.int .i64 t));obtain ⟨_, _, _, _, _, _, _, e7, _, _, _, _⟩ := nd129 HF3.out.n;have z7 := ndz HF3.out.n 7;go_upto_region 25 with (fail)
      generalize w3.setCell _ _ = w4 at *;have HF4 : Hid (DF h G { x with mode := t } k w w4) := HF4;clear e7 z7 HF3 HD3;have HF5 := xH (HF4.out.fld 6 (.int .i64 0) { x with mode := t, m := 0 } rfl (by obtain ⟨a1, a2, a3, a4, a5, a6, a7, a8⟩ := HF4.out.t.1; exact ⟨a1, a2, a3, a4, by show I64 0; unfold I64; omega, a6, a7, a8⟩) rfl rfl HF4.out.t.2.2);have HD5 := xH (HD4.out.fld HW.out (by have := HF4.out.g.2; omega) 6 (.int .i64 0));obtain ⟨_, _, _, _, _, _, e6, _, _, _, _, _⟩ := nd129 HF4.out.n;have z6 := ndz HF4.out.n 6;go_upto_region 26 with (fail)
      generalize w4.setCell _ _ = w5 at *;have HF5 : Hid (DF h G { x with mode := t, m := 0 } k w w5) := HF5;clear e6 z6 HF4 HD4;have HF6 := xH (HF5.out.fld 8 (.string ⟨#[]⟩) { x with mode := t, m := 0, name := ⟨#[]⟩ } rfl (HF5.out.t.1) rfl rfl HF5.out.t.2.2);have HD6 := xH (HD5.out.fld HW.out (by have := HF5.out.g.2; omega) 8 (.string ⟨#[]⟩));obtain ⟨_, _, _, _, _, _, _, _, e8, _, _, _⟩ := nd129 HF5.out.n;have z8 := ndz HF5.out.n 8;go_upto_region 27 with (fail)
      generalize w5.setCell _ _ = w6 at *;have HF6 : Hid (DF h G { x with mode := t, m := 0, name := ⟨#[]⟩ } k w w6) := HF6;clear e8 z8 HF5 HD5;have hne := need_any HD6.out t 0 x.at_;exact z44
    ·have hst : stepD cnt l x last = (false, x, last) := by unfold stepD;rw [if_neg k78, if_pos k19, if_neg (fun e => e.elim c9 c10), if_neg c11]
     rw [hst] at hL hE1;have HD1 := xH (show DS w0 G cnt v E1 w1 from by rw [← hE1]; show DS w0 G cnt v (fst2 E none) w1; rw [fst2_none]; exact HD0.out);subst hL;have HF1 := HF0;by_cases d11 : x.n = 11
     ·have n11 : (x.n == 11) = true := by simp [d11]
      have n12 : (x.mode != -1) = false := by
       have : x.mode = -1 := Decidable.byContradiction fun e => c11 ⟨d11, e⟩
       simp [this]
      clear hst hE1 k78 k19 c9 c10 c11 d11;go_wp2_with fail
      go_meet
      exact ⟨rfl, HF1, HD1⟩
     ·have n11 : (x.n == 11) = false := by simp [d11]
      clear hst hE1 k78 k19 c9 c10 c11 d11;go_wp2_with fail
      go_meet
      exact ⟨rfl, HF1, HD1⟩
   ·have b19 : (x.kind == 19) = false := by simp [k19]
    have hst : (stepD cnt l x last).1 = false ∧ (stepD cnt l x last).2.1 = x := by unfold stepD;rw [if_neg k78, if_neg k19];exact ⟨rfl, rfl⟩
    rw [hst.2] at hL;rw [hst.1] at hE1;have HD1 := xH (show DS w0 G cnt v E1 w1 from by rw [← hE1]; show DS w0 G cnt v (fst2 E none) w1; rw [fst2_none]; exact HD0.out);subst hL;have HF1 := HF0;clear hst hE1 k78 k19;go_wp2_with fail
    go_meet
    exact ⟨rfl, HF1, HD1⟩
  case rest =>
   obtain ⟨rfl, HF1, HD1⟩ := hcut;generalize wc = w2 at *;clear HF0 HD0 e0 e1 e5 e6 e7 e8 e11 b7 b8 hL hE1;obtain ⟨e0, _, _, _, _, e5, _, _, _, _, _, _⟩ := nd129 HF1.out.n;rw [HKL.out.1] at e0;go_upto_if 115 with (fail)
   go_cut [2] (fun v2 wx => v2 = .int .i64 b ∧ w2 = wx)
   case first =>
    by_cases h14 : x.kind = 14
    ·have b14 : (x.kind == 14) = true := by simp [h14]
     rw [HKL.out.2.2 h14] at e5;rw [if_pos h14] at hb;have HBE := xH hb;clear h14 k78 hb;go_wp2_with fail
     go_meet
     exact ⟨by rw [← HBE.out], rfl⟩
    ·have b14 : (x.kind == 14) = false := by simp [h14]
     rw [if_neg h14] at hb;have HBE := xH hb;clear h14 k78 hb;go_wp2_with fail
     go_meet
     exact ⟨by rw [← HBE.out], rfl⟩
   case rest =>
    obtain ⟨rfl, rfl⟩ := hcut;clear e0 e5 hb k78 HK0;obtain ⟨Q1, hQ1⟩ : ∃ Q1 : F × Int × Option Int, (Q.1, Q.2.1, fst2 E1 Q.2.2) = Q1 := ⟨_, rfl⟩;have HQ1 := xH hQ1;have HR0 := xH (show (F.app (strip F.nil) (docF cnt l rs b (strip (k.drop 0)) b).1, (docF cnt l rs b (strip (k.drop 0)) b).2.1, fst2 E1 (docF cnt l rs b (strip (k.drop 0)) b).2.2) = Q1 from by rw [drop_zero, HQ.out, ← hQ1]; rfl);have HKK := xH (show jr (sees (hN h (w.heap.size + 1)) w2) (.slice ka k.len kq) k from by have := HF1.out.t.2.2; rw [HKL.out.2.1, HKV.out] at this; exact this);have HGN := xH (hN_g (q := w.heap.size + 1) HF1.out.g.1);have HGS := xH (show G < w2.heap.size by have := HF1.out.g.2; have := HF1.out.s; omega);have b16 : (x.kind == 16) = rs := by rw [← HRS.out]; rfl
    clear hQ1;go_wp2_with fail
    go_loopw [11, 12, 13] (fun vm vo vi wr => DocRel (hN h (w.heap.size + 1)) w0 G cnt v l k rs b Q1 w2 vm vo vi wr) (fun _ _ vi _ => k.len - (intOf vi).toNat)
    case atStart => exact ⟨0, b, F.nil, E1, rfl, rfl, Nat.zero_le _, rfl, HCB2.out, xH (ownH_nil _ _ _), xH (Cg.of (Below.refl _ _)), HD1, HR0⟩
    case round =>
     obtain ⟨i, m, g, E4, rfl, rfl, hi, hg, hmc, hO, hB, hD, hR⟩ := hrel;have HO := xH hO.out;have HB := xH hB.out;have HD := xH hD.out;have HR := xH hR.out;have HG := xH hg;have HMC := xH hmc;clear hO hB hD hR hg hmc HR0 HD1;have HFR := xH (HF1.out.cg HB.out);obtain ⟨d0, _, _, _, _, _, _, _, _, _, _, d11⟩ := nd129 HFR.out.n;rw [HKL.out.1] at d0;rw [HKL.out.2.1, HKV.out] at d11;by_cases hlt : i < k.len
     ·obtain ⟨x', k', r, hd⟩ := drop_lt hlt;obtain ⟨b1, o, cap', hv, hc1, hc2, hil, hfa⟩ := kid_at HKK.out hd;cases hv;obtain ⟨fr, hfr⟩ : ∃ fr : Int, (if rs = true then b else m) = fr := ⟨_, rfl⟩;have hf1 : Cb fr := by rw [← hfr]; split; exact HCB2.out; exact HMC.out
      have HS := xH (size_lt hd);have HE := xH (fun j v hj => sees_to (sees_cg HGN.out HB.out _ _ (hfa.1 j v hj)));have HX := xH (qY (sees_hx_cg HGN.out HB.out (xL _) (fun q hq => (own_below HO.out.1 hq).1)) (fAt_head hfa));have HOXX := xH (fun (W : World) (hw : wr.heap.size ≤ W.heap.size) => hx_old (v := u12) (m := W.heap.size) HF1.out.o (Nat.le_trans HB.out.size hw) HO.out.1 hw);obtain ⟨t, ht⟩ : ∃ t, docN cnt l x' k' fr = t := ⟨_, rfl⟩;have HT := xH ht;have HTC := xH (show Cb t.2.1 from ht ▸ docN_cb (allD_at HAK.out hd) hf1);have hk5 : k'.size ≤ 100000 := by have := HS.out; omega
      have HCall := xH (show ∀ W (h2 : Nat → Bool), Old h2 W.heap.size → h2 G = true → NdAt (sees h2 W) (x', k') → DS w0 G cnt v E4 W → Calls Try.prog 41 #[.pointer (some ⟨G, 0, none⟩), ndV x', .int .i64 fr] W (DocB h2 w0 G cnt v E4 t W) from fun W h2 ho2 hg2 hn2 hd2 => ht ▸ HN.out k' HS.out x' fr W h2 E4 ho2 hg2 hn2 hd2 (allD_at HAK.out hd) hk5 hf1);have HDR := xH hd;have a1 := add_row b1 o i 12;clear hd hfa ht hf1 hk5;have i1 : (i : Int) < (k.len : Int) := by omega
      go_upto_if 129 with (fail)
      go_cut [14] from 119 to 149 (fun v14 wy => v14 = .int .i64 fr ∧ wr = wy)
      case first =>
       exact z88
      case rest =>
       obtain ⟨rfl, rfl⟩ := hcut;go_wp2_with (first
        | (refine jv rfl _ rfl b1 (o + i * 12) rfl x' HE.out ?_)
        | (refine (HCall.out _ (hx (hN h (w.heap.size + 1)) u12) (HOXX.out _ (xL _)) (hx_g HGN.out) HX.out HD.out).mono ?_))
       rintro e w3 ⟨hc3, hd3, y, j, rfl, hn3, hst3⟩;have HT4 := xH hst3;have HB3 := xH hc3;have HD3 := xH hd3;have HY := xH (qp hn3);have HG3 := xH (heap_alloc_new w3 (.cells zC.toArray 27));have HST := xH (show ∀ w4, w4 = (w3.alloc (.cells zC.toArray 27)).setRow w3.heap.size (ndC y).toArray → Below w3.heap.size w3 w4 ∧ w4.heap[w3.heap.size]? = some (.cells (ndC y).toArray 27 (0, 0)) from fun w4 h4 => by subst h4;exact ⟨rpw.jU w3 _ _ _, setRow_heap _ _ _ _ _ _ (heap_alloc_new w3 _)⟩)
       have HNY := xH hn3;unfold zC at HG3 HST;clear hc3 hd3 hn3 hst3;dsimp only;go_upto_region 39 with (refine wpList_store_ny rfl rfl _ _ rfl w3.heap.size rfl _ y HG3.out rfl HY.out rfl ?_; intro w4 h4; obtain ⟨hb4, hg4⟩ := HST.out w4 h4.out; have HB34 := xH hb4; have HG4 := xH hg4; clear h4 hb4 hg4)
       have HB4 := xH (HB3.out.trans (Cg.of HB34.out));have HD4 := xH (HD3.out.keep HB34.out);have HN4 := xH (qV HB34.out HNY.out);generalize w3.heap.size = B at *;clear HNY HB3 HB34 HG3 HST HD3 HD;have HO4 := xH (ownH_cg HGN.out HGS.out HO.out HB4.out);have HB5 := xH (HB.out.trans HB4.out);have HOX4 := xH (HOXX.out w4 HB4.out.size);have H1 := xH (qp HN4.out);have HLN := xH (show g.len + (F.one y j).len ≤ 200000 by rw [HG.out]; simp only [F.one, F.len]; omega);obtain ⟨Z, hZ⟩ : ∃ Z, w4.heap.size = Z := ⟨_, rfl⟩;have HZZ := xH hZ;have HKD := xH (show ∀ w17, w17 = w4.alloc (.cells (ndC y).toArray 27) → jr (sees (hx (hN h (w.heap.size + 1)) u12) w17) (.slice (some ⟨Z, 0, none⟩) 1 1) (F.one y j) from fun w17 h17 => by subst h17;have := row1_kids HN4.out HOX4.out;rw [hZ] at this;exact this)
       obtain ⟨m2, hm2⟩ : ∃ m2 : Int, (if m < t.2.1 then t.2.1 else m) = m2 := ⟨_, rfl⟩;have HNX := xH (show (F.app (strip (F.app g (F.one y j))) (docF cnt l rs b (strip (k.drop (i + 1))) m2).1, (docF cnt l rs b (strip (k.drop (i + 1))) m2).2.1, fst2 (fst2 E4 t.2.2) (docF cnt l rs b (strip (k.drop (i + 1))) m2).2.2) = Q1 from by rw [← HR.out, HDR.out, docF_cons, hfr, HT.out, ← drop_succ HDR.out, hm2, jH, HT4.out, fst2_assoc, app_assoc])
       have hm3 : Cb m2 := by rw [← hm2]; split; exact HTC.out; exact HMC.out
       have HM3 := xH hm3;clear hm3 hZ HCall HOXX HX HE HKV HO HB HB4 HOX4 HN4 d0 d11 hfr HT HT4 HR HDR HFR;go_upto_region 40 with (first
        | (refine ql rfl _ rfl B rfl y HG4.out ?_)
        | (refine jc rfl _ rfl y rfl Z HZZ.out ?_; intro w17 h17; have HO17 := xH (ownH_below HO4.out (h17.out ▸ qg w4 _)); have HK17 := xH (HKD.out w17 h17.out); have HB17 := xH (HB5.out.trans (Cg.of (show Below w4.heap.size w4 w17 from h17.out ▸ qg w4 _))); have HD17 := xH (HD4.out.keep (show Below w4.heap.size w4 w17 from h17.out ▸ qg w4 _)); have HS17 := xH (show w2.heap.size ≤ w17.heap.size from HB17.out.size); clear h17)
        | (at_builtin; refine wpList_append_h rfl _ _ rfl (hN h (w.heap.size + 1)) w2.heap.size u12 g rfl HO17.out HF1.out.o _ (F.one y j) rfl HK17.out HLN.out HS17.out ?_; intro v18 w18 h18 hb18; have HO18 := xH h18; have HB18 := xH (Cg.low HB17.out hb18); have HD18 := xH (HD17.out.low hb18 HGS.out); clear h18 hb18))
       have hi1 : i + 1 ≤ k.len := by omega
       by_cases hgt : m < t.2.1
       ·rw [if_pos hgt] at hm2;exact z75
       ·rw [if_neg hgt] at hm2;exact z75
     ·have HE := xH (show k.drop i = .nil from drop_end (by omega));have hd : decide (i < k.len) = false := by simpa using hlt
      have HQ2 := xH (show strip g = Q.1 ∧ m = Q.2.1 ∧ E4 = fst2 E1 Q.2.2 from by
       have := HR.out;rw [HE.out, ← HQ1.out] at this;have h1 : strip g = Q.1 := by have := congrArg (·.1) this;rw [← this];show strip g = F.app (strip g) .nil;rw [app_nil]
       exact ⟨h1, congrArg (·.2.1) this, by have h3 := congrArg (fun p : F × Int × Option Int => p.2.2) this; simp only [strip, docF, fst2_none] at h3; exact h3⟩)
      have z11 := ndz HFR.out.n 11;obtain ⟨qa, qc, rfl⟩ : ∃ a c, u12 = .slice a g.len c := zJ HO.out.1;have HF3 := xH (HFR.out.fld (k := g) 11 (.slice qa g.len qc) { L with kv := .slice qa g.len qc } rfl HFR.out.t.1 rfl rfl (ownH_kids HO.out HF1.out.o));have HD3 := xH (HD.out.fld HW.out (by have := HF1.out.g.2; omega) 11 (.slice qa g.len qc));clear hlt HFR d0 HD;go_upto_region 43 with (fail)
      generalize wr.setCell _ _ = w3 at *;have H1 := xH (qp HF3.out.t);go_wp2_with (first
       | (refine ql rfl _ rfl w.heap.size rfl ({ L with kv := .slice qa g.len qc }) HF3.out.n ?_)
       | (refine qh rfl rfl _ _ rfl (w.heap.size + 1) rfl _ ({ L with kv := .slice qa g.len qc }) HF3.out.r rfl H1.out rfl ?_))
      refine xB (qZ rfl _ _ (w.heap.size + 1) ({ L with kv := .slice qa g.len qc }) rfl (setRow_heap _ _ _ _ _ _ HF3.out.r)) rfl ?_;exact HF3.out.fin HD3.out HW.out (by rw [HR1.out.1]; show F.one _ (strip g) = _; rw [HQ2.out.1]; rfl) (by rw [HR1.out.2.1]; exact HQ2.out.2.1) (by rw [HR1.out.2.2]; exact HQ2.out.2.2)
theorem node_any {w0 : World} {G : Nat} {cnt : Int} {v : Value} {l : Nm} (hn9 : NmI9 w0 v l) (hnm : NmOk cnt l) (hcn : cnt ≤ 1000000) : ∀ (n : Nat) (k : F), k.size < n → DocC w0 G cnt v l k
 | 0, _, h => absurd h (Nat.not_lt_zero _)
 | n + 1, k, h => node_of hn9 hnm hcn fun k' hk => node_any hn9 hnm hcn n k' (by omega)
end rdw
end
end Go.Proofs.Ytdgfclbajjjcgaa
