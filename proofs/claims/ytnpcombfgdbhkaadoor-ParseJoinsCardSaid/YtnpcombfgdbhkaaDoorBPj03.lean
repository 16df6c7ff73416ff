/- T -/
import Derived.Test.YtnpcombfgdbhkaaDoorBPj02
set_option maxHeartbeats 16000000
set_option maxRecDepth 1000000
section
namespace Go.Proofs.YtnpcombfgdbhkaaDoor.psm
open sq
open Go tkp trp rpp
open rtw (TkG Adj)
theorem gS_i (t : Tk) (l : F) (s : Ps) : (zf t l s).i = s.i := by
 unfold zf failS;split
 ·split <;> rfl
 ·rfl
theorem rep_may {t : Tk} (h : TkG t) (h9 : t.kind = 9) {x : Lab} {k : F} (hr : repK x.kind = true) : mayP ({ lab 20 t.at_ with n := t.n, m := t.m, mode := t.mode }, F.one x k) = true := by have := h.h9 h9;have e : (F.one x k).hd = x.kind := rfl;have e2 : (F.one x k).len = 1 := rfl;simp only [mayP, lab, repP, wi, e, e2, hr];rw [if_neg (by decide), if_neg (by decide), if_neg (by decide), if_neg (by decide), if_neg (by decide), if_neg (by decide), if_pos trivial];simp only [Bool.and_true, Bool.and_eq_true, Bool.or_eq_true, decide_eq_true_eq];exact ⟨trivial, ⟨⟨this.1, this.2.1⟩, this.2.2.1⟩, this.2.2.2⟩
theorem run_gd {L : List Tk} (hG : ∀ t ∈ L, TkG t) (hA : Adj L) : ∀ (n : Nat) (md : Md) (s : Ps), s.i ≤ L.length → s.op ≤ 40 → Fu L n s md → (md = .thing → s.e = 0 ∧ s.i < L.length) → AccG s.op md → (run L n md s).2.e = 0 → Gd L s (run L n md s) md
 | 0, md, s, _, _, hf, _, _, _ => by cases md <;> · unfold Fu at hf; omega
 | n + 1, .alt acc, s, h1, h2, hf, _, hacc, he => by
  have iv := (zq L n (.seq .nil) s h1 h2 (fun h => by cases h)).1;have hf1 : 3 * rem L s + 3 ≤ n + 1 := hf;have ih := run_gd hG hA n (.seq .nil) s h1 h2 (show 3 * rem L s + 2 ≤ n by omega) (fun h => by cases h) ⟨rfl, Nat.zero_le _⟩;rw [run] at he ⊢;simp only at he ⊢;generalize run L n (.seq .nil) s = r at *;by_cases h7 : kindS L r.2 = 7
  ·rw [if_pos h7] at he ⊢;obtain ⟨re, ri, _⟩ := zW (L := L) (s := r.2) (by rw [h7]; decide);have hs0 := (iv.e re).1;have hop := (iv.e re).2;have hi := iv.i;rw [rem_ok hs0] at hf1;obtain ⟨x, k, hx, ha, hz, hd⟩ := ih re;have g := run_gd hG hA n (.alt (F.app acc r.1)) { r.2 with i := r.2.i + 1 } ri iv.op (by
    show 3 * rem L { r.2 with i := r.2.i + 1 } + 3 ≤ n;rw [rem_ok (s := { r.2 with i := r.2.i + 1 }) re];show 3 * (L.length - (r.2.i + 1)) + 3 ≤ n;omega) (fun h => by cases h) ⟨a_all _ _ hacc.1 ha, by have := hacc.2;show (F.app acc r.1).deep ≤ 4 * (40 - r.2.op) + 3;rw [a_deep, hop];omega⟩ he
   obtain ⟨b1, b2, b3, b4⟩ := g;have hl1 : r.1.len = 1 := by rw [hx]; rfl
   simp only [a_len, a_size, hl1, F.size] at b2 b3 hz;exact ⟨b1, by omega, by omega, by rw [← hop]; exact b4⟩
  ·rw [if_neg h7] at he ⊢;obtain ⟨x, k, hx, ha, hz, hd⟩ := ih he;have hl1 : r.1.len = 1 := by rw [hx]; rfl
   simp only [F.size] at hz;have := hacc.2;exact ⟨a_all _ _ hacc.1 ha, by show acc.len < (F.app acc r.1).len; rw [a_len, hl1]; omega, by show (F.app acc r.1).size + (F.app acc r.1).len + 2 * s.i ≤ acc.size + acc.len + 2 * r.2.i + 2; rw [a_len, a_size, hl1]; omega, by show (F.app acc r.1).deep ≤ _; rw [a_deep]; omega⟩
 | n + 1, .seq acc, s, h1, h2, hf, _, hacc, he => by
  have hf1 : 3 * rem L s + 2 ≤ n + 1 := hf;rw [run] at he ⊢;by_cases h0 : kindS L s = 0 ∨ kindS L s = 7 ∨ kindS L s = 8
  ·rw [if_pos h0] at he ⊢;obtain ⟨x, k, a, b, c, _, d⟩ := one_gd (K := 12) (l := acc) may_seq hacc.1;have := hacc.2;exact ⟨x, k, a, b, by show (oneF 12 acc).size + 2 * s.i ≤ acc.size + 2 * s.i + 1; omega, by show (oneF 12 acc).deep ≤ _; omega⟩
  rw [if_neg h0] at he ⊢;by_cases h9 : kindS L s = 9
  ·rw [if_pos h9] at he;exact absurd he (fail_0 (by decide))
  rw [if_neg h9] at he ⊢;obtain ⟨hs0, hsi, t, ht, hkt⟩ := zW (L := L) (s := s) (fun h => h0 (Or.inl h));have iv := (zq L n .thing s h1 h2 (fun _ => ⟨hs0, hsi⟩)).1;have ih := run_gd hG hA n .thing s h1 h2 (show 3 * rem L s + 1 ≤ n by omega) (fun _ => ⟨hs0, hsi⟩) trivial;rw [rem_ok hs0] at hf1;simp only at he ⊢;generalize run L n .thing s = r at *;have hi := iv.i;by_cases hc : kindS L r.2 = 9 ∧ repK r.1.hd = true
  ·rw [if_pos hc] at he ⊢;obtain ⟨re, ri, u, hu, hku⟩ := zW (L := L) (s := r.2) (by rw [hc.1]; decide);have hop := (iv.e re).2;obtain ⟨x, k, hx, ha, hz, hd, _⟩ := ih re;rw [getD_at hu] at he ⊢;have hm := rep_may (hG u (List.mem_of_getElem? hu)) (hku.symm.trans hc.1) (x := x) (k := k) (by have := hc.2; rw [hx] at this; exact this);rw [← hx] at hm;have hrz : (repF u r.1).size = r.1.size + 1 := by simp only [repF, F.one, F.size]
   have hrd : (repF u r.1).deep = r.1.deep + 1 := by simp only [repF, F.one, F.deep]; omega
   have hra : allP (repF u r.1) = true := by rw [repF, F.one, allP, hm, ha]; rfl
   have := hacc.2;have g := run_gd hG hA n (.seq (F.app acc (repF u r.1))) { r.2 with i := r.2.i + 1 } ri iv.op (by
    show 3 * rem L { r.2 with i := r.2.i + 1 } + 2 ≤ n;rw [rem_ok (s := { r.2 with i := r.2.i + 1 }) re];show 3 * (L.length - (r.2.i + 1)) + 2 ≤ n;omega) (fun h => by cases h) ⟨a_all _ _ hacc.1 hra, by show (F.app acc (repF u r.1)).deep ≤ 4 * (40 - r.2.op) + 2;rw [a_deep, hop, hrd];omega⟩ he
   obtain ⟨y, j, b1, b2, b3, b4⟩ := g;simp only [a_size, hrz] at b3;exact ⟨y, j, b1, b2, by omega, by rw [← hop]; exact b4⟩
  ·rw [if_neg hc] at he ⊢;have iv2 := (zq L n (.seq (F.app acc r.1)) r.2 iv.n iv.op (fun h => by cases h)).1;have re := (iv2.e he).1;have hop := (iv.e re).2;obtain ⟨x, k, hx, ha, hz, hd, _⟩ := ih re;have := hacc.2;have hrs : 0 < r.1.size := by rw [hx]; simp only [F.one, F.size]; omega
   have g := run_gd hG hA n (.seq (F.app acc r.1)) r.2 iv.n iv.op (by
    show 3 * rem L r.2 + 2 ≤ n;rw [rem_ok re];omega) (fun h => by cases h) ⟨a_all _ _ hacc.1 ha, by show (F.app acc r.1).deep ≤ 4 * (40 - r.2.op) + 2;rw [a_deep, hop];omega⟩ he
   obtain ⟨y, j, b1, b2, b3, b4⟩ := g;simp only [a_size] at b3;exact ⟨y, j, b1, b2, by omega, by rw [← hop]; exact b4⟩
 | n + 1, .thing, s, h1, h2, hf, hth, _, he => by
  obtain ⟨hs0, hsi⟩ := hth rfl;have hf1 : 3 * rem L s + 1 ≤ n + 1 := hf;rw [rem_ok hs0] at hf1;obtain ⟨t, ht⟩ : ∃ t, L[s.i]? = some t := ⟨_, List.getElem?_eq_getElem hsi⟩;have htm := hG t (List.mem_of_getElem? ht);rw [run] at he ⊢;simp only at he ⊢;unfold Gd;rw [getD_at ht] at he ⊢;by_cases h10 : t.kind ≠ 10
  ·rw [if_pos h10] at he ⊢;exact ⟨_, _, rfl, by rw [F.one, allP, leaf_may htm h10]; rfl, by simp only [F.one, F.size]; omega, by simp only [F.one, F.deep]; omega, fun h => absurd h h10⟩
  rw [if_neg h10] at he ⊢;have h10' : t.kind = 10 := Decidable.not_not.1 h10;by_cases h40 : s.op = 40
  ·rw [if_pos h40] at he;exact absurd he (fail_0 (by decide))
  rw [if_neg h40] at he ⊢;obtain ⟨q, hq⟩ : ∃ q, (if t.n = 13 ∧ kindS L ⟨s.i + 1, s.op + 1, s.e, s.at_⟩ = 10 then run L n .thing ⟨s.i + 1, s.op + 1, s.e, s.at_⟩ else (.nil, ⟨s.i + 1, s.op + 1, s.e, s.at_⟩)) = q := ⟨_, rfl⟩;rw [hq] at he ⊢;have hp1 : ∀ h10 : kindS L ⟨s.i + 1, s.op + 1, s.e, s.at_⟩ = 10, (Md.thing = .thing → (⟨s.i + 1, s.op + 1, s.e, s.at_⟩ : Ps).e = 0 ∧ (⟨s.i + 1, s.op + 1, s.e, s.at_⟩ : Ps).i < L.length) := fun h _ => by obtain ⟨a, b, _⟩ := zW (L := L) (s := ⟨s.i + 1, s.op + 1, s.e, s.at_⟩) (by rw [h]; decide);exact ⟨a, b⟩
  have ivq : Inv L ⟨s.i + 1, s.op + 1, s.e, s.at_⟩ q.2 := by
   rw [← hq];split
   ·rename_i h;exact (zq L n .thing ⟨s.i + 1, s.op + 1, s.e, s.at_⟩ hsi (by show s.op + 1 ≤ 40; omega) (hp1 h.2)).1
   ·exact Inv.refl hsi (by show s.op + 1 ≤ 40; omega)
  have ivr := (zq L n (.alt .nil) q.2 ivq.n ivq.op (fun h => by cases h)).1;have ir := run_gd hG hA n (.alt .nil) q.2 ivq.n ivq.op;generalize run L n (.alt .nil) q.2 = r at *;by_cases h8 : kindS L r.2 ≠ 8
  ·rw [if_pos h8] at he;exact absurd he (fail_0 (by decide))
  rw [if_neg h8] at he ⊢;have h8' : kindS L r.2 = 8 := Decidable.not_not.1 h8;obtain ⟨re, ri, _⟩ := zW (L := L) (s := r.2) (by rw [h8']; decide);have qe := (ivr.e re).1;have qop : q.2.op = s.op + 1 := (ivq.e qe).2;have qi : s.i + 1 ≤ q.2.i := ivq.i;have ri2 := ivr.i;obtain ⟨c1, c2, c3, c4⟩ := ir (by
   show 3 * rem L q.2 + 3 ≤ n;rw [rem_ok qe];omega) (fun h => by cases h) ⟨rfl, Nat.zero_le _⟩ re
  simp only [F.len, F.size, qop] at c2 c3 c4;have hk : (if t.n = 13 then ∃ x k, q.1 = F.one x k ∧ allP q.1 = true ∧ x.kind = 18 else q.1 = .nil) ∧ q.1.deep ≤ 4 * (40 - (s.op + 1)) + 3 ∧ q.1.size + 2 * (s.i + 1) ≤ 2 * q.2.i := by
   by_cases h13 : t.n = 13
   ·rw [if_pos h13];have hlt : s.i + 1 < L.length := by omega
    obtain ⟨u, hu⟩ : ∃ u, L[s.i + 1]? = some u := ⟨_, List.getElem?_eq_getElem hlt⟩;have ha := hA s.i t u ht hu h10' h13;have hks : kindS L ⟨s.i + 1, s.op + 1, s.e, s.at_⟩ = 10 := by unfold kindS;rw [if_neg (by simp [hs0])];simp only [hu];exact ha.1
    rw [if_pos ⟨h13, hks⟩] at hq;have g := run_gd hG hA n .thing ⟨s.i + 1, s.op + 1, s.e, s.at_⟩ hsi (by show s.op + 1 ≤ 40; omega) (by
     show 3 * rem L ⟨s.i + 1, s.op + 1, s.e, s.at_⟩ + 1 ≤ n;rw [rem_ok (s := ⟨s.i + 1, s.op + 1, s.e, s.at_⟩) hs0];show 3 * (L.length - (s.i + 1)) + 1 ≤ n;omega) (hp1 hks) trivial (by rw [hq]; exact qe)
    rw [hq] at g;obtain ⟨x, k, hx, ha2, hz, hd, h18⟩ := g;simp only [getD_at hu] at h18;exact ⟨⟨x, k, hx, ha2, h18 ha.1 ha.2.1 ha.2.2⟩, by simp only at hd; omega, by simp only at hz; omega⟩
   ·rw [if_neg h13];rw [if_neg (fun h => h13 h.1)] at hq;rw [← hq];exact ⟨rfl, by simp [F.deep], by simp [F.size]⟩
  obtain ⟨x, k, d1, d2, d3, d4, d5⟩ := group_gd htm h10' (look := q.1) (l := r.1) c1 (by omega) he hk.1 (D := 4 * (40 - (s.op + 1)) + 3) (C := 2 * r.2.i - 2 * q.2.i) c4 hk.2.1 (by omega);refine ⟨x, k, d1, d2, ?_, by simp only; omega, fun _ => d5⟩;have e3 := hk.2.2;simp only [gS_i];omega
theorem parse_may {L : List Tk} (hG : ∀ t ∈ L, TkG t) (hA : Adj L) {N : Int} {f : F} (h : parseP L N = .ok f) : ∃ x k, f = F.one x k ∧ allP f = true ∧ f.size ≤ 2 * L.length + 1 ∧ f.deep ≤ 164 := by
 have iv := (zq L (3 * L.length + 3) (.alt .nil) { i := 0 } (Nat.zero_le _) (Nat.zero_le _) (fun h => by cases h)).1;have g := run_gd hG hA (3 * L.length + 3) (.alt .nil) { i := 0 } (Nat.zero_le _) (Nat.zero_le _) (by
  show 3 * rem L { i := 0 } + 3 ≤ _;rw [rem_ok (s := { i := 0 }) rfl];exact Nat.le_refl _) (fun h => by cases h) ⟨rfl, Nat.zero_le _⟩
 unfold parseP at h;generalize run L (3 * L.length + 3) (.alt .nil) { i := 0 } = r at *;simp only at h;by_cases hc : r.2.e = 0 ∧ r.2.i < L.length
 ·rw [show (if r.2.e = 0 ∧ r.2.i < L.length then failS r.2 31 (L.getD r.2.i zeroT).at_ else r.2) = failS r.2 31 (L.getD r.2.i zeroT).at_ from if_pos hc] at h;have e : (failS r.2 31 (L.getD r.2.i zeroT).at_).e = 31 := by unfold failS; rw [if_pos hc.1]
  rw [e, if_neg (by decide), if_pos (by decide)] at h;cases h
 ·rw [show (if r.2.e = 0 ∧ r.2.i < L.length then failS r.2 31 (L.getD r.2.i zeroT).at_ else r.2) = r.2 from if_neg hc] at h;by_cases h20 : r.2.e = 20
  ·rw [if_pos h20] at h; cases h
  rw [if_neg h20] at h;by_cases he : r.2.e = 0
  ·rw [if_neg (fun q => q he)] at h;cases h;obtain ⟨b1, b2, b3, b4⟩ := g he;simp only [F.len, F.size] at b2 b3 b4;have hn := iv.n;obtain ⟨x, k, c1, c2, c3, c4, c5⟩ := one_gd (K := 13) (l := r.1) (fun h => may_alt (by omega) h) b1;refine ⟨x, k, c1, c2, ?_, by omega⟩;by_cases h1 : r.1.len = 1
   ·have := c4 h1; omega
   ·omega
  ·rw [if_pos he] at h; cases h
theorem s_size : ∀ f : F, (strip f).size = f.size
 | .nil => rfl
 | .cons _ k r => by rw [strip, F.size, F.size, s_size k, s_size r]
end Go.Proofs.YtnpcombfgdbhkaaDoor.psm
end
section
namespace Go.Proofs.YtnpcombfgdbhkaaDoor.psl
open sq
open Go.Sort Go Go.RowKit Go.Maps tkp trp trw rpp rtp setw psw psp
open rpw (qp zero_at qh sees jB qU ql rg_nil lab_ok)
open rsw (Old OwnH ownH_nil sees_below qV kidsH_below sees_to zY ownH_kids ownH_below wpList_append_h)
open rtw (cellR Pat tokR_bd)
open tkw (sg sg_bd)
open utfw (strOf Sl conv_sl)
open ext (na pt tx Go_ altsF)
def partF (x : Lab) (k : F) : F := if x.kind = 13 then k else F.one x k
def PartB (h : Nat → Bool) (g : F) (w : World) (e : Ending) (w' : World) : Prop := Below w.heap.size w w' ∧ ∃ v, e = .returned v ∧ jr (sees h w') v g
theorem row1_at {h : Nat → Bool} {w : World} {x : Lab} {k : F} (hn : NdAt (sees h w) (x, k)) (ho : Old h w.heap.size) : jr (sees h (w.alloc (.cells (ndC x).toArray 31))) (.slice (some ⟨w.heap.size, 0, none⟩) 1 1) (F.one x k) := by
 have hn' := qV (trw.qg w (.cells (ndC x).toArray 31)) hn;refine ⟨_, 1, rfl, Nat.le_refl _, by decide, Or.inr ⟨w.heap.size, 0, rfl, fun j u hj => jB.2 ⟨?_, ?_⟩, ⟨hn'.1, hn'.2.1⟩, hn'.2.2, trivial⟩⟩
 ·show h w.heap.size = false;cases e : h w.heap.size with
  | false => rfl
  | true => have := ho _ e; omega
 ·rw [Nat.zero_add, World.cell?_alloc_new];simpa using hj
theorem parts_any (h : Nat → Bool) (x : Lab) (k : F) (w : World) (ho : Old h w.heap.size) (hn : NdAt (sees h w) (x, k)) : Calls Tryd.prog 17 #[ndV x] w (PartB h (partF x k) w) := by
 have H0 := xH (row1_at (qV (trw.qg w (.cells (ndC x).toArray 31)) hn) (ho.le (trw.qg w _).size));have HB := xH (trw.qi (trw.qg w (.cells (ndC x).toArray 31)) (trw.qg _ (.cells (ndC x).toArray 31)));have HG := xH (heap_alloc_new w (.cells (ndC x).toArray 31));have HZ := xH (World.size_alloc w (.cells (ndC x).toArray 31));have HK := xH (kidsH_below (trw.qg w (.cells (ndC x).toArray 31)) hn.2.2);clear hn ho;by_cases h13 : x.kind = 13
 ·have hl : partF x k = k := if_pos h13;rw [hl];have b13 : (x.kind == 13) = true := by simp [h13]
  clear hl h13;unfold ndV;unfold ndC at HG HK;go_enter Tryd.func17, Tryd.ntmps17;go_wp2_with fail
  go_ret
  exact ⟨trw.qg _ _, _, rfl, HK.out⟩
 ·have hl : partF x k = F.one x k := if_neg h13;rw [hl];have b13 : (x.kind == 13) = false := by simp [h13]
  clear hl h13;unfold ndV;unfold ndC at HG H0 HB HZ;go_enter Tryd.func17, Tryd.ntmps17;go_wp2_with (refine ql rfl _ rfl w.heap.size rfl x HG.out ?_)
  go_ret
  refine ⟨HB.out, _, rfl, ?_⟩;have := H0.out;rw [HZ.out] at this;exact this
theorem na_part {x : Lab} {k : F} {f : F} (h : strip (F.one x k) = f) : na (partF x k) = na (altsF f) := by
 subst h;unfold partF;show _ = na (if x.kind = 13 then strip k else _);by_cases h13 : x.kind = 13
 ·rw [if_pos h13, if_pos h13, na_strip]
 ·rw [if_neg h13, if_neg h13];exact (na_strip (F.one x k)).symm
def PaG (w : World) (r : R F) (e : Ending) (w' : World) : Prop := ∃ (l : Lab) (c d : Int), e = .returned (.tuple #[ndV l, .int .i64 c, .int .i64 d]) ∧ Below w.heap.size w w' ∧ (∀ u ∈ ndC l, u.oneCell' = true) ∧ (c = 0 → ∃ k, r = .ok (strip (F.one l k)) ∧ NdAt w' (l, k)) ∧ (∀ f, r = .ok f → c = 0)
theorem pag_of {S : ByteArray} {w : World} {e : Ending} {w' : World} (h : PaB w (textP S) e w') : PaG w (textP S) e w' := by
 obtain ⟨hb, h⟩ := h;cases hq : textP S with
 | error x =>
  rw [hq] at h;exact ⟨_, _, _, h, hb, zero_ones, fun h0 => absurd h0 (text_err hq), fun f h => by cases h⟩
 | ok f =>
  rw [hq] at h;obtain ⟨x, k, h1, h2, h3⟩ := h;exact ⟨x, 0, 0, h1, hb, qp h2, fun _ => ⟨k, by rw [h3], h2⟩, fun _ _ => rfl⟩
theorem joins_text {A B : ByteArray} (hA : A.size ≤ 450) (hB : B.size ≤ 450) (hQ : ∀ i, i + 1 < A.size → ¬ (sg A i = 92 ∧ sg A (i + 1) = 81)) {f1 f2 : F} (e1 : textP A = .ok f1) (e2 : textP B = .ok f2) :
 ∃ k, textP ((A ++ (⟨#[124]⟩ : ByteArray)) ++ B) = .ok (F.one (lab 13 0) k) ∧ na k = na (F.app (altsF f1) (altsF f2)) := by
 have h1 : (⟨#[124]⟩ : ByteArray).size = 1 := rfl;have hz1 : (A ++ (⟨#[124]⟩ : ByteArray)).size = A.size + 1 := by rw [ByteArray.size_append]; rfl
 have hz : ((A ++ (⟨#[124]⟩ : ByteArray)) ++ B).size = A.size + 1 + B.size := by rw [ByteArray.size_append, hz1]
 have e1' : tx (sg A) A.size = .ok f1 := (text_g A).symm.trans e1;have e2' : tx (sg B) B.size = .ok f2 := (text_g B).symm.trans e2;obtain ⟨k, a, b, _⟩ := ext.joins_tx (g := sg ((A ++ (⟨#[124]⟩ : ByteArray)) ++ B)) hA hB (fun i hi => by rw [s_left (by omega), s_left (by omega)]) (by rw [s_left (by omega), s_right (j := 0) (by omega)]; rfl) (fun i hi => by rw [s_right (j := i) (by omega)]) hQ (go_pt A (by omega)) (go_pt B (by omega)) e1' e2';rw [← hz] at a;exact ⟨k, (text_g _).trans a, b⟩
theorem bar_same {X : Lab} {K k : F} {f1 f2 : F} {x1 x2 : Lab} {k1 k2 : F} {v : Value} (h : strip (F.one X K) = F.one (lab 13 0) k) (hk : na k = na (F.app (altsF f1) (altsF f2))) (h1 : strip (F.one x1 k1) = f1) (h2 : strip (F.one x2 k2) = f2) :
 X.kind = 13 ∧ sameT (X, K) ({ lab 13 0 with kv := v }, F.app (F.app .nil (partF x1 k1)) (partF x2 k2)) = true := by
 have hn : na (F.one X K) = na (F.one ({ lab 13 0 with kv := v }) (F.app (F.app .nil (partF x1 k1)) (partF x2 k2))) := by rw [← na_strip (F.one X K), h];simp only [F.one, na, lab, F.cons.injEq, and_true, true_and];rw [hk, ext.na_app, ext.na_app, ext.na_app, na_part h1, na_part h2];rfl
 refine ⟨?_, ext.same_na1 hn⟩;simp only [F.one, na, lab, F.cons.injEq, Lab.mk.injEq] at hn;exact hn.1.1
theorem alt_nd {w : World} {v : Value} {f : F} (h : jr w v f) : NdAt w ({ lab 13 0 with kv := v }, f) := by
 have z : I64 0 := by unfold I64; omega
 exact ⟨⟨by show I64 13; unfold I64; omega, z, z, z, z, z, z, z⟩, rg_nil w, h⟩
theorem len_le : ∀ f : F, f.len ≤ f.size
 | .nil => Nat.le_refl _
 | .cons x k r => by have := len_le r; simp only [F.len, F.size]; omega
theorem text_size {S : ByteArray} {f : F} (h : textP S = .ok f) : f.size ≤ 2001 := by
 unfold textP at h;cases hq : rlexP (sg (strOf S.size (sg S))) S.size 0 with
 | error y => rw [hq] at h; cases h
 | ok T =>
  rw [hq] at h;have hx := lx_of hq;obtain ⟨x, k, _, _, h4, _⟩ := psm.parse_may hx.g hx.a h;have := hx.l;have := hx.m;omega
theorem part_len {S : ByteArray} {x : Lab} {k : F} (h : textP S = .ok (strip (F.one x k))) : (partF x k).len ≤ 2001 := by
 have h1 := text_size h;rw [psm.s_size] at h1;have h2 := len_le k;simp only [F.one, F.size] at h1;unfold partF;split
 ·omega
 ·simp [F.one, F.len]
theorem nd_all {w : World} {t : Nd} (h : NdAt w t) : NdAt (sees (fun _ => false) w) t := qY (fun _ _ hc => jB.2 ⟨rfl, hc⟩) h
theorem kids_nil {h : Nat → Bool} {w : World} {v : Value} {f : F} (H : jr (sees h w) v f) : jr (sees (rsw.hx h nil3) w) v f := jh (qU fun _ _ h1 hc => ⟨by simp only [rsw.hx, h1, Value.ownBlock, Bool.false_or]; simp, hc⟩) H
theorem old_none (n : Nat) : Old (fun _ => false) n := fun i h => by cases h
theorem joins_law (v : Value) (n : Nat) (g : Nat → Int) (v2 : Value) (n2 : Nat) (g2 : Nat → Int) (w : World) (hT : TabP w) (hv : Sl w v n g) (hv2 : Sl w v2 n2 g2) : Calls Tryd.prog 7 #[v, v2] w (BoolB true w) := by
 have HSl := xH (fun w1 (hb : Below w.heap.size w w1) => conv_sl (utfw.below_sl hb hv));have HSm := xH (fun w1 (hb : Below w.heap.size w w1) => conv_sl (utfw.below_sl hb hv2));have HT := xH hT;have HAW := xH (awake_any w hT);have HGb := xH hv.1;have hn48 : (n : Int) ≤ 140737488355328 := by have := hv.2.1; omega
 have hm48 : (n2 : Int) ≤ 140737488355328 := by have := hv2.2.1; omega
 have hg := hv.1;obtain ⟨a, cap, rfl, hvc⟩ : ∃ a c, v = .slice a n c ∧ (n = 0 ∨ ∃ b off, a = some ⟨b, off, none⟩ ∧ ∀ i, i < n → w.cell? ⟨b, off + i, none⟩ = some (.int .u8 (g i))) := by
  obtain ⟨_, _, ⟨rfl, a, c, hv, _⟩ | ⟨b, off, cap, hv, _, hc⟩⟩ := hv
  ·exact ⟨_, _, hv, Or.inl rfl⟩
  ·exact ⟨_, _, hv, Or.inr ⟨b, off, rfl, hc⟩⟩
 obtain ⟨a2, cap2, rfl⟩ : ∃ a c, v2 = .slice a n2 c := by
  obtain ⟨_, _, ⟨rfl, a, c, hv, _⟩ | ⟨b, off, cap, hv, _, hc⟩⟩ := hv2
  ·exact ⟨_, _, hv⟩
  ·exact ⟨_, _, hv⟩
 have HV := xH hvc;clear hT hv hvc hv2;by_cases hbig : 450 < n ∨ 450 < n2
 ·clear HSl HSm HGb HV hg;rcases Classical.em (450 < n) with h1 | h1
  ·have hbigI : (450 : Int) < (n : Int) := by omega
   clear hbig h1;go_enter Tryd.func7, Tryd.ntmps7;go_wp2_with fail
   refine HAW.out.mono ?_;rintro e w1 ⟨rfl, hb1⟩;go_wp2_with fail
   go_ret
   exact ⟨rfl, hb1⟩
  ·have hbigI : ¬ (450 : Int) < (n : Int) := by omega
   have hbigJ : (450 : Int) < (n2 : Int) := by omega
   clear hbig h1;go_enter Tryd.func7, Tryd.ntmps7;go_wp2_with fail
   refine HAW.out.mono ?_;rintro e w1 ⟨rfl, hb1⟩;go_wp2_with fail
   go_ret
   exact ⟨rfl, hb1⟩
 have hbigI : ¬ (450 : Int) < (n : Int) := by omega
 have hbigJ : ¬ (450 : Int) < (n2 : Int) := by omega
 have hsmall : n ≤ 450 := by omega
 have hsmall2 : n2 ≤ 450 := by omega
 have HGG := xH (fun i (hi : i < n) => s_str hg hi);clear hbig hg;go_enter Tryd.func7, Tryd.ntmps7;go_wp2_with fail
 refine HAW.out.mono ?_;rintro e w1 ⟨rfl, hb1⟩;clear HAW;go_wp2_with fail
 go_loopw [6] (fun iv wr => ∃ i : Nat, iv = .int .i64 i ∧ i ≤ n ∧ Hid (∀ j, j < i → j + 1 < n → ¬ (g j = 92 ∧ g (j + 1) = 81)) ∧ Below w.heap.size w wr) (fun iv _ => n - (intOf iv).toNat)
 case atStart => exact ⟨0, rfl, Nat.zero_le _, xH (fun j hj => by omega), hb1⟩
 case round =>
  obtain ⟨i, rfl, hi, HN, hb⟩ := hrel;by_cases hlt : i + 1 < n
  ·clear HSl HSm HGG;rcases HV.out with h0 | ⟨b, off, rfl, hbyte⟩
   ·omega
   have d4 : wr.cell? ⟨b, off + i, none⟩ = some (.int .u8 (g i)) := trw.qf hb (hbyte i (by omega));have d5 : wr.cell? ⟨b, off + (i + 1), none⟩ = some (.int .u8 (g (i + 1))) := trw.qf hb (hbyte (i + 1) hlt);have hltI : (i : Int) + 1 < (n : Int) := by omega
   have HS := xH (show ¬ (g i = 92 ∧ g (i + 1) = 81) → ∀ j, j < i + 1 → j + 1 < n → ¬ (g j = 92 ∧ g (j + 1) = 81) from fun h j hj h2 => by
    by_cases e : j = i
    ·subst e; exact h
    ·exact HN.out j (by omega) h2)
   obtain ⟨y0, y1⟩ := HGb.out i;obtain ⟨z0, z1⟩ := HGb.out (i + 1);clear HN hbyte;generalize g i = y at d4 y0 y1 HS;generalize g (i + 1) = z at d5 z0 z1 HS;by_cases hy : y = 92
   ·have b1 : (y == 92) = true := by simp [hy]
    by_cases hz : z = 81
    ·have b2 : (z == 81) = true := by simp [hz]
     clear hy hz HS;go_wp2_with fail
     go_ret
     exact ⟨rfl, hb⟩
    ·have b2 : (z == 81) = false := by simp [hz]
     have HS2 := xH (HS.out (fun h => hz h.2));clear hy hz HS;go_wp2_with fail
     go_roundw
     case rel => exact ⟨i + 1, by go_num, by omega, HS2, hb⟩
     case measure => simp [intOf]; omega
   ·have b1 : (y == 92) = false := by simp [hy]
    have HS2 := xH (HS.out (fun h => hy h.1));clear hy HS;go_wp2_with fail
    go_roundw
    case rel => exact ⟨i + 1, by go_num, by omega, HS2, hb⟩
    case measure => simp [intOf]; omega
  ·have hltI : ¬ (i : Int) + 1 < (n : Int) := by omega
   have hs : (strOf n g).size = n := strOf_size n g;have hs2 : (strOf n2 g2).size = n2 := strOf_size n2 g2;have HQ := xH (show ∀ j, j + 1 < (strOf n g).size → ¬ (sg (strOf n g) j = 92 ∧ sg (strOf n g) (j + 1) = 81) from fun j hj => by rw [hs] at hj;rw [HGG.out j (by omega), HGG.out (j + 1) hj];exact HN.out j (by omega) hj)
   clear HN HGG HGb HV;have t0 : (strOf n g).size ≤ 450 := by omega
   have t1 : (strOf n2 g2).size ≤ 450 := by omega
   clear hs hs2;generalize strOf n g = S at *;generalize strOf n2 g2 = S2 at *;have s0 : S.size ≤ 1000 := by omega
   have s1 : S2.size ≤ 1000 := by omega
   have s2 : ByteArray.size ⟨#[124]⟩ ≤ 1000 := by decide
   have s3 : ByteArray.size (S ++ (⟨#[124]⟩ : ByteArray)) ≤ 1000 := by rw [ByteArray.size_append]; show S.size + 1 ≤ 1000; omega
   have s4 : ByteArray.size ((S ++ (⟨#[124]⟩ : ByteArray)) ++ S2) ≤ 1000 := by rw [ByteArray.size_append, ByteArray.size_append]; show S.size + 1 + S2.size ≤ 1000; omega
   have HW := xH (fun f1 f2 (h1 : textP S = .ok f1) (h2 : textP S2 = .ok f2) => joins_text t0 t1 HQ.out h1 h2);have HP1 := xH (fun w1 (hb : Below w.heap.size w w1) => (parsed_any S w1 (tabP_below hb HT.out) s0).mono fun _ _ h => pag_of h);have HP2 := xH (fun w1 (hb : Below w.heap.size w w1) => (parsed_any S2 w1 (tabP_below hb HT.out) s1).mono fun _ _ h => pag_of h);have HP3 := xH (fun w1 (hb : Below w.heap.size w w1) => (parsed_any ((S ++ (⟨#[124]⟩ : ByteArray)) ++ S2) w1 (tabP_below hb HT.out) s4).mono fun _ _ h => pag_of h);have hcv := HSl.out wr hb;have HB0 := xH hb;clear HQ hb t0 t1;go_wp2_with fail
   refine (HP1.out wr HB0.out).mono ?_;rintro e w3 ⟨x, c1, d1, rfl, hb3, ho3, hk3, hz3⟩;have HB3 := xH (trw.qi HB0.out hb3);have HN3 := xH hk3;have HO := xH ho3;have HG3 := xH (heap_alloc_new w3 (.cells zC.toArray 31));have HT3 := xH (zO w3 x);unfold zC at HG3 HT3;clear hb3 ho3 hk3 hz3 HP1 HB0 hcv;dsimp only;go_upto_region 12 with (refine qh rfl rfl _ _ rfl w3.heap.size rfl _ x HG3.out rfl HO.out rfl ?_)
   generalize (w3.alloc _).setRow _ _ = w4 at *;have HB4 := xH (trw.qi HB3.out HT3.out.b);have HN4 := xH (show c1 = 0 → ∃ k, textP S = .ok (strip (F.one x k)) ∧ NdAt w4 (x, k) from fun h => by obtain ⟨k, h1, h2⟩ := HN3.out h;exact ⟨k, h1, trw.vO HT3.out.b h2⟩)
   have HC4 := xH HT3.out.c;clear HB3 HG3 HN3 HO HT3;generalize w3.heap.size = V3 at *;have hcv := HSm.out w4 HB4.out;go_wp2_with fail
   refine (HP2.out w4 HB4.out).mono ?_;rintro e w5 ⟨y, c2, d2, rfl, hb5, ho5, hk5, hz5⟩;have HB5 := xH (trw.qi HB4.out hb5);have HN5 := xH hk5;have HM5 := xH (show c1 = 0 → ∃ k, textP S = .ok (strip (F.one x k)) ∧ NdAt w5 (x, k) from fun h => by obtain ⟨k, h1, h2⟩ := HN4.out h;exact ⟨k, h1, trw.vO hb5 h2⟩)
   have HC5 := xH (fun j u hj => trw.qf hb5 (HC4.out j u hj));have HO := xH ho5;have HG5 := xH (heap_alloc_new w5 (.cells zC.toArray 31));have HT5 := xH (zO w5 y);unfold zC at HG5 HT5;clear hb5 ho5 hk5 hz5 HP2 HB4 HN4 HC4 hcv;dsimp only;go_upto_region 13 with (refine qh rfl rfl _ _ rfl w5.heap.size rfl _ y HG5.out rfl HO.out rfl ?_)
   generalize (w5.alloc _).setRow _ _ = w6 at *;have HB6 := xH (trw.qi HB5.out HT5.out.b);have HC6 := xH (fun j u hj => trw.qf HT5.out.b (HC5.out j u hj));have HD6 := xH HT5.out.c;have HN6 := xH (show c2 = 0 → ∃ k, textP S2 = .ok (strip (F.one y k)) ∧ NdAt w6 (y, k) from fun h => by obtain ⟨k, h1, h2⟩ := HN5.out h;exact ⟨k, h1, trw.vO HT5.out.b h2⟩)
   have HM6 := xH (show c1 = 0 → ∃ k, textP S = .ok (strip (F.one x k)) ∧ NdAt w6 (x, k) from fun h => by obtain ⟨k, h1, h2⟩ := HM5.out h;exact ⟨k, h1, trw.vO HT5.out.b h2⟩)
   clear HB5 HG5 HN5 HM5 HO HT5 HC5;generalize w5.heap.size = V5 at *;by_cases hc1 : c1 = 0;case neg =>
    have b1 : (c1 != 0) = true := by simp [hc1]
    clear HM6 HN6 HC6 HD6 HP3 HW HSl HSm s0 s1 s2 s3 s4 hc1;go_wp2_with fail
    go_ret
    exact ⟨rfl, HB6.out⟩
   by_cases hc2 : c2 = 0;case neg =>
    have b1 : (c1 != 0) = false := by simp [hc1]
    have b2 : (c2 != 0) = true := by simp [hc2]
    clear HM6 HN6 HC6 HD6 HP3 HW HSl HSm s0 s1 s2 s3 s4 hc1 hc2;go_wp2_with fail
    go_ret
    exact ⟨rfl, HB6.out⟩
   obtain ⟨k, hp1, hn1⟩ := HM6.out hc1;obtain ⟨k2, hp2, hn2⟩ := HN6.out hc2;have HL1 := xH (part_len hp1);have HL2 := xH (part_len hp2);have HNX := xH hn1;have HNY := xH hn2;have HWW := xH (HW.out _ _ hp1 hp2);clear HM6 HN6 HW hp1 hp2 hn1 hn2;subst hc1 hc2;have hcv := HSl.out w6 HB6.out;have hcw := HSm.out w6 HB6.out;go_wp2_with fail
   refine (HP3.out w6 HB6.out).mono ?_;clear hcv hcw HP3 HSl HSm s0 s1 s2 s3 s4;obtain ⟨kk, hok, hkk⟩ := HWW.out;rw [hok];rintro e w7 ⟨X, c3, d3, rfl, hb7, ho7, hk7, hz7⟩;obtain rfl : c3 = 0 := hz7 _ rfl;obtain ⟨K, hst, hn7⟩ := hk7 rfl;have HSS := xH (fun v => bar_same (v := v) (Except.ok.inj hst).symm hkk rfl rfl);have hX := (HSS.out (.slice none 0 0)).1;have HXK := xH hX;have HB7 := xH (trw.qi HB6.out hb7);have HNX7 := xH (trw.vO hb7 HNX.out);have HNY7 := xH (trw.vO hb7 HNY.out);have HNZ7 := xH hn7;have HC7 := xH (fun j u hj => trw.qf hb7 (HC6.out j u hj));have HD7 := xH (fun j u hj => trw.qf hb7 (HD6.out j u hj));have HO := xH ho7;have HG7 := xH (heap_alloc_new w7 (.cells zC.toArray 31));have HT7 := xH (zO w7 X);unfold zC at HG7 HT7;clear hb7 ho7 hk7 hz7 hst hn7 hX hok hkk HWW HB6 HNX HNY HC6 HD6;dsimp only;go_upto_region 16 with (refine qh rfl rfl _ _ rfl w7.heap.size rfl _ X HG7.out rfl HO.out rfl ?_)
   generalize (w7.alloc _).setRow _ _ = w8 at *;have HB8 := xH (trw.qi HB7.out HT7.out.b);have HNX8 := xH (trw.vO HT7.out.b HNX7.out);have HNY8 := xH (trw.vO HT7.out.b HNY7.out);have HNZ8 := xH (trw.vO HT7.out.b HNZ7.out);have HC8 := xH (fun j u hj => trw.qf HT7.out.b (HC7.out j u hj));have HD8 := xH (fun j u hj => trw.qf HT7.out.b (HD7.out j u hj));have HE8 := xH HT7.out.c;clear HB7 HG7 HO HT7 HNX7 HNY7 HNZ7 HC7 HD7;generalize w7.heap.size = V7 at *;have hn0 : w8.heap.size ≤ w8.heap.size := Nat.le_refl _;obtain ⟨N0, hN0⟩ : ∃ N0, w8.heap.size = N0 := ⟨_, rfl⟩;have HN0 := xH hN0;clear hn0 hN0;go_wp2_with (refine jv rfl _ rfl V3 0 rfl x HC8.out ?_)
   refine (parts_any (fun _ => false) x k w8 (old_none _) (nd_all HNX8.out)).mono ?_;rintro e w9 ⟨hb9, v9, rfl, hk9⟩;have HK9 := xH (kids_nil hk9);have HB9 := xH hb9;have HZ9 := xH (show N0 ≤ w9.heap.size by rw [← HN0.out]; exact hb9.size);have HG1 := xH (show F.nil.len + (partF x k).len ≤ 200000 by have := HL1.out; simp only [F.len]; omega);obtain ⟨p1, hp1⟩ : ∃ p1, partF x k = p1 := ⟨_, rfl⟩;rw [hp1] at HK9 HL1 HG1 HSS;clear hb9 hk9 hp1 HNX8 HC8;go_upto_region 18 with (at_builtin; refine wpList_append_h rfl _ _ rfl (fun _ => false) N0 nil3 .nil rfl (ownH_nil _ _ _) (old_none _) v9 p1 rfl HK9.out HG1.out HZ9.out ?_; intro v10 w10 h10 hb10; have HO10 := xH h10; have HB10 := xH (show Below N0 w8 w10 from by { have hq := HB9.out; rw [HN0.out] at hq; exact hq.trans hb10 }); clear h10 hb10)
   have HS10 := xH (show w8.heap.size ≤ w10.heap.size by have := HB10.out.size; exact this);have HNY10 := xH (show NdAt (sees (rsw.hx (fun _ => false) v10) w10) (y, k2) from qY (zY HB10.out (by rw [HN0.out]; exact Nat.le_refl _) (fun g hg => (rpw.own_below HO10.out.1 hg).1)) (nd_all HNY8.out));have HOL := xH (show Old (rsw.hx (fun _ => false) v10) w10.heap.size from rsw.hx_old (old_none N0) (by rw [← HN0.out]; exact HS10.out) HO10.out.1 (Nat.le_refl _));have HD10 := xH (fun j u hj => show w10.cell? ⟨V5, 0 + j, none⟩ = some u from by have h1 := HD8.out j u hj;have h2 := cell_lt h1;rw [HN0.out] at h2;exact (World.cell?_of_block (HB10.out.block V5 h2)).trans h1)
   clear HNY8 HD8 HK9 HB9 HZ9;go_wp2_with (refine jv rfl _ rfl V5 0 rfl y HD10.out ?_)
   refine (parts_any (rsw.hx (fun _ => false) v10) y k2 w10 HOL.out HNY10.out).mono ?_;rintro e w11 ⟨hb11, v11, rfl, hk11⟩;have HK11 := xH hk11;have HO11 := xH (ownH_below HO10.out hb11);have HB11 := xH (show Below N0 w8 w11 from by have hq := HB10.out;exact hq.trans (hb11.mono (by rw [← HN0.out]; exact HS10.out)))
   have HG2 := xH (show (F.app .nil p1).len + (partF y k2).len ≤ 200000 by have h1 := HL1.out; have h2 := HL2.out; show p1.len + (partF y k2).len ≤ 200000; omega);have HZ11 := xH (show N0 ≤ w11.heap.size by rw [← HN0.out]; exact HB11.out.size);obtain ⟨p2, hp2⟩ : ∃ p2, partF y k2 = p2 := ⟨_, rfl⟩;rw [hp2] at HK11 HL2 HG2 HSS;clear hb11 hk11 hp2 HNY10 HD10 HO10 HB10 HS10 HOL;go_upto_region 19 with (at_builtin; refine wpList_append_h rfl _ _ rfl (fun _ => false) N0 v10 (F.app .nil p1) rfl HO11.out (old_none _) v11 p2 rfl HK11.out HG2.out HZ11.out ?_; intro v12 w12 h12 hb12; have HO12 := xH h12; have HB12 := xH (show Below N0 w8 w12 from HB11.out.trans hb12); clear h12 hb12)
   obtain ⟨sa, sc, rfl⟩ := kids_len (ownH_kids HO12.out (old_none N0));have HBZ := xH (show Below w8.heap.size w8 w12 from by rw [HN0.out]; exact HB12.out);have HBW := xH (trw.qi HB8.out HBZ.out);have HKG := xH (alt_nd (jh (fun _ _ hc => sees_to hc) (ownH_kids HO12.out (old_none N0))));have HNZ := xH (trw.vO HBZ.out HNZ8.out);have HE12 := xH (fun j u hj => trw.qf HBZ.out (HE8.out j u hj));have HSM := xH (HSS.out (.slice sa (F.app (F.app .nil p1) p2).len sc)).2;clear HSS HK11 HO11 HO12 HB11 HB12 HG1 HG2 HL1 HL2 HZ11 HNZ8 HE8 HB8 HBZ HN0;obtain ⟨xk, xa, xc, xs, xset, xneg, xn, xm, xmode, xname, xon, xoff, xkv⟩ := X;obtain rfl : xk = 13 := HXK.out;have HCS := xH (show Calls Tryd.prog 13 #[ndV ⟨13, xa, xc, xs, xset, xneg, xn, xm, xmode, xname, xon, xoff, xkv⟩, ndV { lab 13 0 with kv := .slice sa (F.app (F.app .nil p1) p2).len sc }] w12 (BoolB true w12) from by have h := rsame_any (K.size + 1) (⟨13, xa, xc, xs, xset, xneg, xn, xm, xmode, xname, xon, xoff, xkv⟩, K) ({ lab 13 0 with kv := .slice sa (F.app (F.app .nil p1) p2).len sc }, F.app (F.app .nil p1) p2) w12 (Nat.lt_succ_self _) HNZ.out HKG.out;rw [HSM.out] at h;exact h)
   simp only [ndV, lab, nil3] at HCS;have f0 : w12.cell? ⟨V7, 0, none⟩ = some (.int .i64 13) := by have := HE12.out 0 _ rfl; simpa using this
   have f1 : w12.cell? ⟨V7, 1, none⟩ = some (.int .i64 xa) := by have := HE12.out 1 _ rfl; simpa using this
   have f2 : w12.cell? ⟨V7, 2, none⟩ = some (.int .i64 xc) := by have := HE12.out 2 _ rfl; simpa using this
   have f3 : w12.cell? ⟨V7, 3, none⟩ = some (xs) := by have := HE12.out 3 _ rfl; simpa using this
   have f4 : w12.cell? ⟨V7, 4, none⟩ = some (.bool xneg) := by have := HE12.out 4 _ rfl; simpa using this
   have f5 : w12.cell? ⟨V7, 5, none⟩ = some (.int .i64 xn) := by have := HE12.out 5 _ rfl; simpa using this
   have f6 : w12.cell? ⟨V7, 6, none⟩ = some (.int .i64 xm) := by have := HE12.out 6 _ rfl; simpa using this
   have f7 : w12.cell? ⟨V7, 7, none⟩ = some (.int .i64 xmode) := by have := HE12.out 7 _ rfl; simpa using this
   have f8 : w12.cell? ⟨V7, 8, none⟩ = some (.string xname) := by have := HE12.out 8 _ rfl; simpa using this
   have f9 : w12.cell? ⟨V7, 9, none⟩ = some (.int .i64 xon) := by have := HE12.out 9 _ rfl; simpa using this
   have f10 : w12.cell? ⟨V7, 10, none⟩ = some (.int .i64 xoff) := by have := HE12.out 10 _ rfl; simpa using this
   have f11 : w12.cell? ⟨V7, 11, none⟩ = some (xkv) := by have := HE12.out 11 _ rfl; simpa using this
   clear HKG HNZ HE12 HSM HXK;generalize (F.app (F.app .nil p1) p2).len = ln at *;go_wp2_with fail
   refine HCS.out.mono ?_;rintro e w13 ⟨rfl, hb13⟩;have HBX := xH (trw.qi HBW.out hb13);clear hb13;go_wp2_with fail
   go_ret
   exact ⟨rfl, HBX.out⟩
end Go.Proofs.YtnpcombfgdbhkaaDoor.psl
end
