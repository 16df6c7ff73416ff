/- T -/
import Derived.BigQuiet
import Derived.Deep.Cut
import Derived.Deep.Onto
import Derived.Deep.RegionHeld3
import Derived.Laws.CopyRow
import Derived.Laws.OwnMore
import Derived.Laws.Rows
import Derived.Lib.Hide
import Derived.Lib.QuietBelow
import Derived.Maps.AppendAt
import Derived.OwnWalk
import Derived.RegionTactic
import Derived.Shelf.Abstract
import Derived.Test.YtnpcombfgdbhkaaDoorRows
import Derived.WalkKit
import Derived.WalkMore
import Derived.Test.YtnpcombfgdbhkaaDoorBPs04
set_option maxHeartbeats 16000000
set_option maxRecDepth 1000000
section
namespace Go.Proofs.YtnpcombfgdbhkaaDoor.psp
open sq
open Go tkp trp rpp
structure G where
 t : Tk
 kf : F
 jf : F
def lastR : F → Bool
 | .nil => false
 | .cons x _ .nil => repK x.kind && decide (x.kind ≠ 20)
 | .cons _ _ r => lastR r
def repL (t : Tk) : F → F
 | .nil => .nil
 | .cons x k .nil => repF t (F.one x k)
 | .cons x k r => .cons x k (repL t r)
def putG (g : G) (x : F) : G := if g.t.n = 13 ∧ g.kf.len = 0 then { g with kf := F.app g.kf x } else { g with jf := F.app g.jf x }
def endG (g : G) : G := { g with kf := F.app g.kf (oneF 12 g.jf), jf := .nil }
def treeG (g : G) : F := oneF 13 (endG g).kf
def manyG (g : G) : Bool := condT g.t && (if g.t.n = 12 then decide (1 < (endG g).kf.len) else if g.t.n = 13 then decide (3 < (endG g).kf.len) else decide (2 < (endG g).kf.len))
def nodeG (g : G) : F := jf g.t .nil (endG g).kf
abbrev E2 (α : Type) := Except (Int × Int) α
def stepG (t : Tk) : List G → E2 (List G)
 | [] => .ok []
 | g :: T =>
  if t.kind = 7 then .ok (endG g :: T)
  else if t.kind = 9 then (if lastR g.jf = true then .ok ({ g with jf := repL t g.jf } :: T) else .error (30, t.at_))
  else if t.kind = 10 then (if 40 < T.length + 1 then .error (11, t.at_) else .ok (⟨t, .nil, .nil⟩ :: g :: T))
  else if t.kind = 8 then (match T with
   | [] => .error (31, t.at_)
   | q :: U => if manyG g = true then .error (32, g.t.at_) else .ok (putG q (nodeG g) :: U))
  else .ok (putG g (F.one (leafL t nil3) .nil) :: T)
theorem step_c (t : Tk) (g : G) (T : List G) : stepG t (g :: T) = (if t.kind = 7 then .ok (endG g :: T)
 else if t.kind = 9 then (if lastR g.jf = true then .ok ({ g with jf := repL t g.jf } :: T) else .error (30, t.at_))
 else if t.kind = 10 then (if 40 < T.length + 1 then .error (11, t.at_) else .ok (⟨t, .nil, .nil⟩ :: g :: T))
 else if t.kind = 8 then (match T with
  | [] => .error (31, t.at_)
  | q :: U => if manyG g = true then .error (32, g.t.at_) else .ok (putG q (nodeG g) :: U))
 else .ok (putG g (F.one (leafL t nil3) .nil) :: T)) := rfl
def goG : List Tk → List G → Int → R F
 | [], [g], _ => .ok (treeG g)
 | [], _, n => .error (20, n)
 | t :: l, T, n => match stepG t T with
  | .error e => .error e
  | .ok U => goG l U n
def stackP (L : List Tk) (n : Int) : R F := goG L [⟨zeroT, .nil, .nil⟩] n
structure TOk (L : List Tk) : Prop where
 k : ∀ t ∈ L, 1 ≤ t.kind ∧ t.kind ≤ 15
 c : ∀ i t u, L[i]? = some t → L[i + 1]? = some u → t.kind = 10 → t.n = 13 → u.kind = 10
theorem app_nil : ∀ f : F, F.app f .nil = f
 | .nil => rfl
 | .cons x k r => by rw [F.app, app_nil r]
theorem app_assoc : ∀ f g h : F, F.app (F.app f g) h = F.app f (F.app g h)
 | .nil, _, _ => rfl
 | .cons x k r, g, h => by rw [F.app, F.app, F.app, app_assoc r g h]
theorem app_len' : ∀ f g : F, (F.app f g).len = f.len + g.len
 | .nil, g => by simp [F.app, F.len]
 | .cons _ _ r, g => by rw [F.app, F.len, app_len' r g, F.len]; omega
theorem lastR_app : ∀ (f : F) (x : Lab) (k : F), lastR (F.app f (F.one x k)) = (repK x.kind && decide (x.kind ≠ 20))
 | .nil, _, _ => rfl
 | .cons _a _b .nil, _x, _k => rfl
 | .cons _a _b (.cons c d r), x, k => lastR_app (.cons c d r) x k
theorem repL_app (t : Tk) : ∀ (f : F) (x : Lab) (k : F), repL t (F.app f (F.one x k)) = F.app f (repF t (F.one x k))
 | .nil, _, _ => rfl
 | .cons a b .nil, x, k => rfl
 | .cons a b (.cons c d r), x, k => by show F.cons a b (repL t (F.app (.cons c d r) (F.one x k))) = F.cons a b (F.app (.cons c d r) (repF t (F.one x k)));rw [repL_app t (.cons c d r) x k]
theorem groupF_one (t : Tk) (q l : F) : ∃ x k, jf t q l = F.one x k ∧ x.kind ≠ 20 := by
 unfold jf
 repeat' split
 all_goals exact ⟨_, _, rfl, by intro h; simp [lab] at h⟩
theorem leafK_ne (k : Int) : leafK k ≠ 20 := by
 unfold leafK
 repeat' split
 all_goals decide
def erG (s : Ps) (N : Int) : R F := if s.e = 20 then .error (20, N) else .error (s.e, s.at_)
theorem seq_err {L : List Tk} {n : Nat} {a : F} {s : Ps} (h : s.e ≠ 0) : (run L n (.seq a) s).2 = s := by
 cases n with
 | zero => rfl
 | succ n =>
  rw [run, if_pos (Or.inl (by unfold kindS; rw [if_pos h]))]
theorem kind_err {L : List Tk} {s : Ps} (h : s.e ≠ 0) : kindS L s = 0 := by unfold kindS; rw [if_pos h]
theorem alt_err {L : List Tk} {n : Nat} {a : F} {s : Ps} (h : s.e ≠ 0) : (run L n (.alt a) s).2 = s := by
 cases n with
 | zero => rfl
 | succ n =>
  rw [run];simp only;rw [seq_err h, kind_err h, if_neg (by decide)]
theorem fail_err {s : Ps} {e a : Int} (h : s.e ≠ 0) : failS s e a = s := by unfold failS; rw [if_neg h]
theorem fail_ok {s : Ps} {e a : Int} (h : s.e = 0) : failS s e a = { s with e := e, at_ := a } := by unfold failS; rw [if_pos h]
theorem drop_at {L : List Tk} {i : Nat} {t : Tk} (h : L[i]? = some t) : L.drop i = t :: L.drop (i + 1) := by obtain ⟨h1, h2⟩ := List.getElem?_eq_some_iff.1 h;rw [List.drop_eq_getElem_cons h1, h2]
theorem kind_tok {L : List Tk} {s : Ps} {t : Tk} (he : s.e = 0) (h : L[s.i]? = some t) : kindS L s = t.kind := by unfold kindS;rw [if_neg (by simp [he]), h]
theorem kind_end {L : List Tk} {s : Ps} (hL : TOk L) (he : s.e = 0) (h : kindS L s = 0) : L.length ≤ s.i := by apply Classical.byContradiction;intro hn;have hg : L[s.i]? = some (L[s.i]'(by omega)) := List.getElem?_eq_getElem (by omega);rw [kind_tok he hg] at h;have := (hL.k _ (List.mem_of_getElem? hg)).1;omega
structure Sq (L : List Tk) (N : Int) (n : Nat) : Prop where
 th : ∀ (s : Ps) (g : G) (T : List G), s.e = 0 → s.i < L.length → T.length = s.op → s.op ≤ 40 → 3 * rem L s + 1 ≤ n → kindS L s ≠ 7 → kindS L s ≠ 8 → kindS L s ≠ 9 →
  ((run L n .thing s).2.e = 0 → goG (L.drop s.i) (g :: T) N = goG (L.drop (run L n .thing s).2.i) (putG g (run L n .thing s).1 :: T) N ∧ ∃ x k, (run L n .thing s).1 = F.one x k ∧ x.kind ≠ 20) ∧
  ((run L n .thing s).2.e ≠ 0 → goG (L.drop s.i) (g :: T) N = erG (run L n .thing s).2 N)
 sq : ∀ (s : Ps) (g : G) (T : List G), s.e = 0 → s.i ≤ L.length → T.length = s.op → s.op ≤ 40 → 3 * rem L s + 2 ≤ n → (g.t.n = 13 → g.kf.len ≠ 0) → (kindS L s = 9 → lastR g.jf = false) →
  ((run L n (.seq g.jf) s).2.e = 0 → ∃ a, oneF 12 a = (run L n (.seq g.jf) s).1 ∧ goG (L.drop s.i) (g :: T) N = goG (L.drop (run L n (.seq g.jf) s).2.i) ({ g with jf := a } :: T) N ∧
   (kindS L (run L n (.seq g.jf) s).2 = 0 ∨ kindS L (run L n (.seq g.jf) s).2 = 7 ∨ kindS L (run L n (.seq g.jf) s).2 = 8)) ∧
  ((run L n (.seq g.jf) s).2.e ≠ 0 → goG (L.drop s.i) (g :: T) N = erG (run L n (.seq g.jf) s).2 N)
 al : ∀ (s : Ps) (g : G) (B a : F) (T : List G), s.e = 0 → s.i ≤ L.length → T.length = s.op → s.op ≤ 40 → 3 * rem L s + 3 ≤ n → (g.t.n = 13 → B.len ≠ 0) → g.jf = .nil → g.kf = F.app B a →
  ((run L n (.alt a) s).2.e = 0 → ∃ g' : G, goG (L.drop s.i) (g :: T) N = goG (L.drop (run L n (.alt a) s).2.i) (g' :: T) N ∧ g'.t = g.t ∧ (endG g').kf = F.app B (run L n (.alt a) s).1 ∧
   (kindS L (run L n (.alt a) s).2 = 0 ∨ kindS L (run L n (.alt a) s).2 = 8)) ∧
  ((run L n (.alt a) s).2.e ≠ 0 → goG (L.drop s.i) (g :: T) N = erG (run L n (.alt a) s).2 N)
theorem go_step {t : Tk} {l : List Tk} {T U : List G} {N : Int} (h : stepG t T = .ok U) : goG (t :: l) T N = goG l U N := by simp only [goG, h]
theorem go_er {t : Tk} {l : List Tk} {T : List G} {N : Int} {e : Int × Int} (h : stepG t T = .error e) : goG (t :: l) T N = .error e := by simp only [goG, h]
theorem al_of {L : List Tk} {N : Int} {n : Nat} (h : Sq L N n) (s : Ps) (g : G) (B a : F) (T : List G) (he : s.e = 0) (hi : s.i ≤ L.length) (ht : T.length = s.op) (ho : s.op ≤ 40) (hn : 3 * rem L s + 3 ≤ n + 1) (h13 : g.t.n = 13 → B.len ≠ 0) (hj : g.jf = .nil) (hk : g.kf = F.app B a) :
 ((run L (n + 1) (.alt a) s).2.e = 0 → ∃ g' : G, goG (L.drop s.i) (g :: T) N = goG (L.drop (run L (n + 1) (.alt a) s).2.i) (g' :: T) N ∧ g'.t = g.t ∧ (endG g').kf = F.app B (run L (n + 1) (.alt a) s).1 ∧
  (kindS L (run L (n + 1) (.alt a) s).2 = 0 ∨ kindS L (run L (n + 1) (.alt a) s).2 = 8)) ∧
 ((run L (n + 1) (.alt a) s).2.e ≠ 0 → goG (L.drop s.i) (g :: T) N = erG (run L (n + 1) (.alt a) s).2 N) := by
 have hs := h.sq s g T he hi ht ho (by omega) (fun e => by have := h13 e; rw [hk, app_len']; omega) (fun _ => by rw [hj]; rfl);have hv := (zq L n (.seq g.jf) s hi ho (fun h => by cases h)).1;rw [run];simp only;rw [hj] at hs hv;generalize run L n (.seq .nil) s = r at *;by_cases h7 : kindS L r.2 = 7
 ·rw [if_pos h7];obtain ⟨e0, i0, tk, htk, hkd⟩ := zW (L := L) (s := r.2) (by rw [h7]; decide);obtain ⟨q, hq1, hq2, _⟩ := hs.1 e0;have hb := h.al { r.2 with i := r.2.i + 1 } (endG { g with jf := q }) B (F.app a r.1) T e0 i0 (ht.trans (hv.e e0).2.symm) hv.op (by
   have h1 := hv.r;have h2 := rem_lt (q := { r.2 with i := r.2.i + 1 }) e0 i0 (Or.inr (Nat.lt_succ_self _));omega) h13 rfl (by show F.app g.kf (oneF 12 q) = _; rw [hk, hq1, app_assoc])
  rw [show goG (L.drop s.i) (g :: T) N = goG (L.drop (r.2.i + 1)) (endG { g with jf := q } :: T) N by rw [hq2, drop_at htk];exact go_step (by rw [step_c]; rw [if_pos (by rw [← hkd, h7])])]
  exact hb
 ·rw [if_neg h7];refine ⟨fun e0 => ?_, fun e0 => hs.2 e0⟩;obtain ⟨q, hq1, hq2, hq3⟩ := hs.1 e0;refine ⟨{ g with jf := q }, hq2, rfl, ?_, by rcases hq3 with h | h | h; exact Or.inl h; exact absurd h h7; exact Or.inr h⟩;show F.app g.kf (oneF 12 q) = _;rw [hk, hq1, app_assoc]
theorem putG_sq {g : G} {x : F} (h : g.t.n = 13 → g.kf.len ≠ 0) : putG g x = { g with jf := F.app g.jf x } := by unfold putG;rw [if_neg (fun q => h q.1 q.2)]
theorem sq_of {L : List Tk} {N : Int} {n : Nat} (h : Sq L N n) (s : Ps) (g : G) (T : List G) (he : s.e = 0) (hi : s.i ≤ L.length) (ht : T.length = s.op) (ho : s.op ≤ 40) (hn : 3 * rem L s + 2 ≤ n + 1) (h13 : g.t.n = 13 → g.kf.len ≠ 0) (h9 : kindS L s = 9 → lastR g.jf = false) :
 ((run L (n + 1) (.seq g.jf) s).2.e = 0 → ∃ a, oneF 12 a = (run L (n + 1) (.seq g.jf) s).1 ∧ goG (L.drop s.i) (g :: T) N = goG (L.drop (run L (n + 1) (.seq g.jf) s).2.i) ({ g with jf := a } :: T) N ∧
  (kindS L (run L (n + 1) (.seq g.jf) s).2 = 0 ∨ kindS L (run L (n + 1) (.seq g.jf) s).2 = 7 ∨ kindS L (run L (n + 1) (.seq g.jf) s).2 = 8)) ∧
 ((run L (n + 1) (.seq g.jf) s).2.e ≠ 0 → goG (L.drop s.i) (g :: T) N = erG (run L (n + 1) (.seq g.jf) s).2 N) := by
 rw [run];by_cases h0 : kindS L s = 0 ∨ kindS L s = 7 ∨ kindS L s = 8
 ·rw [if_pos h0];exact ⟨fun _ => ⟨g.jf, rfl, rfl, h0⟩, fun e => absurd he e⟩
 rw [if_neg h0];obtain ⟨_, i0, tk, htk, hkd⟩ := zW (L := L) (s := s) (fun e => h0 (Or.inl e));by_cases hk9 : kindS L s = 9
 ·rw [if_pos hk9, List.getD_eq_getElem?_getD, htk, fail_ok he];refine ⟨fun e => absurd e (by show (30 : Int) ≠ 0; decide), fun _ => ?_⟩;rw [drop_at htk];rw [go_er (e := (30, (tk.at_ : Int))) (by
   rw [step_c];rw [if_neg (by rw [← hkd, hk9]; decide), if_pos (by rw [← hkd, hk9]), h9 hk9];rfl)]
  rfl
 rw [if_neg hk9];simp only;have hth := h.th s g T he i0 ht ho (by omega) (fun e => h0 (Or.inr (Or.inl e))) (fun e => h0 (Or.inr (Or.inr e))) hk9;have hv := (zq L n .thing s hi ho (fun _ => ⟨he, i0⟩)).1;have hlt := run_rem (L := L) (n := n) (s := s) (by omega) ho he i0;generalize run L n .thing s = r at *;by_cases e1 : r.2.e = 0;case neg =>
  rw [if_neg (fun q => by rw [kind_err e1] at q; exact absurd q.1 (by decide)), seq_err e1];exact ⟨fun e => absurd e e1, fun _ => hth.2 e1⟩
 obtain ⟨hg, x, k, hx, hx20⟩ := hth.1 e1;rw [putG_sq h13] at hg;have hop : T.length = r.2.op := ht.trans (hv.e e1).2.symm;rw [hg, hx, show (F.one x k).hd = x.kind from rfl];by_cases hc : kindS L r.2 = 9 ∧ repK x.kind = true
 ·rw [if_pos hc];obtain ⟨_, i1, t1, ht1, hk1⟩ := zW (L := L) (s := r.2) (by rw [hc.1]; decide);rw [List.getD_eq_getElem?_getD, ht1];have hb := h.sq { r.2 with i := r.2.i + 1 } { g with jf := F.app g.jf (repF t1 (F.one x k)) } T e1 i1 hop hv.op (by
   have h2 := rem_lt (q := { r.2 with i := r.2.i + 1 }) e1 i1 (Or.inr (Nat.lt_succ_self _));omega) h13 (fun _ => lastR_app _ _ _)
  rw [show goG (L.drop r.2.i) ({ g with jf := F.app g.jf (F.one x k) } :: T) N = goG (L.drop (r.2.i + 1)) ({ g with jf := F.app g.jf (repF t1 (F.one x k)) } :: T) N by rw [drop_at ht1];refine go_step ?_;rw [step_c];rw [if_neg (by rw [← hk1, hc.1]; decide), if_pos (by rw [← hk1, hc.1]), if_pos (by rw [lastR_app, hc.2]; simpa using hx20), repL_app]]
  exact hb
 ·rw [if_neg hc];exact h.sq r.2 { g with jf := F.app g.jf (F.one x k) } T e1 hv.n hop hv.op (by omega) h13 (fun e9 => by
   rw [lastR_app];cases hr : repK x.kind with
   | false => rfl
   | true => exact absurd ⟨e9, hr⟩ hc)
theorem group_B {t : Tk} {B l : F} (h : t.n ≠ 13 → B = .nil) : jf t .nil (F.app B l) = jf t B l := by
 by_cases h13 : t.n = 13
 ·unfold jf;simp [h13, F.app]
 ·rw [h h13];rfl
theorem many_B {g : G} {t : Tk} {B l : F} (ht : g.t = t) (hk : (endG g).kf = F.app B l) (h : t.n ≠ 13 → B = .nil) (h1 : t.n = 13 → B.len = 1) : manyG g = true ↔ (condT t = true ∧ (2 < l.len ∨ (1 < l.len ∧ t.n = 12))) := by
 unfold manyG;rw [ht, hk, app_len', Bool.and_eq_true];refine and_congr_right fun _ => ?_
 by_cases h12 : t.n = 12
 ·rw [if_pos h12, h (by omega)];rw [decide_eq_true_eq];simp only [F.len];omega
 ·rw [if_neg h12];by_cases h13 : t.n = 13
  ·rw [if_pos h13, h1 h13];simp only [decide_eq_true_eq];omega
  ·rw [if_neg h13, h h13];rw [decide_eq_true_eq];simp only [F.len];omega
theorem th_of {L : List Tk} {N : Int} {n : Nat} (hL : TOk L) (h : Sq L N n) (s : Ps) (g : G) (T : List G) (he : s.e = 0) (hi : s.i < L.length) (ht : T.length = s.op) (ho : s.op ≤ 40) (hn : 3 * rem L s + 1 ≤ n + 1) (h7 : kindS L s ≠ 7) (h8 : kindS L s ≠ 8) (h9 : kindS L s ≠ 9) :
 ((run L (n + 1) .thing s).2.e = 0 → goG (L.drop s.i) (g :: T) N = goG (L.drop (run L (n + 1) .thing s).2.i) (putG g (run L (n + 1) .thing s).1 :: T) N ∧ ∃ x k, (run L (n + 1) .thing s).1 = F.one x k ∧ x.kind ≠ 20) ∧
 ((run L (n + 1) .thing s).2.e ≠ 0 → goG (L.drop s.i) (g :: T) N = erG (run L (n + 1) .thing s).2 N) := by
 obtain ⟨tk, htk⟩ : ∃ tk, L[s.i]? = some tk := ⟨L[s.i], List.getElem?_eq_getElem hi⟩;have hkd := kind_tok he htk;rw [hkd] at h7 h8 h9;have htd : L.getD s.i zeroT = tk := by rw [List.getD_eq_getElem?_getD, htk]; rfl
 rw [run];simp only;rw [htd, drop_at htk];by_cases h10 : tk.kind = 10;case neg =>
  rw [if_pos h10];refine ⟨fun _ => ⟨go_step (by rw [step_c]; rw [if_neg h7, if_neg h9, if_neg h10, if_neg h8]), _, _, rfl, leafK_ne _⟩, fun e => absurd he e⟩
 rw [if_neg (by simpa using h10)];by_cases h40 : s.op = 40
 ·rw [if_pos h40, fail_ok he];refine ⟨fun e => absurd e (by show (11 : Int) ≠ 0; decide), fun _ => ?_⟩;rw [go_er (e := (11, (tk.at_ : Int))) (by rw [step_c]; rw [if_neg h7, if_neg h9, if_pos h10, if_pos (by omega)])];rfl
 rw [if_neg h40];rw [go_step (U := ⟨tk, .nil, .nil⟩ :: g :: T) (by rw [step_c]; rw [if_neg h7, if_neg h9, if_pos h10, if_neg (by omega)])];have hrem : rem L { s with i := s.i + 1, op := s.op + 1 } + 1 = rem L s := by rw [rem_ok he, rem_ok (s := { s with i := s.i + 1, op := s.op + 1 }) he];show L.length - (s.i + 1) + 1 = _;omega
 -- behind the look
 have key : ∀ (B : F) (q : Ps) (g1 : G), (tk.n ≠ 13 → B = .nil) → (tk.n = 13 → B.len = 1) → g1.t = tk → g1.jf = .nil → g1.kf = B → q.e = 0 → q.i ≤ L.length → q.op = s.op + 1 → rem L q ≤ rem L { s with i := s.i + 1, op := s.op + 1 } →
  ∀ r, run L n (.alt .nil) q = r →
  ((if kindS L r.2 ≠ 8 then (zeroF, failS r.2 20 (-1)) else (jf tk B r.1, zf tk r.1 { r.2 with i := r.2.i + 1, op := r.2.op - 1 })).2.e = 0 →
   goG (L.drop q.i) (g1 :: g :: T) N = goG (L.drop (if kindS L r.2 ≠ 8 then (zeroF, failS r.2 20 (-1)) else (jf tk B r.1, zf tk r.1 { r.2 with i := r.2.i + 1, op := r.2.op - 1 })).2.i) (putG g (if kindS L r.2 ≠ 8 then (zeroF, failS r.2 20 (-1)) else (jf tk B r.1, zf tk r.1 { r.2 with i := r.2.i + 1, op := r.2.op - 1 })).1 :: T) N ∧
   ∃ x k, (if kindS L r.2 ≠ 8 then (zeroF, failS r.2 20 (-1)) else (jf tk B r.1, zf tk r.1 { r.2 with i := r.2.i + 1, op := r.2.op - 1 })).1 = F.one x k ∧ x.kind ≠ 20) ∧
  ((if kindS L r.2 ≠ 8 then (zeroF, failS r.2 20 (-1)) else (jf tk B r.1, zf tk r.1 { r.2 with i := r.2.i + 1, op := r.2.op - 1 })).2.e ≠ 0 →
   goG (L.drop q.i) (g1 :: g :: T) N = erG (if kindS L r.2 ≠ 8 then (zeroF, failS r.2 20 (-1)) else (jf tk B r.1, zf tk r.1 { r.2 with i := r.2.i + 1, op := r.2.op - 1 })).2 N) := by
  intro B q g1 hB hB1 g1t g1j g1k qe qi qo qr r hr;have ha := h.al q g1 B .nil (g :: T) qe qi (by rw [List.length_cons, qo, ht]) (by omega) (by omega) (fun e => by rw [g1t] at e; rw [hB1 e]; decide) g1j (by rw [g1k, app_nil]);rw [hr] at ha;by_cases e1 : r.2.e = 0;case neg =>
   rw [if_pos (by rw [kind_err e1]; decide), fail_err e1];exact ⟨fun e => absurd e e1, fun _ => ha.2 e1⟩
  obtain ⟨g', hg1, hg2, hg3, hg4⟩ := ha.1 e1;rw [hg1];rcases hg4 with hg4 | hg4
  ·rw [if_pos (by rw [hg4]; decide), fail_ok e1, List.drop_eq_nil_of_le (kind_end hL e1 hg4)];exact ⟨fun e => absurd e (by show (20 : Int) ≠ 0; decide), fun _ => rfl⟩
  ·rw [if_neg (by rw [hg4]; decide)];obtain ⟨_, i1, t1, ht1, hk1⟩ := zW (L := L) (s := r.2) (by rw [hg4]; decide);have k8 : t1.kind = 8 := by rw [← hk1, hg4]
   rw [drop_at ht1];have hm := many_B (hg2.trans g1t) hg3 hB hB1;by_cases hmm : condT tk = true ∧ (2 < r.1.len ∨ (1 < r.1.len ∧ tk.n = 12))
   ·have hz : zf tk r.1 { r.2 with i := r.2.i + 1, op := r.2.op - 1 } = { r.2 with i := r.2.i + 1, op := r.2.op - 1, e := 32, at_ := tk.at_ } := by unfold zf;rw [if_pos hmm];exact fail_ok e1
    rw [hz];refine ⟨fun e => absurd e (by show (32 : Int) ≠ 0; decide), fun _ => ?_⟩;rw [go_er (e := (32, (g'.t.at_ : Int))) (by rw [step_c]; rw [if_neg (by omega), if_neg (by omega), if_neg (by omega), if_pos k8]; exact if_pos (hm.2 hmm))];rw [hg2, g1t];rfl
   ·have hz : zf tk r.1 { r.2 with i := r.2.i + 1, op := r.2.op - 1 } = { r.2 with i := r.2.i + 1, op := r.2.op - 1 } := by unfold zf;rw [if_neg hmm]
    rw [hz];refine ⟨fun _ => ⟨?_, groupF_one _ _ _⟩, fun e => absurd e1 e⟩;refine go_step ?_;rw [step_c];rw [if_neg (by omega), if_neg (by omega), if_neg (by omega), if_pos k8];simp only;rw [if_neg (fun q => hmm (hm.1 q)), ← group_B hB, ← hg3];unfold nodeG;rw [hg2, g1t]
 have hfu : 3 * rem L { s with i := s.i + 1, op := s.op + 1 } + 1 ≤ n := by omega
 have ho1 : s.op + 1 ≤ 40 := by omega
 by_cases h13 : tk.n = 13
 ·by_cases hk2 : kindS L { s with i := s.i + 1, op := s.op + 1 } = 10
  ·rw [if_pos (show tk.n = 13 ∧ kindS L { s with i := s.i + 1, op := s.op + 1 } = 10 from ⟨h13, hk2⟩)];obtain ⟨_, i2, t2, ht2, hkt2⟩ := zW (L := L) (s := { s with i := s.i + 1, op := s.op + 1 }) (by rw [hk2]; decide);have hq := h.th { s with i := s.i + 1, op := s.op + 1 } ⟨tk, .nil, .nil⟩ (g :: T) he i2 (by simp [ht]) ho1 hfu (by rw [hk2]; decide) (by rw [hk2]; decide) (by rw [hk2]; decide);have hv := (zq L n .thing { s with i := s.i + 1, op := s.op + 1 } (Nat.le_of_lt i2) ho1 (fun _ => ⟨he, i2⟩)).1;generalize run L n .thing { s with i := s.i + 1, op := s.op + 1 } = q at *;by_cases e1 : q.2.e = 0;case neg =>
    rw [alt_err e1, if_pos (by rw [kind_err e1]; decide), fail_err e1];exact ⟨fun e => absurd e e1, fun _ => hq.2 e1⟩
   obtain ⟨hq1, x, k, hq2, _⟩ := hq.1 e1;have hp : putG ⟨tk, .nil, .nil⟩ q.1 = ⟨tk, q.1, .nil⟩ := by unfold putG;rw [if_pos ⟨h13, rfl⟩];rfl
   rw [hq1, hp];exact key q.1 q.2 ⟨tk, q.1, .nil⟩ (fun e => absurd h13 e) (fun _ => by rw [hq2]; rfl) rfl rfl rfl e1 hv.n (hv.e e1).2 hv.r _ rfl
  ·rw [if_neg (show ¬ (tk.n = 13 ∧ kindS L { s with i := s.i + 1, op := s.op + 1 } = 10) from fun e => hk2 e.2)];have hend : L.length ≤ s.i + 1 := by apply Classical.byContradiction;intro hlt;have hu : L[s.i + 1]? = some (L[s.i + 1]'(by omega)) := List.getElem?_eq_getElem (by omega);exact hk2 ((kind_tok (s := { s with i := s.i + 1, op := s.op + 1 }) he hu).trans (hL.c _ _ _ htk hu h10 h13))
   have hk0 : kindS L { s with i := s.i + 1, op := s.op + 1 } = 0 := by unfold kindS;rw [if_neg (by simp [he])];show (match L[s.i + 1]? with | none => 0 | some t => t.kind) = 0;rw [List.getElem?_eq_none hend]
   have hr2 : (run L n (.alt .nil) { s with i := s.i + 1, op := s.op + 1 }).2 = { s with i := s.i + 1, op := s.op + 1 } := by
    cases n with
    | zero => rfl
    | succ n =>
     have hs2 : ∀ a, (run L n (.seq a) { s with i := s.i + 1, op := s.op + 1 }).2 = { s with i := s.i + 1, op := s.op + 1 } := fun a => by
      cases n with
      | zero => rfl
      | succ n => rw [run, if_pos (Or.inl hk0)]
     rw [run];simp only;rw [hs2, hk0, if_neg (by decide)]
   rw [hr2, hk0, if_pos (by decide), fail_ok (s := { s with i := s.i + 1, op := s.op + 1 }) he, List.drop_eq_nil_of_le hend];exact ⟨fun e => absurd e (by show (20 : Int) ≠ 0; decide), fun _ => rfl⟩
 ·rw [if_neg (show ¬ (tk.n = 13 ∧ kindS L { s with i := s.i + 1, op := s.op + 1 } = 10) from fun e => h13 e.1)];exact key .nil { s with i := s.i + 1, op := s.op + 1 } ⟨tk, .nil, .nil⟩ (fun _ => rfl) (fun e => absurd e h13) rfl rfl rfl he hi rfl (Nat.le_refl _) _ rfl
theorem sq_all {L : List Tk} {N : Int} (hL : TOk L) : ∀ n, Sq L N n
 | 0 => ⟨fun s g T _ _ _ _ h => by omega, fun s g T _ _ _ _ h => by omega, fun s g B a T _ _ _ _ h => by omega⟩
 | n + 1 => ⟨th_of hL (sq_all hL n), sq_of (sq_all hL n), al_of (sq_all hL n)⟩
theorem stack_eq {L : List Tk} (hL : TOk L) (N : Int) : stackP L N = parseP L N := by
 have ha := (sq_all (N := N) hL (3 * L.length + 3)).al { i := 0 } ⟨zeroT, .nil, .nil⟩ .nil .nil [] rfl (Nat.zero_le _) rfl (by decide) (by rw [rem_ok rfl]; exact Nat.le_refl _) (fun e => absurd e (by decide)) rfl rfl;unfold stackP parseP;simp only;rw [show L = L.drop 0 from rfl] at *;generalize run (L.drop 0) (3 * (L.drop 0).length + 3) (.alt .nil) { i := 0 } = r at *;simp only [List.drop_zero] at *;generalize hS : (if r.2.e = 0 ∧ r.2.i < L.length then failS r.2 31 (L.getD r.2.i zeroT).at_ else r.2) = S;by_cases e1 : r.2.e = 0;case neg =>
  have hS1 : S = r.2 := by rw [← hS, if_neg (fun q => e1 q.1)]
  rw [ha.2 e1, hS1];unfold erG;by_cases h20 : r.2.e = 20
  ·rw [if_pos h20, if_pos h20]
  ·rw [if_neg h20, if_neg h20, if_pos e1]
 obtain ⟨g', hg1, _, hg3, hg4⟩ := ha.1 e1;rw [hg1];rcases hg4 with hg4 | hg4
 ·have hle := kind_end hL e1 hg4;have hS1 : S = r.2 := by rw [← hS, if_neg (fun q => by have := q.2; omega)]
  rw [hS1, if_neg (by rw [e1]; decide), if_neg (by simp [e1]), List.drop_eq_nil_of_le hle];show Except.ok (oneF 13 (endG g').kf) = _;rw [hg3];rfl
 ·obtain ⟨_, i1, t1, ht1, hk1⟩ := zW (L := L) (s := r.2) (by rw [hg4]; decide);have k8 : t1.kind = 8 := by rw [← hk1, hg4]
  have hS1 : S = { r.2 with e := 31, at_ := t1.at_ } := by rw [← hS, if_pos ⟨e1, i1⟩, fail_ok e1, List.getD_eq_getElem?_getD, ht1];rfl
  rw [hS1, drop_at ht1];rw [go_er (e := (31, (t1.at_ : Int))) (by rw [step_c]; rw [if_neg (by omega), if_neg (by omega), if_neg (by omega), if_pos k8])];rfl
end Go.Proofs.YtnpcombfgdbhkaaDoor.psp
end
section
namespace Go.Proofs.YtnpcombfgdbhkaaDoor.trw
open sq
open Go Go.RowKit trp
theorem cell_lt {w : World} {a : Addr} {v : Value} (h : w.cell? a = some v) : a.block < w.heap.size := by
 apply Classical.byContradiction;intro hn;have : w.heap[a.block]? = none := by simp; omega
 unfold World.cell? at h;rw [this] at h;simp at h
theorem qf {w w' : World} (h : Below w.heap.size w w') {a : Addr} {v : Value} (hc : w.cell? a = some v) : w'.cell? a = some v := by rw [h.cell (cell_lt hc)]; exact hc
theorem qi {a b c : World} (h : Below a.heap.size a b) (k : Below b.heap.size b c) : Below a.heap.size a c := h.trans (k.mono h.size)
theorem qL (w : World) : Below w.heap.size w w.drew := ⟨rfl, rfl, rfl, Nat.le_refl _, fun _ _ => rfl⟩
theorem qg (w : World) (o : Obj) : Below w.heap.size w (w.alloc o) := (Below.refl _ _).alloc (Nat.le_refl _) o
def BoolB (r : Bool) (w : World) (e : Ending) (w' : World) : Prop := e = .returned (.bool r) ∧ Below w.heap.size w w'
def IntB (r : Int) (w : World) (e : Ending) (w' : World) : Prop := e = .returned (.int .i64 r) ∧ Below w.heap.size w w'
def ndC (x : Lab) : List Value := [.int .i64 x.kind, .int .i64 x.at_, .int .i64 x.c, x.sv, .bool x.neg, .int .i64 x.n, .int .i64 x.m, .int .i64 x.mode, .string x.name, .int .i64 x.on, .int .i64 x.off, x.kv]
def ndV (x : Lab) : Value := .agg #[.int .i64 x.kind, .int .i64 x.at_, .int .i64 x.c, x.sv, .bool x.neg, .int .i64 x.n, .int .i64 x.m, .int .i64 x.mode, .string x.name, .int .i64 x.on, .int .i64 x.off, x.kv]
def I64 (n : Int) : Prop := -9223372036854775808 ≤ n ∧ n ≤ 9223372036854775807
def RgAt (w : World) (v : Value) (l : List (Int × Int)) : Prop :=
 ∃ a cap, v = .slice a l.length cap ∧ l.length ≤ cap ∧ cap ≤ 9223372036854775807 ∧ (l = [] ∨ ∃ b o, a = some ⟨b, o, none⟩ ∧
  ∀ i r, l[i]? = some r → w.cell? ⟨b, o + i * 2, none⟩ = some (.int .i64 r.1) ∧ w.cell? ⟨b, o + i * 2 + 1, none⟩ = some (.int .i64 r.2) ∧ I64 r.1 ∧ I64 r.2)
def LabOk (x : Lab) : Prop := I64 x.kind ∧ I64 x.at_ ∧ I64 x.c ∧ I64 x.n ∧ I64 x.m ∧ I64 x.mode ∧ I64 x.on ∧ I64 x.off
def FAt (w : World) : Nat → Nat → F → Prop
 | _, _, .nil => True
 | b, o, .cons x k r => (∀ j v, (ndC x)[j]? = some v → w.cell? ⟨b, o + j, none⟩ = some v) ∧ (LabOk x ∧ RgAt w x.sv x.set) ∧
  (∃ a cap, x.kv = .slice a k.len cap ∧ k.len ≤ cap ∧ cap ≤ 9223372036854775807 ∧ (k.len = 0 ∨ ∃ b' o', a = some ⟨b', o', none⟩ ∧ FAt w b' o' k)) ∧ FAt w b (o + 12) r
def jr (w : World) (v : Value) (k : F) : Prop :=
 ∃ a cap, v = .slice a k.len cap ∧ k.len ≤ cap ∧ cap ≤ 9223372036854775807 ∧ (k.len = 0 ∨ ∃ b o, a = some ⟨b, o, none⟩ ∧ FAt w b o k)
def NdAt (w : World) (t : Nd) : Prop := LabOk t.1 ∧ RgAt w t.1.sv t.1.set ∧ jr w t.1.kv t.2
theorem rgAt_mono {w w' : World} (h : ∀ a v, w.cell? a = some v → w'.cell? a = some v) {v : Value} {l : List (Int × Int)} (hr : RgAt w v l) : RgAt w' v l := by
 obtain ⟨a, cap, h1, h2, h3, h4 | ⟨b, o, h4, h5⟩⟩ := hr
 ·exact ⟨a, cap, h1, h2, h3, Or.inl h4⟩
 ·exact ⟨a, cap, h1, h2, h3, Or.inr ⟨b, o, h4, fun i r hi => ⟨h _ _ (h5 i r hi).1, h _ _ (h5 i r hi).2.1, (h5 i r hi).2.2⟩⟩⟩
theorem fAt_mono {w w' : World} (h : ∀ a v, w.cell? a = some v → w'.cell? a = some v) : ∀ {f : F} {b o : Nat}, FAt w b o f → FAt w' b o f
 | .nil, _, _, _ => trivial
 | .cons x k r, b, o, ⟨h1, h2, ⟨a, cap, h3, h4, h5, h6⟩, h7⟩ => by
  refine ⟨fun j v hj => h _ _ (h1 j v hj), ⟨h2.1, rgAt_mono h h2.2⟩, ⟨a, cap, h3, h4, h5, ?_⟩, fAt_mono h h7⟩;rcases h6 with h6 | ⟨b', o', h6, h8⟩
  ·exact Or.inl h6
  ·exact Or.inr ⟨b', o', h6, fAt_mono h h8⟩
theorem jh {w w' : World} (h : ∀ a v, w.cell? a = some v → w'.cell? a = some v) {v : Value} {k : F} (hk : jr w v k) : jr w' v k := by
 obtain ⟨a, cap, h1, h2, h3, h4 | ⟨b, o, h4, h5⟩⟩ := hk
 ·exact ⟨a, cap, h1, h2, h3, Or.inl h4⟩
 ·exact ⟨a, cap, h1, h2, h3, Or.inr ⟨b, o, h4, fAt_mono h h5⟩⟩
theorem qY {w w' : World} (h : ∀ a v, w.cell? a = some v → w'.cell? a = some v) {t : Nd} (hn : NdAt w t) : NdAt w' t := ⟨hn.1, rgAt_mono h hn.2.1, jh h hn.2.2⟩
theorem below_kids {w w' : World} (h : Below w.heap.size w w') {v : Value} {k : F} (hk : jr w v k) : jr w' v k := jh (fun _ _ hc => qf h hc) hk
theorem vO {w w' : World} (h : Below w.heap.size w w') {t : Nd} (hn : NdAt w t) : NdAt w' t := qY (fun _ _ hc => qf h hc) hn
theorem fAt_head {w : World} {b o : Nat} {x : Lab} {k r : F} (h : FAt w b o (.cons x k r)) : NdAt w (x, k) := ⟨h.2.1.1, h.2.1.2, h.2.2.1⟩
theorem fAt_drop {w : World} : ∀ {f : F} {b o : Nat} (i : Nat), FAt w b o f → FAt w b (o + i * 12) (f.drop i)
 | .nil, b, o, i, h => by cases i <;> exact trivial
 | .cons x k r, b, o, 0, h => h
 | .cons x k r, b, o, i + 1, h => by have := fAt_drop (f := r) (b := b) (o := o + 12) i h.2.2.2;rwa [show o + 12 + i * 12 = o + (i + 1) * 12 by omega] at this
theorem drop_len : ∀ (f : F) (i : Nat), (f.drop i).len = f.len - i
 | .nil, 0 => rfl
 | .nil, i + 1 => by simp [F.drop, F.len]
 | .cons _ _ r, 0 => rfl
 | .cons _ _ r, i + 1 => by show (r.drop i).len = _;rw [drop_len r i];show r.len - i = r.len + 1 - (i + 1);omega
theorem drop_succ : ∀ {f : F} {i : Nat} {x : Lab} {k r : F}, f.drop i = .cons x k r → f.drop (i + 1) = r
 | .nil, 0, _, _, _, h => by cases h
 | .nil, i + 1, _, _, _, h => by cases h
 | .cons _ _ r', 0, _, _, _, h => by cases h; cases r' <;> rfl
 | .cons _ _ r', i + 1, _, _, _, h => drop_succ (f := r') (i := i) h
theorem drop_lt {f : F} {i : Nat} (h : i < f.len) : ∃ x k r, f.drop i = .cons x k r := by
 cases hf : f.drop i with
 | nil =>
  have := drop_len f i;rw [hf] at this;simp [F.len] at this;omega
 | cons x k r => exact ⟨x, k, r, rfl⟩
section
variable {P : Program}
theorem run_loadVar_at (w : World) (a : Addr) (ty : TypeId) (cs : List Value) (d : TypeDesc) (hc : ∀ j v, cs[j]? = some v → w.cell? (a.add j) = some v)
 (hu : P.underlying ty = some d) (hd : (match d with | .struct _ | .array _ _ => true | _ => false) = true) (hi : (P.info? ty).map (·.size) = some cs.length) :
 (loadVar ty a).run P w = .ok (.agg cs.toArray) w := by
 have hl : (loadCells a cs.length).run P w = .ok cs.toArray w := run_loadCells_list (P := P) w a cs hc;cases hq : P.info? ty with
 | none => simp [hq] at hi
 | some i =>
  have hs : i.size = cs.length := by simpa [hq] using hi
  have hagg : (isAgg ty).run P w = .ok true w := by unfold isAgg;rw [Sem.run_bind, run_underlying hu w];cases d <;> simp_all
  simp [loadVar, Sem.run_bind, hagg, sizeOf, typeInfo, hq, hs, hl]
theorem wpList_load_at {ops : Array Oper} {rest : List Oper} {o : Oper} {a : Act} {w : World} {Q : Exit → Act → World → Prop} (hgd : o.guard = none) (ty : TypeId) (x : Operand) (ho : o.op = .load ty x)
 (ad : Addr) (hx : a.eval x = .pointer (some ad)) (cs : List Value) (d : TypeDesc) (hc : ∀ j v, cs[j]? = some v → w.cell? (ad.add j) = some v)
 (hu : P.underlying ty = some d) (hd : (match d with | .struct _ | .array _ _ => true | _ => false) = true) (hi : (P.info? ty).map (·.size) = some cs.length)
 (h : wpList P ops Q rest (a.put o.dst (.agg cs.toArray)) w) : wpList P ops Q (o :: rest) a w :=
 wpList_plain hgd fun K hK => by unfold Oper.wp execOp;simp only [ho, hx, Instr.loadAt, Instr.sureAddr, Sem.run_bind, Sem.run_pure, Result.andThen_ok, run_loadVar_at w ad ty cs d hc hu hd hi];exact hK _ _ h
end
theorem ndInfo : (Tryd.prog.info? 31).map (·.size) = some 12 := by kernel_rfl
theorem add_plain (b o j : Nat) : (⟨b, o, none⟩ : Addr).add j = ⟨b, o + j, none⟩ := by unfold Addr.add; split <;> simp_all
theorem jv {ops : Array Oper} {rest : List Oper} {o : Oper} {a : Act} {w : World} {Q : Exit → Act → World → Prop} (hgd : o.guard = none) (x : Operand) (ho : o.op = .load 31 x)
 (b off : Nat) (hx : a.eval x = .pointer (some ⟨b, off, none⟩)) (l : Lab) (hc : ∀ j v, (ndC l)[j]? = some v → w.cell? ⟨b, off + j, none⟩ = some v)
 (h : wpList Tryd.prog ops Q rest (a.put o.dst (ndV l)) w) : wpList Tryd.prog ops Q (o :: rest) a w :=
 wpList_load_at hgd 31 x ho ⟨b, off, none⟩ hx (ndC l) _ (fun j v hj => by rw [add_plain]; exact hc j v hj) Tryd.underlying31 rfl (by rw [ndInfo]; rfl) h
theorem run_load_nd (w : World) (b off : Nat) (l : Lab) (hc : ∀ j v, (ndC l)[j]? = some v → w.cell? ⟨b, off + j, none⟩ = some v) : (loadVar 31 ⟨b, off, none⟩).run Tryd.prog w = .ok (ndV l) w :=
 run_loadVar_at w ⟨b, off, none⟩ 31 (ndC l) _ (fun j v hj => by rw [add_plain]; exact hc j v hj) Tryd.underlying31 rfl (by rw [ndInfo]; rfl)
end Go.Proofs.YtnpcombfgdbhkaaDoor.trw
end
section
namespace Go.Proofs.YtnpcombfgdbhkaaDoor.trw
open sq
open Go Go.RowKit trp
theorem kids_len {w : World} {v : Value} {k : F} (h : jr w v k) : ∃ a cap, v = .slice a k.len cap := by obtain ⟨a, cap, h, _⟩ := h;exact ⟨a, cap, h⟩
theorem size_lt {f : F} {i : Nat} {x : Lab} {k r : F} (h : f.drop i = .cons x k r) : k.size < f.size := by
 induction f generalizing i with
 | nil => cases i <;> cases h
 | cons y k' r' _ ih =>
  cases i with
  | zero => cases h; simp only [F.size]; omega
  | succ i =>
   have := ih (i := i) h;simp only [F.size];omega
theorem drop_zero (f : F) : f.drop 0 = f := by cases f <;> rfl
theorem drop_end {f : F} {i : Nat} (h : f.len ≤ i) : f.drop i = .nil := by
 cases hf : f.drop i with
 | nil => rfl
 | cons x k r =>
  have := drop_len f i;rw [hf] at this;simp only [F.len] at this;omega
theorem kid_at {w : World} {v : Value} {f : F} (h : jr w v f) {i : Nat} {x : Lab} {k r : F} (hd : f.drop i = .cons x k r) : ∃ b o cap, v = .slice (some ⟨b, o, none⟩) f.len cap ∧ f.len ≤ cap ∧ cap ≤ 9223372036854775807 ∧ i < f.len ∧ FAt w b (o + i * 12) (.cons x k r) := by
 have hl := drop_len f i;rw [hd] at hl;simp only [F.len] at hl;obtain ⟨a, cap, h1, h2, h3, h4 | ⟨b, o, rfl, h5⟩⟩ := h
 ·omega
 ·have := fAt_drop i h5;rw [hd] at this;exact ⟨b, o, cap, h1, h2, h3, by omega, this⟩
theorem add_row (b o i s : Nat) : (⟨b, o, none⟩ : Addr).add (i * s) = ⟨b, o + i * s, none⟩ := by unfold Addr.add; split <;> simp_all
end Go.Proofs.YtnpcombfgdbhkaaDoor.trw
end
section
namespace Go.Proofs.YtnpcombfgdbhkaaDoor.trw
open sq
open Go Go.RowKit trp
structure Fr where
 kv : Value
 f : F
 i : Nat
structure Lk (S : Type) where
 P : List (Nd × List Nat)
 g : Nat
 lb : Array Value
 ans : Nat → Bool
 Inv : Nat → S → World → Prop
 Own : S → Nat → Prop
end Go.Proofs.YtnpcombfgdbhkaaDoor.trw
end
section
namespace Go.Proofs.YtnpcombfgdbhkaaDoor.trw
open sq
open Go Go.RowKit trp
theorem jJ {w w' : World} {base : Nat} {e : TypeId} {size : Nat} {v : Value} {n : Nat} {xs : List Value} (h : w.ownsRow base e size v n xs) (hb : ∀ k, v.ownBlock = some k → w'.heap[k]? = w.heap[k]?) : w'.ownsRow base e size v n xs := by
 obtain ⟨h1, h2 | ⟨g, cap, cur, hv, hg, hh, r⟩⟩ := h
 ·exact ⟨h1, Or.inl h2⟩
 ·exact ⟨h1, Or.inr ⟨g, cap, cur, hv, hg, (hb g (by rw [hv]; rfl)).trans hh, r⟩⟩
section
variable {S : Type} {w0 w wr : World} {L : Lk S} {s0 s : S} {N1 j : Nat} {fs lo : List Fr} {X : Fr} {rv av : Value}
end
end Go.Proofs.YtnpcombfgdbhkaaDoor.trw
end
section
namespace Go.Proofs.YtnpcombfgdbhkaaDoor.trw
open sq
open Go.Sort Go Go.RowKit trp
theorem jT {o : Oper} {ρ : Operand → Value} {x : Operand} (ho : o.op = .load 31 x) {b off : Nat} (hx : ρ x = .pointer (some ⟨b, off, none⟩)) {w : World} {l : Lab} (hc : ∀ j v, (ndC l)[j]? = some v → w.cell? ⟨b, off + j, none⟩ = some v) :
 (execOp ρ o).run Tryd.prog w = .ok (.value (ndV l)) w := by
 unfold execOp;simp only [ho, hx, Instr.loadAt, Instr.sureAddr, Sem.run_bind, Sem.run_pure, Result.andThen_ok, run_load_nd w b off l hc]
theorem sizeNd (w : World) : (sizeOf 31).run Tryd.prog w = .ok 12 w := by kernel_rfl
theorem run_store_nd (w : World) (g : Nat) (old cs : Array Value) (hg : w.heap[g]? = some (.cells old 31 (0, 0))) (hs : old.size = 12) (hc : cs.size = 12) (h1 : ∀ u ∈ cs.toList, u.oneCell' = true) :
 (storeVar 31 ⟨g, 0, none⟩ (.agg cs)).run Tryd.prog w = .ok () (w.setRow g cs) := by
 have h := run_storeCells_at (P := Tryd.prog) g 0 31 cs.toList 0 old w hg (by simp; omega) h1;have e : (old.toList.take (0 + 0) ++ cs.toList ++ old.toList.drop (0 + 0 + cs.toList.length)).toArray = cs := by have h2 : old.toList.drop (0 + 0 + cs.toList.length) = [] := List.drop_eq_nil_of_le (by simp; omega);rw [h2];simp
 rw [e] at h;unfold storeVar;simp [Sem.run_bind, Value.cells, hc, Result.andThen, h]
end Go.Proofs.YtnpcombfgdbhkaaDoor.trw
end
section
namespace Go.Proofs.YtnpcombfgdbhkaaDoor.trw
open sq
open Go Go.RowKit trp
theorem heap_set {w : World} {L o : Nat} {C : Array Value} {T : TypeId} {fz : Nat × Nat} {v : Value} (h : w.heap[L]? = some (.cells C T fz)) : (w.setCell ⟨L, o, none⟩ v).heap[L]? = some (.cells (C.setIfInBounds o v) T fz) := by simp [World.setCell, Array.getElem?_modify, h]
end Go.Proofs.YtnpcombfgdbhkaaDoor.trw
end
section
namespace Go.Proofs.YtnpcombfgdbhkaaDoor.trw
open sq
open Go Go.RowKit trp
theorem cells12 {w : World} {B : Nat} {x : Lab} {t : TypeId} (h : w.heap[B]? = some (.cells (ndC x).toArray t)) : ∀ (j : Nat) v, (ndC x)[j]? = some v → w.cell? ⟨B, j, none⟩ = some v := fun j v hj => by
 rw [cell_of_row _ _ _ _ _ _ h];simpa using hj
end Go.Proofs.YtnpcombfgdbhkaaDoor.trw
end
section
namespace Go.Proofs.YtnpcombfgdbhkaaDoor.trw
open sq
open Go.Sort Go Go.RowKit trp
theorem zJ {w : World} {base : Nat} {e : TypeId} {size : Nat} {v : Value} {n : Nat} {xs : List Value} (h : w.ownsRow base e size v n xs) : ∃ a c, v = .slice a n c := by
 rcases h.2 with ⟨rfl, rfl⟩ | ⟨g, cap, _, rfl, _⟩
 ·exact ⟨none, 0, rfl⟩
 ·exact ⟨_, cap, rfl⟩
end Go.Proofs.YtnpcombfgdbhkaaDoor.trw
end
section
namespace Go.Proofs.YtnpcombfgdbhkaaDoor.trw
open sq
open Go.Sort Go Go.RowKit trp
def zC : List Value := [.int .i64 0, .int .i64 0, .int .i64 0, .slice none 0 0, .bool false, .int .i64 0, .int .i64 0, .int .i64 0, .string ⟨#[]⟩, .int .i64 0, .int .i64 0, .slice none 0 0]
theorem infoNd : (Tryd.prog.info? 31).map (fun i => (i.zero, i.size, i.bytes)) = some (some (.agg #[.int .i64 0, .int .i64 0, .int .i64 0, .slice none 0 0, .bool false, .int .i64 0, .int .i64 0, .int .i64 0, .string ⟨#[]⟩, .int .i64 0, .int .i64 0, .slice none 0 0]), 12, 136) := by kernel_rfl
theorem held_store_row {o : Oper} {a : Act} {W : World} {K : Act → World → Prop} {Q : Exit → Act → World → Prop} {ys : Nat → Option Bool} (hgd : o.guard = none) (hd : o.dst = none) (x y : Operand) (ho : o.op = .store 31 x y) {base g n cap : Nat} {xs zs : List Value}
 (hx : a.eval x = .pointer (some ⟨g, n * 12, none⟩)) (l : Lab) (h1 : ∀ u ∈ ndC l, u.oneCell' = true) (hy : a.eval y = ndV l) (hown : W.ownsRow base 31 12 (.slice (some ⟨g, 0, none⟩) (n + 1) cap) (n + 1) (xs ++ zs)) (hxl : xs.length = n * 12)
 (h : ∀ W2, W2.ownsRow base 31 12 (.slice (some ⟨g, 0, none⟩) (n + 1) cap) (n + 1) (xs ++ ndC l) → W.grownBy W2 (some g) → K a W2) :
 if Region.wanted o ys = true then Oper.wp Tryd.prog o a W K Q else K (a.put o.dst undef) W := by
 rw [if_pos (by unfold Region.wanted; rw [hgd])];obtain ⟨hlen, ⟨hv, _⟩ | ⟨g', cap', cur, hv, hb, hg, hc, hm, hs, ht⟩⟩ := hown
 ·cases hv
 simp only [Value.slice.injEq, Option.some.injEq, Addr.mk.injEq, and_true, true_and] at hv;obtain ⟨rfl, rfl⟩ := hv;have hsz : n * 12 + 12 ≤ cur.size := by rw [hs]; omega
 have hrun := run_storeCells_at (P := Tryd.prog) g (n * 12) 31 (ndC l) 0 cur W hg (by show n * 12 + 0 + 12 ≤ _; omega) h1;have h12 : (ndC l).length = 12 := rfl;have htk : cur.toList.take (n * 12) = xs := by have e1 := congrArg (List.take (n * 12)) ht;rw [List.take_take, Nat.min_eq_left (by omega)] at e1;exact e1.trans (by rw [← hxl, List.take_left])
 rw [Nat.add_zero, h12, htk] at hrun;have hcl : cur.toList.length = cap * 12 := by rw [Array.length_toList]; exact hs
 obtain ⟨cs, hcs, hcz, hct⟩ : ∃ cs, (xs ++ ndC l ++ cur.toList.drop (n * 12 + 12)).toArray = cs ∧ cs.size = cap * 12 ∧ cs.toList.take ((n + 1) * 12) = xs ++ ndC l := by
  refine ⟨_, rfl, ?_, ?_⟩
  ·simp only [List.size_toArray, List.length_append, List.length_drop, hxl, h12, hcl];omega
  ·have hl2 : (xs ++ ndC l).length = (n + 1) * 12 := by simp only [List.length_append, hxl, h12];omega
   show ((xs ++ ndC l) ++ _).take _ = _;rw [← hl2, List.take_left]
 rw [hcs] at hrun;have hy' : a.eval y = .agg (ndC l).toArray := hy;have hr : (storeVar 31 ⟨g, n * 12, none⟩ (.agg (ndC l).toArray)).run Tryd.prog W = .ok () (W.setRow g cs) := by unfold storeVar;simp [Sem.run_bind, Value.cells, Result.andThen, hrun, h12]
 unfold Oper.wp execOp;simp only [ho, hx, hy', Instr.storeAt, Instr.sureAddr, Sem.run_bind, Sem.run_pure, Result.andThen_ok, hr];have hl3 : (xs ++ ndC l).length = (n + 1) * 12 := by simp only [List.length_append, hxl, h12];omega
 have := h (W.setRow g cs) ⟨hl3, Or.inr ⟨g, cap, cs, rfl, hb, setRow_heap W g cur _ _ _ hg, hc, hm, hcz, hct⟩⟩ ⟨rfl, rfl, rfl, by simp [World.setRow], fun k _ hk => setRow_other W g k _ (fun e => hk (by rw [e]))⟩;simpa [Oper.upon, hd, Act.put] using this
theorem wpList_box_nd {ops : Array Oper} {rest : List Oper} {o : Oper} {a : Act} {w : World} {Q : Exit → Act → World → Prop} (hgd : o.guard = none) (x : Operand) (ho : o.op = .box 31 x) (l : Lab) (hx : a.eval x = ndV l)
 (h : wpList Tryd.prog ops Q rest (a.put o.dst (.pointer (some ⟨w.heap.size, 0, none⟩))) (w.alloc (.cells (ndC l).toArray 31))) : wpList Tryd.prog ops Q (o :: rest) a w :=
 wpList_plain hgd fun K hK => by have hx' : a.eval x = .agg (ndC l).toArray := hx;unfold Oper.wp execOp;simp only [ho, hx', Instr.box, newVar, newRow, newObj, Value.cells, Sem.run_bind, Sem.run_pure];exact hK _ _ h
end Go.Proofs.YtnpcombfgdbhkaaDoor.trw
end
section
namespace Go.Proofs.YtnpcombfgdbhkaaDoor.rpw
open sq
open Go.Sort Go Go.RowKit Go.Maps tkp trp trw rpp
open tkw (qO Kept Kept.refl Kept.trans Kept.mono Kept.then Kept.of_below Kept.below Kept.grown Kept.setCell)
def psC (v : Value) (s : Ps) : Array Value := #[v, .int .i64 s.i, .int .i64 s.op, .int .i64 s.e, .int .i64 s.at_]
def PsAt (w : World) (P : Nat) (v : Value) (s : Ps) : Prop := w.heap[P]? = some (.cells (psC v s) 70 (0, 0))
def TkIn (w : World) (v : Value) (L : List Tk) : Prop := ∃ a cap, v = .slice a L.length cap ∧ L.length ≤ cap ∧ cap ≤ 9223372036854775807 ∧ L.length ≤ 100000 ∧
 (L = [] ∨ ∃ g o, a = some ⟨g, o, none⟩ ∧ ∀ i t, L[i]? = some t → ∃ sv, RgAt w sv t.set ∧ ∀ j u, (qO sv t)[j]? = some u → w.cell? ⟨g, o + i * 12 + j, none⟩ = some u)
theorem tkIn_mono {w w' : World} (h : ∀ a v, w.cell? a = some v → w'.cell? a = some v) {v : Value} {L : List Tk} (hl : TkIn w v L) : TkIn w' v L := by
 obtain ⟨a, cap, h1, h2, h3, h4, h5 | ⟨g, o, h5, h6⟩⟩ := hl
 ·exact ⟨a, cap, h1, h2, h3, h4, Or.inl h5⟩
 ·refine ⟨a, cap, h1, h2, h3, h4, Or.inr ⟨g, o, h5, fun i t ht => ?_⟩⟩;obtain ⟨sv, hs, hc⟩ := h6 i t ht;exact ⟨sv, rgAt_mono h hs, fun j u hj => h _ _ (hc j u hj)⟩
theorem jE {P : Nat} {w w' : World} {v : Value} {s : Ps} (hp : PsAt w P v s) (hb : Below w.heap.size w w') : PsAt w' P v s := by
 unfold PsAt at *;rw [hb.block P (by
  apply Classical.byContradiction;intro hn;rw [Array.getElem?_eq_none (by omega)] at hp;cases hp)]
 exact hp
theorem ps_lt {P : Nat} {w : World} {v : Value} {s : Ps} (hp : PsAt w P v s) : P < w.heap.size := by apply Classical.byContradiction;intro hn;unfold PsAt at hp;rw [Array.getElem?_eq_none (by omega)] at hp;cases hp
structure PC (w : World) (P : Nat) (v : Value) (s : Ps) : Prop where
 c0 : w.cell? ⟨P, 0, none⟩ = some v
 c1 : w.cell? ⟨P, 1, none⟩ = some (.int .i64 s.i)
 c2 : w.cell? ⟨P, 2, none⟩ = some (.int .i64 s.op)
 c3 : w.cell? ⟨P, 3, none⟩ = some (.int .i64 s.e)
 c4 : w.cell? ⟨P, 4, none⟩ = some (.int .i64 s.at_)
 f1 : w.frozen? ⟨P, 1, none⟩ = false
 f2 : w.frozen? ⟨P, 2, none⟩ = false
 f3 : w.frozen? ⟨P, 3, none⟩ = false
 f4 : w.frozen? ⟨P, 4, none⟩ = false
theorem ps_c {P : Nat} {w : World} {v : Value} {s : Ps} (hp : PsAt w P v s) : PC w P v s := by unfold PsAt psC at hp;refine ⟨?_, ?_, ?_, ?_, ?_, ?_, ?_, ?_, ?_⟩ <;> simp [World.cell?, World.frozen?, hp]
theorem kind_any (P : Nat) (v : Value) (L : List Tk) (s : Ps) (w : World) (hp : PsAt w P v s) (hl : TkIn w v L) : Calls Tryd.prog 47 #[.pointer (some ⟨P, 0, none⟩)] w (IntB (kindS L s) w) := by
 obtain ⟨a, cap, rfl, hc1, hc2, hc3, hT⟩ := hl;obtain ⟨c0, c1, _, c3, _⟩ := ps_c hp;obtain ⟨i, op, e, at_⟩ := s;simp only at c1 c3;clear hp;by_cases h1 : L.length ≤ i
 ·have hR : kindS L ⟨i, op, e, at_⟩ = 0 := by
   unfold kindS;split
   ·rfl
   ·rw [List.getElem?_eq_none h1]
  rw [hR];have hli : (L.length : Int) ≤ (i : Int) := by omega
  clear hT h1 hR;go_enter Tryd.func47, Tryd.ntmps47;go_wp2_with fail
  go_quiet (fail)
  rename_i nq;go_wp2_with fail
  go_ret
  exact ⟨rfl, tkw.zI (Below.refl _ _) nq⟩
 have hli : ¬ (L.length : Int) ≤ (i : Int) := by omega
 have hln : decide (L.length ≤ i) = false := by simpa using h1
 by_cases h2 : e = 0
 ·subst h2;rcases hT with h0 | ⟨g, o, rfl, hT⟩
  ·subst h0; simp at h1
  obtain ⟨t, ht⟩ : ∃ t, L[i]? = some t := ⟨L[i]'(by omega), List.getElem?_eq_getElem (by omega)⟩;obtain ⟨sv, _, hcs⟩ := hT i t ht;have ck : w.cell? ⟨g, o + i * 12, none⟩ = some (.int .i64 t.kind) := hcs 0 _ rfl;have hR : kindS L ⟨i, op, 0, at_⟩ = t.kind := by unfold kindS; simp [ht]
  rw [hR];have hlt : i < L.length := by omega
  clear hcs hT ht hR h1;go_enter Tryd.func47, Tryd.ntmps47;go_wp2_with fail
  go_quiet (fail)
  rename_i nq;have hbq := tkw.zI (Below.refl w.heap.size w) nq;have d0 := trw.qf hbq c0;have d1 := trw.qf hbq c1;have dk := trw.qf hbq ck;have HB := xH hbq;generalize w.drewN nq = w1 at *;clear c0 c1 c3 ck hbq;go_wp2_with fail
  go_quiet (fail)
  go_wp2_with fail
  go_ret
  exact ⟨rfl, tkw.zI HB.out _⟩
 ·have hR : kindS L ⟨i, op, e, at_⟩ = 0 := by unfold kindS; rw [if_pos h2]
  rw [hR];have he : (e != 0) = true := by simpa using h2
  have he2 : decide (e = 0) = false := by simpa using h2
  have he3 : (e == 0) = false := by simpa using h2
  clear hT h1 hR;go_enter Tryd.func47, Tryd.ntmps47;go_wp2_with fail
  go_quiet (fail)
  rename_i nq;go_wp2_with fail
  go_ret
  exact ⟨rfl, tkw.zI (Below.refl _ _) nq⟩
def PsB (P : Nat) (v : Value) (s : Ps) (r : Value) (w : World) (e : Ending) (w' : World) : Prop := e = .returned r ∧ PsAt w' P v s ∧ Kept w.heap.size P w w'
theorem ps_set {P : Nat} {w : World} {v : Value} {s : Ps} (hp : PsAt w P v s) (o : Nat) (u : Value) {s' : Ps} (h : (psC v s).setIfInBounds o u = psC v s') : PsAt (w.setCell ⟨P, o, none⟩ u) P v s' := by unfold PsAt at *;have := tkw.heap_set (o := o) (v := u) hp;rw [h] at this;exact this
theorem fail_any (P : Nat) (v : Value) (s : Ps) (er at_ : Int) (w : World) (hp : PsAt w P v s) : Calls Tryd.prog 26 #[.pointer (some ⟨P, 0, none⟩), .int .i64 er, .int .i64 at_] w (PsB P v (failS s er at_) (.tuple #[]) w) := by
 have HP := xH hp;obtain ⟨c0, c1, c2, c3, c4, f1, f2, f3, f4⟩ := ps_c hp;clear hp;by_cases h : s.e = 0
 ·have b : (s.e == 0) = true := by simp [h]
  have h3 := ps_set HP.out 3 (.int .i64 er) (s' := { s with e := er }) rfl;have HR := xH (show PsAt ((w.setCell ⟨P, 3, none⟩ (.int .i64 er)).setCell ⟨P, 4, none⟩ (.int .i64 at_)) P v (failS s er at_) from by unfold failS; rw [if_pos h]; exact ps_set h3 4 (.int .i64 at_) rfl);obtain ⟨_, _, _, _, e4, _, _, _, g4⟩ := ps_c h3;clear h3 HP;go_enter Tryd.func26, Tryd.ntmps26;go_wp2_with fail
  go_end0
  exact ⟨rfl, HR.out, ((Kept.refl _ _ _).setCell 3 _).setCell 4 _⟩
 ·have b : (s.e == 0) = false := by simp [h]
  have HR := xH (show PsAt w P v (failS s er at_) from by unfold failS; rw [if_neg h]; exact HP.out);clear HP;go_enter Tryd.func26, Tryd.ntmps26;go_wp2_with fail
  go_end0
  exact ⟨rfl, HR.out, Kept.refl _ _ _⟩
theorem run_store_nd (w : World) (g : Nat) (old : Array Value) (x : Lab) (hg : w.heap[g]? = some (.cells old 31 (0, 0))) (hs : old.size = 12) (h1 : ∀ u ∈ ndC x, u.oneCell' = true) :
 (storeVar 31 ⟨g, 0, none⟩ (ndV x)).run Tryd.prog w = .ok () (w.setRow g (ndC x).toArray) := by
 have h := run_storeCells_at (P := Tryd.prog) g 0 31 (ndC x) 0 old w hg (by simp [ndC]; omega) h1;have e : (old.toList.take (0 + 0) ++ ndC x ++ old.toList.drop (0 + 0 + (ndC x).length)).toArray = (ndC x).toArray := by have h2 : old.toList.drop (0 + 0 + (ndC x).length) = [] := List.drop_eq_nil_of_le (by simp [ndC]; omega);rw [h2];simp
 rw [e] at h;have hz : (sizeOf 31).run Tryd.prog w = .ok 12 w := by kernel_rfl
 unfold storeVar ndV;unfold ndC at h;simp [Sem.run_bind, hz, Value.cells, Result.andThen, h];rfl
theorem qh {ops : Array Oper} {rest : List Oper} {o : Oper} {a : Act} {w : World} {Q : Exit → Act → World → Prop} (hgd : o.guard = none) (hd : o.dst = none) (x y : Operand) (ho : o.op = .store 31 x y)
 (g : Nat) (hx : a.eval x = .pointer (some ⟨g, 0, none⟩)) (old : Array Value) (l : Lab) (hg : w.heap[g]? = some (.cells old 31 (0, 0))) (hs : old.size = 12) (h1 : ∀ u ∈ ndC l, u.oneCell' = true) (hy : a.eval y = ndV l)
 (h : wpList Tryd.prog ops Q rest a (w.setRow g (ndC l).toArray)) : wpList Tryd.prog ops Q (o :: rest) a w :=
 wpList_plain hgd fun K hK => by unfold Oper.wp execOp;simp only [ho, hx, hy, Instr.storeAt, Instr.sureAddr, Sem.run_bind, Sem.run_pure, Result.andThen_ok, run_store_nd w g old l hg hs h1];have := hK _ _ h;simpa [Oper.upon, hd, Act.put] using this
theorem qA {fn : Func} {p : Tmp} (h : fn.results = #[.cell p 31]) (tmps : Array Value) (w : World) (g : Nat) (l : Lab) (hp : tmps.getD p undef = .pointer (some ⟨g, 0, none⟩)) (hg : w.heap[g]? = some (.cells (ndC l).toArray 31 (0, 0))) :
 (results fn tmps).run Tryd.prog w = .ok (ndV l) w := by
 exact results_cell_row h tmps w g 31 (ndC l).toArray (0, 0) _ hp hg Tryd.underlying31 rfl (by rw [ndInfo]; rfl)
theorem qp {w : World} {t : Nd} (h : NdAt w t) : ∀ u ∈ ndC t.1, u.oneCell' = true := by obtain ⟨_, ⟨a1, q1, e1, _⟩, ⟨a2, q2, e2, _⟩⟩ := h;intro u hu;simp only [ndC, e1, e2, List.mem_cons, List.not_mem_nil, or_false] at hu;rcases hu with rfl | rfl | rfl | rfl | rfl | rfl | rfl | rfl | rfl | rfl | rfl | rfl <;> rfl
def oneR (kind : Int) (v : Value) : F → Nd
 | .cons x k .nil => (x, k)
 | l => ({ lab kind 0 with kv := v }, l)
theorem jV (kind : Int) (v : Value) : ∀ f : F, strip (F.one (oneR kind v f).1 (oneR kind v f).2) = oneF kind (strip f)
 | .nil => rfl
 | .cons _ _ .nil => rfl
 | .cons _ _ (.cons _ _ _) => rfl
theorem rg_nil (w : World) : RgAt w nil3 [] := ⟨none, 0, rfl, by simp, by decide, Or.inl rfl⟩
theorem lab_ok (kind : Int) (h : I64 kind) (v : Value) : LabOk { lab kind 0 with kv := v } := by
 have z : I64 0 := by unfold I64; omega
 exact ⟨h, z, z, z, z, z, z, z⟩
theorem zk {w : World} {v : Value} {f : F} (kind : Int) (hk : I64 kind) (h : jr w v f) : NdAt w (oneR kind v f) := by
 have key : NdAt w ({ lab kind 0 with kv := v }, f) := ⟨lab_ok kind hk v, rg_nil w, h⟩
 match f, h with
 | .nil, h => exact key
 | .cons _ _ (.cons _ _ _), h => exact key
 | .cons x k .nil, h =>
  obtain ⟨a, cap, h1, h2, h3, h4 | ⟨b, o, h4, h5⟩⟩ := h
  ·simp [F.len] at h4
  ·exact fAt_head h5
theorem jU (w : World) (c cs : Array Value) (t : TypeId) : Below w.heap.size w ((w.alloc (.cells c t)).setRow w.heap.size cs) :=
 (qg w _).trans ⟨rfl, rfl, rfl, by rw [tkw.setRow_size]; exact Nat.le_refl _, fun k hk => tkw.setRow_other _ _ k cs (by omega)⟩
theorem one_any (kind : Int) (hki : I64 kind) (v : Value) (f : F) (w : World) (hk : jr w v f) : Calls Tryd.prog 27 #[.int .i64 kind, v] w (fun e w' => e = .returned (ndV (oneR kind v f).1) ∧ Below w.heap.size w w') := by
 have H1 := xH (qp (zk kind hki hk));obtain ⟨a, cap, rfl⟩ := kids_len hk;have HK := xH hk;have hg := heap_alloc_new w (.cells zC.toArray 31);have HG := xH hg;clear hk hg;unfold zC at HG;by_cases h1 : f.len = 1
 ·obtain ⟨x, k, rfl⟩ : ∃ x k, f = .cons x k .nil := by
   match f, h1 with
   | .nil, h => simp [F.len] at h
   | .cons x k .nil, _ => exact ⟨x, k, rfl⟩
   | .cons _ _ (.cons _ _ _), h => simp [F.len] at h
  obtain ⟨b, o, q, hv, _, _, _, hf⟩ := kid_at HK.out (i := 0) rfl;cases hv;have hcs := hf.1;have hbl := qg w (.cells zC.toArray 31);have HC := xH (fun j u hj => trw.qf hbl (hcs j u hj));simp only [zC] at HC;clear hf hcs hbl HK h1;go_enter Tryd.func27, Tryd.ntmps27;go_wp2_with (first
   | (refine jv rfl _ rfl b (o + 0 * 12) rfl x HC.out ?_)
   | (refine qh rfl rfl _ _ rfl w.heap.size rfl _ x HG.out rfl H1.out rfl ?_))
  refine bodyPost_ret (qA rfl _ _ w.heap.size x rfl (setRow_heap _ _ _ _ _ _ HG.out)) rfl ?_;exact ⟨rfl, jU _ _ _ _⟩
 ·have h1i : ¬ (f.len : Int) = 1 := by omega
  have hR : oneR kind (.slice a f.len cap) f = ({ lab kind 0 with kv := .slice a f.len cap }, f) := by
   match f, h1 with
   | .nil, _ => rfl
   | .cons x k .nil, h => exact absurd rfl h
   | .cons _ _ (.cons _ _ _), _ => rfl
  rw [hR] at H1 ⊢;generalize f.len = n at *;clear HK hR;go_enter Tryd.func27, Tryd.ntmps27;go_wp2_with (refine qh rfl rfl _ _ rfl w.heap.size rfl _ { lab kind 0 with kv := .slice a n cap } HG.out rfl H1.out rfl ?_)
  refine bodyPost_ret (qA rfl _ _ w.heap.size { lab kind 0 with kv := .slice a n cap } rfl (setRow_heap _ _ _ _ _ _ HG.out)) rfl ?_;exact ⟨rfl, jU _ _ _ _⟩
theorem rrep_any (x : Lab) (w : World) : Calls Tryd.prog 74 #[ndV x] w (BoolB (repK x.kind) w) := by
 obtain ⟨xk, xa, xc, xs, xset, xneg, xn, xm, xmode, xname, xon, xoff, xkv⟩ := x;unfold ndV;simp only;have hbl := qg w (.cells #[.int .i64 xk, .int .i64 xa, .int .i64 xc, xs, .bool xneg, .int .i64 xn, .int .i64 xm, .int .i64 xmode, .string xname, .int .i64 xon, .int .i64 xoff, xkv] 31);have hgn := heap_alloc_new w (.cells #[.int .i64 xk, .int .i64 xa, .int .i64 xc, xs, .bool xneg, .int .i64 xn, .int .i64 xm, .int .i64 xmode, .string xname, .int .i64 xon, .int .i64 xoff, xkv] 31);have c0 : (w.alloc (.cells #[.int .i64 xk, .int .i64 xa, .int .i64 xc, xs, .bool xneg, .int .i64 xn, .int .i64 xm, .int .i64 xmode, .string xname, .int .i64 xon, .int .i64 xoff, xkv] 31)).cell? ⟨w.heap.size, 0, none⟩ = some (.int .i64 xk) := by unfold World.cell?; rw [hgn]; rfl
 have HB := xH hbl;clear hbl hgn;by_cases h4 : xk = 4
 ·have hR : repK xk = false := by simp [repK, h4]
  have b4 : (xk != 4) = false := by simp [h4]
  rw [hR];clear hR h4;go_enter Tryd.func74, Tryd.ntmps74;go_wp2_with fail
  go_ret
  exact ⟨rfl, HB.out⟩
 have b4 : (xk != 4) = true := by simp [h4]
 by_cases h5 : xk = 5
 ·have hR : repK xk = false := by simp [repK, h5]
  have b5 : (xk != 5) = false := by simp [h5]
  rw [hR];clear hR h4 h5;go_enter Tryd.func74, Tryd.ntmps74;go_wp2_with fail
  go_ret
  exact ⟨rfl, HB.out⟩
 have b5 : (xk != 5) = true := by simp [h5]
 by_cases h9 : xk = 9
 ·have hR : repK xk = false := by simp [repK, h9]
  have b9 : (xk != 9) = false := by simp [h9]
  rw [hR];clear hR h4 h5 h9;go_enter Tryd.func74, Tryd.ntmps74;go_wp2_with fail
  go_ret
  exact ⟨rfl, HB.out⟩
 have b9 : (xk != 9) = true := by simp [h9]
 by_cases h10 : xk = 10
 ·have hR : repK xk = false := by simp [repK, h10]
  have b10 : (xk != 10) = false := by simp [h10]
  rw [hR];clear hR h4 h5 h9 h10;go_enter Tryd.func74, Tryd.ntmps74;go_wp2_with fail
  go_ret
  exact ⟨rfl, HB.out⟩
 have b10 : (xk != 10) = true := by simp [h10]
 have hR : repK xk = (xk != 11) := by
  by_cases h11 : xk = 11
  ·simp [repK, h11]
  ·simp [repK, h4, h5, h9, h10, h11]
 rw [hR];clear hR h4 h5 h9 h10;go_enter Tryd.func74, Tryd.ntmps74;go_wp2_with fail
 go_ret
 exact ⟨rfl, HB.out⟩
end Go.Proofs.YtnpcombfgdbhkaaDoor.rpw
end
