/- T -/
import Derived.StillTailTactics
import Derived.Test.YtikjhfmmfpeaoaaGreatDoorBFc19
set_option maxHeartbeats 16000000
set_option maxRecDepth 1000000
section
namespace Go.Proofs.YtikjhfmmfpeaoaaGreatDoor.rtw
open sq
open Go utfp ucdp setp prp tkp rtp
def GE {α : Type} (r : R α) : Prop := ∀ e, r = .error e → e.1 ≠ 0
theorem jq {α : Type} {e : Int × Int} (h : e.1 ≠ 0) : GE (.error e : R α) := fun e' h' => by cases h'; exact h
theorem ge_ok {α : Type} (x : α) : GE (.ok x : R α) := fun e h => by cases h
theorem zL (t : Tk) (f b : Nat) : GE (gtok t f b) := fun e h => by unfold gtok at h; cases h
theorem jD {α : Type} {c : Prop} [Decidable c] {a b : R α} (h1 : GE a) (h2 : GE b) : GE (if c then a else b) := by
 by_cases h : c
 ·rw [if_pos h]; exact h1
 ·rw [if_neg h]; exact h2
theorem refR_e (p : Pt) (f i : Nat) : GE (refR p f i) := by
 unfold refR;simp only
 repeat' (first | exact zL _ _ _ | exact jq (by simp) | refine jD ?_ ?_)
theorem backR_e (p : Pt) (i to_ : Nat) : ∀ l, GE (backR p i to_ l)
 | [] => jq (by simp)
 | (o, z) :: l => by
  rw [backR]
  repeat' (first | exact zL _ _ _ | exact backR_e p i to_ l | refine jD ?_ ?_)
theorem many_e {p : Pt} {c : Int} {i : Nat} {e : Int} (h : many p c i = .error e) : e ≠ 0 := by
 unfold many at h;split at h
 ·split at h
  ·cases h; decide
  ·split at h
   ·cases h
   ·cases h; decide
 ·split at h <;> cases h
theorem escR_e (p : Pt) (i : Nat) : GE (escR p i) := by
 rw [escR_eq]
 repeat' (first | exact zL _ _ _ | exact ge_ok _ | exact jq (by simp) | exact refR_e _ _ _ | exact backR_e _ _ _ _ | refine jD ?_ ?_)
 ·split
  ·exact jq (by simp)
  ·exact zL _ _ _
 ·split
  ·rename_i e he;exact jq (many_e he)
  ·exact zL _ _ _
  ·repeat' (first | exact zL _ _ _ | exact jq (by simp) | refine jD ?_ ?_)
theorem itemE_e (p : Pt) (i b : Nat) : GE (itemE p i b) := by
 unfold itemE;simp only
 repeat' (first | exact ge_ok _ | exact jq (by simp) | refine jD ?_ ?_)
 ·split
  ·exact jq (by simp)
  ·exact ge_ok _
 ·split
  ·rename_i e he;exact jq (many_e he)
  ·exact ge_ok _
  ·repeat' (first | exact ge_ok _ | exact jq (by simp) | refine jD ?_ ?_)
theorem itemR_e (p : Pt) (i : Nat) : GE (itemR p i) := by
 unfold itemR itemC
 repeat' (first | exact ge_ok _ | exact jq (by simp) | exact itemE_e _ _ _ | refine jD ?_ ?_)
theorem rangeR_e (p : Pt) (i : Nat) : GE (rangeR p i) := by
 have h1 := itemR_e p i;unfold rangeR;split
 ·rename_i e he;exact jq (h1 _ he)
 ·rename_i l s to_ _;have h2 := itemR_e p (to_ + 1);refine jD ?_ (ge_ok _);split
  ·rename_i e he;exact jq (h2 _ he)
  ·exact jD (jq (by simp)) (ge_ok _)
theorem clsL_e (p : Pt) (first : Nat) : ∀ (k : Nat) (all : List Rg) (i : Nat), GE (clsL p first k all i)
 | 0, _, _ => jq (by simp)
 | k + 1, all, i => by
  have h1 := rangeR_e p i;rw [clsL];refine jD (jq (by simp)) (jD (ge_ok _) ?_);split
  ·rename_i e he;exact jq (h1 _ he)
  ·exact clsL_e p first k _ _
theorem clsR_e (p : Pt) (f : Nat) : GE (clsR p f) := by
 have h := clsL_e p (if p.has [94] (f + 1) = true then f + 2 else f + 1) (p.n + 1 - (if p.has [94] (f + 1) = true then f + 2 else f + 1)) [] (if p.has [94] (f + 1) = true then f + 2 else f + 1);unfold clsR;simp only;split
 ·rename_i e he;exact jq (h _ he)
 ·exact zL _ _ _
theorem shutR_e (p : Pt) (t : Tk) (f i : Nat) (s : List UInt8) : GE (shutR p t f i s 26) := by
 unfold shutR
 repeat' (first | exact zL _ _ _ | exact jq (by simp) | refine jD ?_ ?_)
theorem callR_e (p : Pt) (t : Tk) (f i : Nat) (s : List UInt8) : GE (callR p t f i s) := by
 unfold callR
 repeat' (first | exact zL _ _ _ | exact jq (by simp) | refine jD ?_ ?_)
theorem flagR_e (p : Pt) (f : Nat) : ∀ (k i : Nat) (off : Bool) (on of_ : Int), GE (flagR p f k i off on of_)
 | 0, _, _, _, _ => jq (by simp)
 | k + 1, i, off, on, of_ => by
  rw [flagR]
  repeat' (first | exact zL _ _ _ | exact jq (by simp) | exact flagR_e p f k _ _ _ _ | refine jD ?_ ?_)
theorem condE_e (p : Pt) (f : Nat) (t : Tk) (to_ : Nat) (ok : Bool) : GE (condE p f t to_ ok) := by
 unfold condE
 repeat' (first | exact zL _ _ _ | exact jq (by simp) | refine jD ?_ ?_)
theorem condR_e (p : Pt) (f i : Nat) : GE (condR p f i) := by
 unfold condR condN
 repeat' (first | exact zL _ _ _ | exact jq (by simp) | exact condE_e _ _ _ _ _ | refine jD ?_ ?_)
theorem verbR_e (p : Pt) (f : Nat) : GE (verbR p f) := by
 have hv : ∀ (f i : Nat) (word arg : ByteArray) (wth : Bool), GE (verbG f i word arg wth) := fun f i word arg wth => by
  unfold verbG
  repeat' (first | exact zL _ _ _ | exact jq (by simp) | refine jD ?_ ?_)
 unfold verbR;split
 ·exact jq (by simp)
 ·split
  ·exact hv _ _ _ _ _
  ·exact hv _ _ _ _ _
theorem kindR_e (p : Pt) (f i : Nat) : ∀ (l : List (List UInt8 × Int)), ∀ g, kindR p f i l = some g → GE g
 | [], g, h => by cases h
 | (s, k) :: l, g, h => by
  rw [kindR] at h;split at h
  ·cases h;exact zL _ _ _
  ·exact kindR_e p f i l g h
theorem numR_e (p : Pt) (f i : Nat) : GE (numR p f i) := by
 have h1 := shutR_e p { kind := 12, n := (sgn p i).1, m := (sgn p i).2.1 } f (sgn p i).2.2.1 [41];unfold numR;simp only;refine jD (jq (by simp)) (jD (jD (jq (by simp)) (jq (by simp))) ?_);split
 ·rename_i e he;exact jq (h1 _ he)
 ·exact jD (jq (by simp)) (ge_ok _)
theorem openK_e (p : Pt) (f i : Nat) : GE (openK p f i) := by
 unfold openK
 repeat' (first | exact callR_e _ _ _ _ _ | exact shutR_e _ _ _ _ _ | exact condR_e _ _ _ | exact numR_e _ _ _ | exact flagR_e _ _ _ _ _ _ _ | exact jq (by simp) | refine jD ?_ ?_)
 split
 ·exact jq (by simp)
 ·exact ge_ok _
theorem openR_e (p : Pt) (f : Nat) : GE (openR p f) := by
 unfold openR;refine jD (verbR_e _ _) (jD (zL _ _ _) (jD (jq (by simp)) ?_));split
 ·rename_i g hg;exact kindR_e p f (f + 2) kindsT g hg
 ·exact openK_e _ _ _
theorem tokR_e (p : Pt) (i : Nat) : GE (tokR p i) := by
 have hq : ∀ (i to_ : Nat) (n m : Int), GE (quan p i to_ n m) := fun i to_ n m => zL _ _ _
 rw [tokR_eq]
 repeat' (first | exact ge_ok _ | exact zL _ _ _ | exact escR_e _ _ | exact clsR_e _ _ | exact openR_e _ _ | exact hq _ _ _ _ | refine jD ?_ ?_)
 split
 ·exact zL _ _ _
 ·repeat' (first | exact jq (by simp) | exact hq _ _ _ _ | refine jD ?_ ?_)
theorem lexF_e (p : Pt) : ∀ (k : Nat) (q : Bool) (T : List Tk) (i : Nat), GE (lexF p k q T i)
 | 0, _, T, _ => ge_ok _
 | k + 1, q, T, i => by
  have h := tokR_e p i;rw [lexF];refine jD (ge_ok _) (jD (jD (lexF_e p k _ _ _) (lexF_e p k _ _ _)) (jD (lexF_e p k _ _ _) ?_));split
  ·rename_i e he;exact jq (h _ he)
  ·exact lexF_e p k _ _ _
  ·exact lexF_e p k _ _ _
theorem rlex_e (g : Nat → Int) (n : Nat) (o : Int) : GE (rlexP g n o) := by unfold rlexP;exact jD (jq (by simp)) (jD (jq (by simp)) (jD (jq (by simp)) (lexF_e _ _ _ _ _)))
end Go.Proofs.YtikjhfmmfpeaoaaGreatDoor.rtw
end
section
namespace Go.Proofs.YtikjhfmmfpeaoaaGreatDoor.rsw
open sq
open Go.Sort Go Go.RowKit Go.Maps setp setw tkp trp trw rpp rsp
open rpw (sees jB qU fC jP FSub vw jQ app_sub jH jm own_below qp oneR zk jV qA qh jU lab_ok rg_nil ql)
open rpw (jc qI)
open tkw (qM)
theorem okF_at {f : F} {i : Nat} {x : Lab} {k r : F} (h : OkF f) (hd : f.drop i = .cons x k r) : OkF (F.one x k) := by have := okF_drop i h;rw [hd] at this;exact ⟨this.1, this.2.1, this.2.2.1, trivial⟩
end Go.Proofs.YtikjhfmmfpeaoaaGreatDoor.rsw
end
section
namespace Go.Proofs.YtikjhfmmfpeaoaaGreatDoor.fgp
open sq
open Go tkp trp rpp rsp setp setw
def ownF (u : Bool) (m : Int) (x : Lab) (k : F) (f : Int) : F :=
 if x.kind = 1 then F.one { bare x with kind := 2, set := setP u m [(x.c, x.c)] (decide (andI f 1 ≠ 0)) false, c := 0 } k
 else if x.kind = 2 then F.one { bare x with set := setP u m x.set (decide (andI f 1 ≠ 0)) x.neg, neg := false } k
 else if x.kind = 3 then F.one { bare x with kind := 2, set := setP u m (if andI f 4 = 0 then [(10, 10)] else []) false true } k
 else if x.kind = 4 then F.one { bare x with n := assN f x.n } k
 else if x.kind = 6 then lineF m x.at_
 else if x.kind = 7 then F.one { bare x with on := if andI f 1 ≠ 0 then 1 else x.on } k
 else F.one { bare x with mode := repM f x.kind x.mode } k
def putP (u : Bool) (m : Int) (rp : Int → F × Int) (rk : Int → F) (x : Lab) (f : Int) : F × Int :=
 if x.kind = 11 then (.nil, turnI f x.on x.off)
 else if x.kind = 12 then rp f
 else if x.kind = 15 then ((rp (turnI f x.on x.off)).1, f)
 else (ownF u m x (rk f) f, f)
def bothP (u : Bool) (m : Int) : F → Int → (F × Int) × F
 | .nil, f => ((.nil, f), .nil)
 | .cons x k r, f =>
  let t := putP u m (fun g => (bothP u m k g).1) (fun g => (bothP u m k g).2) x f
  let q := bothP u m r t.2
  ((F.app t.1 q.1.1, q.1.2), F.app (oneF 12 t.1) q.2)
def noAlt : F → Prop
 | .nil => True
 | .cons x _ r => x.kind ≠ 13 ∧ noAlt r
def bareL (x : Lab) : Prop := x.n = 0 ∧ x.m = 0 ∧ x.mode = 0 ∧ x.name = ⟨#[]⟩ ∧ x.on = 0 ∧ x.off = 0
def RawF : F → Prop
 | .nil => True
 | .cons x k r =>
  (x.kind = 13 → r = .nil) ∧ (x.kind = 12 → noAlt k) ∧ (x.kind = 15 → k.len = 1) ∧
  (x.kind = 1 ∨ x.kind = 2 ∨ x.kind = 3 ∨ x.kind = 4 ∨ x.kind = 7 → k = .nil) ∧
  (x.kind = 1 → bareL x ∧ x.set = [] ∧ x.neg = false) ∧ (x.kind = 2 → bareL x ∧ x.c = 0) ∧
  (x.kind = 3 → bareL x ∧ x.c = 0 ∧ x.set = [] ∧ x.neg = false) ∧ (x.kind = 7 → x.on = 0) ∧
  RawF k ∧ RawF r
def B (f : Int) : BitVec 64 := BitVec.ofInt 64 f
def answerP (t : Nd) (o : Int) : F := oneF 12 (putP (decide (andI o 32 ≠ 0)) (if andI o 32 ≠ 0 then 1114111 else 255) (fun g => (bothP (decide (andI o 32 ≠ 0)) (if andI o 32 ≠ 0 then 1114111 else 255) t.2 g).1) (fun g => (bothP (decide (andI o 32 ≠ 0)) (if andI o 32 ≠ 0 then 1114111 else 255) t.2 g).2) t.1 o).1
end Go.Proofs.YtikjhfmmfpeaoaaGreatDoor.fgp
end
section
namespace Go.Proofs.YtikjhfmmfpeaoaaGreatDoor.fkw
open sq
open Go.Sort Go Go.RowKit Go.Maps setp setw tkp trp trw rpp rsp rsw fgp
open rpw (sees jB qU fC jP FSub vw jQ app_sub jH jm own_below qp)
structure Ch (b : Nat) (v v' : Value) (w w' : World) : Prop where
 os : w'.os = w.os
 tape : w'.tape = w.tape
 output : w'.output = w.output
 size : w.heap.size ≤ w'.heap.size
 block : ∀ q, q < w.heap.size → q ≠ b → v.ownBlock ≠ some q → w'.heap[q]? = w.heap[q]?
 own : ∀ g, v'.ownBlock = some g → v.ownBlock = some g ∨ w.heap.size ≤ g
theorem Ch.refl (b : Nat) (v : Value) (w : World) : Ch b v v w w := ⟨rfl, rfl, rfl, Nat.le_refl _, fun _ _ _ _ => rfl, fun _ e => Or.inl e⟩
theorem Ch.trans {b : Nat} {v v' v'' : Value} {w w' w'' : World} (h : Ch b v v' w w') (k : Ch b v' v'' w' w'') : Ch b v v'' w w'' :=
 ⟨k.os.trans h.os, k.tape.trans h.tape, k.output.trans h.output, Nat.le_trans h.size k.size, fun q hq hb hv => (k.block q (Nat.lt_of_lt_of_le hq h.size) hb (fun e => by
  rcases h.own q e with e2 | e2
  ·exact hv e2
  ·omega)).trans (h.block q hq hb hv), fun g e => by
  rcases k.own g e with e2 | e2
  ·exact h.own g e2
  ·exact Or.inr (Nat.le_trans h.size e2)⟩
theorem Ch.of_below {w w' : World} (h : Below w.heap.size w w') (b : Nat) (v : Value) : Ch b v v w w' := ⟨h.os, h.tape, h.output, h.size, fun q hq _ _ => h.block q hq, fun _ e => Or.inl e⟩
theorem Ch.inner {b b' : Nat} {v v' : Value} {w w1 w' : World} (hb : Below w.heap.size w w1) (h : Ch b' v v' w1 w') (hb' : w.heap.size ≤ b') : Ch b v v' w w' :=
 ⟨h.os.trans hb.os, h.tape.trans hb.tape, h.output.trans hb.output, Nat.le_trans hb.size h.size, fun q hq _ hv => (h.block q (Nat.lt_of_lt_of_le hq hb.size) (by omega) hv).trans (hb.block q hq), fun g e => by
  rcases h.own g e with e2 | e2
  ·exact Or.inl e2
  ·exact Or.inr (Nat.le_trans hb.size e2)⟩
theorem Ch.below {b N : Nat} {v v' : Value} {w0 w w' : World} (h : Ch b v v' w w') (hB : Below N w0 w) (hN : N ≤ w.heap.size) (hb : N ≤ b) (hv : ∀ g, v.ownBlock = some g → N ≤ g) : Below N w0 w' :=
 ⟨h.os.trans hB.os, h.tape.trans hB.tape, h.output.trans hB.output, Nat.le_trans hB.size h.size, fun q hq => (h.block q (by omega) (by omega) (fun e => by have := hv q e; omega)).trans (hB.block q hq)⟩
theorem Ch.drop {b : Nat} {v v' : Value} {w w' : World} (h : Ch b v v' w w') : Ch b v nil3 w w' := ⟨h.os, h.tape, h.output, h.size, h.block, fun _ e => by cases e⟩
def ScAt (w : World) (b : Nat) (u : Bool) (m f : Int) : Prop := w.heap[b]? = some (.cells #[.bool u, .int .i64 m, .int .i64 f] 50 (0, 0))
theorem ScAt.lt {w : World} {b : Nat} {u : Bool} {m f : Int} (h : ScAt w b u m f) : b < w.heap.size := (Array.getElem?_eq_some_iff.1 h).1
theorem ScAt.keep {w w' : World} {b : Nat} {u : Bool} {m f : Int} (h : ScAt w b u m f) (hb : Below w.heap.size w w') : ScAt w' b u m f := (hb.block b h.lt).trans h
theorem ScAt.ch {w w' : World} {b b' : Nat} {v v' : Value} {u : Bool} {m f : Int} (h : ScAt w b u m f) (hc : Ch b' v v' w w') (hb : b ≠ b') (hv : v.ownBlock ≠ some b) : ScAt w' b u m f := (hc.block b h.lt hb hv).trans h
theorem ownH_ch {h : Nat → Bool} {n b : Nat} {r v' : Value} {w w' : World} {f : F} (H : OwnH h n w r f) (hc : Ch b nil3 v' w w') (hb : h b = true) (hr : r.ownBlock ≠ some b) : OwnH h n w' r f :=
 ⟨tkw.jJ H.1 (fun k hk => hc.block k (own_below H.1 hk).2 (fun e => hr (e ▸ hk)) (by intro e; cases e)), H.2.1,
  vw (qU fun a u h1 hk => ⟨h1, (World.cell?_of_block (hc.block a.block (cell_lt hk) (fun e => by simp [hx, e, hb] at h1) (by intro e; cases e))).trans hk⟩) H.2.2⟩
theorem ownH_hide {h h' : Nat → Bool} {n : Nat} {v : Value} {w w' : World} {f : F} (H : OwnH h n w v f) (hb : Below w.heap.size w w') (hh : ∀ i, h' i = true → h i = true ∨ w.heap.size ≤ i) : OwnH h' n w' v f :=
 ⟨tkw.jJ H.1 (fun k hk => hb.block k (own_below H.1 hk).2), H.2.1, vw (qU fun a u h1 hk => by
  have hl := cell_lt hk;refine ⟨?_, trw.qf hb hk⟩;simp only [hx, Bool.or_eq_false_iff, decide_eq_false_iff_not] at h1 ⊢;refine ⟨?_, h1.2⟩;cases e : h' a.block with
  | false => rfl
  | true =>
   rcases hh _ e with e2 | e2
   ·rw [h1.1] at e2; cases e2
   ·omega) H.2.2⟩
theorem ownH_show {h h' : Nat → Bool} {n : Nat} {v : Value} {w : World} {f : F} (H : OwnH h' n w v f) (hh : ∀ i, h i = true → h' i = true) : OwnH h n w v f :=
 ⟨H.1, H.2.1, vw (qU fun a u h1 hk => by
  refine ⟨?_, hk⟩;simp only [hx, Bool.or_eq_false_iff, decide_eq_false_iff_not] at h1 ⊢;refine ⟨?_, h1.2⟩;cases e : h a.block with
  | false => rfl
  | true => rw [hh _ e] at h1; exact absurd h1.1 (by simp)) H.2.2⟩
theorem nd_show {h h' : Nat → Bool} {w : World} {t : Nd} (H : NdAt (sees h' w) t) (hh : ∀ i, h i = true → h' i = true) : NdAt (sees h w) t :=
 qY (qU fun a u h1 hk => by
  refine ⟨?_, hk⟩;cases e : h a.block with
  | false => rfl
  | true =>
   rw [hh _ e] at h1;cases h1) H
end Go.Proofs.YtikjhfmmfpeaoaaGreatDoor.fkw
end
section
namespace Go.Proofs.YtikjhfmmfpeaoaaGreatDoor.fgp
open sq
open Go ucdp tkp rsp setp setw
theorem others_low {c d : Int} (h : c ∈ jy d false) : d ≤ 255 := by
 unfold jy at h;rw [if_pos rfl] at h;by_cases a : 65 ≤ d ∧ d ≤ 90
 ·omega
 rw [if_neg a] at h;by_cases b : 97 ≤ d ∧ d ≤ 122
 ·omega
 rw [if_neg b] at h;cases h
theorem class_is {u : Bool} {m : Int} {l N C W Z : List Rg} {cl neg : Bool} (hu : (u = true ∧ m = 1114111) ∨ (u = false ∧ m = 255))
 (hc : ∀ c, (Has (caseM (normR m l) u) c ∧ 0 ≤ c ∧ c ≤ min 1114111 1114111) ↔ Has (normR m l) c ∨ ∃ d, Has (normR m l) d ∧ c ∈ jy d u)
 (hN : ∀ c, Has N c ↔ Has l c ∧ 0 ≤ c ∧ c ≤ 1114111) (hC : ∀ c, Has C c ↔ Has N c ∨ ∃ d, Has N d ∧ c ∈ jy d u)
 (hW : Canon W) (hW2 : ∀ c, Has W c ↔ Has (if cl = true then C else l) c ∧ 0 ≤ c ∧ c ≤ m)
 (hZ : neg = true → Canon Z ∧ ∀ c, Has Z c ↔ 0 ≤ c ∧ c ≤ m ∧ ¬ Has W c) : (if neg = true then Z else W) = setP u m l cl neg := by
 have hm : m ≤ 1114111 := by rcases hu with h | h <;> omega
 have y : W = if cl = true then normR m (caseM (normR m l) u) else normR m l := by
  cases cl with
  | false => exact normR_only hm hW hW2
  | true =>
   refine normR_only hm hW fun c => ?_
   rw [hW2];constructor
   ·rintro ⟨a, h0, h1⟩;refine ⟨((hc c).2 ?_).1, h0, h1⟩;rcases (hC c).1 a with a | ⟨d, a, b⟩
    ·exact .inl ((normR_has hm l c).2 ⟨((hN c).1 a).1, h0, h1⟩)
    ·have a := (hN d).1 a;refine .inr ⟨d, (normR_has hm l d).2 ⟨a.1, a.2.1, ?_⟩, b⟩;rcases hu with ⟨rfl, rfl⟩ | ⟨rfl, rfl⟩
     ·exact a.2.2
     ·exact others_low b
   ·rintro ⟨a, h0, h1⟩;refine ⟨(hC c).2 ?_, h0, h1⟩;rcases (hc c).1 ⟨a, h0, by omega⟩ with a | ⟨d, a, b⟩
    ·have a := (normR_has hm l c).1 a;exact .inl ((hN c).2 ⟨a.1, h0, by omega⟩)
    ·have a := (normR_has hm l d).1 a;exact .inr ⟨d, (hN d).2 ⟨a.1, a.2.1, by omega⟩, b⟩
 have yn : normR m W = W := (normR_only hm hW fun c => ⟨fun e => ⟨e, ((hW2 c).1 e).2⟩, fun e => e.1⟩).symm;unfold setP;simp only;rw [← y, yn];cases neg with
 | false => rfl
 | true => exact notR_only hm (hZ rfl).1 hW (hZ rfl).2
end Go.Proofs.YtikjhfmmfpeaoaaGreatDoor.fgp
end
section
namespace Go.Proofs.YtikjhfmmfpeaoaaGreatDoor.fkw
open sq
open Go.Sort Go Go.RowKit Go.Maps setp setw tkp trp trw rpp rsp rsw fgp ucdp ucdw
open rpw (sees jB qU fC jP FSub vw jQ app_sub jH jm own_below qp)
def alV (u : Bool) (m : Int) : Value := .agg #[.bool u, .int .i64 m]
def RgB (p : Int → Prop) (w : World) (e : Ending) (w' : World) : Prop := ∃ v S, e = .returned v ∧ Canon S ∧ (∀ c, Has S c ↔ p c) ∧ OwnR w' w.heap.size v S ∧ Below w.heap.size w w'
theorem restricted_any (u : Bool) (m : Int) (v : Value) (l : List Rg) (w : World) (hv : RsAt w v l) (hl : l.length ≤ 1000000) (hm0 : 0 ≤ m) (hm : m ≤ 1114111) :
 Calls Tryz.prog 97 #[alV u m, v] w (RgB (fun c => Has l c ∧ 0 ≤ c ∧ c ≤ m) w) := by
 have HB0 := xH (trw.qg w (.cells #[.bool u, .int .i64 m] 47));have HV := xH (jl hv HB0.out);have hc0 : (w.alloc (.cells #[.bool u, .int .i64 m] 47)).cell? ⟨w.heap.size, 0, none⟩ = some (.bool u) := by unfold World.cell?; rw [heap_alloc_new]; rfl
 have hc1 : (w.alloc (.cells #[.bool u, .int .i64 m] 47)).cell? ⟨w.heap.size, 1, none⟩ = some (.int .i64 m) := by unfold World.cell?; rw [heap_alloc_new]; rfl
 have HN := xH (new_any v l m _ HV.out hl (by omega) (by omega));clear hv;unfold alV;go_enter Tryz.func97, Tryz.ntmps97;go_wp2_with fail
 refine HN.out.mono ?_;rintro e w1 ⟨v1, S, rfl, hS, hh, hz, hb⟩;have HR := xH (ranges_any v1 S _ w1 hS hz);have HB := xH (trw.qi HB0.out hb);have HH := xH hh;have HS := xH hS;clear hz hb hh hS HN;dsimp only;go_wp2_with fail
 refine HR.out.mono ?_;rintro e w2 ⟨v2, rfl, ho, hb2⟩;have HO := xH ho;have HB2 := xH hb2;clear ho hb2 HR;dsimp only;go_wp2_with fail
 go_ret
 exact ⟨v2, S, rfl, HS.out, fun c => (HH.out c).trans (by rw [show min m 1114111 = m by omega]), ownR_mono HO.out HB.out.size, trw.qi HB.out HB2.out⟩
theorem cases_any (u : Bool) (m : Int) (v : Value) (l : List Rg) (w : World) (hv : RsAt w v l) (hl : l.length ≤ 1000000) (hT : Tab3 w) :
 Calls Tryz.prog 95 #[alV u m, v] w (fun e w' => ∃ N, (∀ c, Has N c ↔ Has l c ∧ 0 ≤ c ∧ c ≤ 1114111) ∧ RgB (fun c => Has N c ∨ ∃ d, Has N d ∧ c ∈ jy d u) w e w') := by
 have HB0 := xH (trw.qg w (.cells #[.bool u, .int .i64 m] 47));have HV := xH (jl hv HB0.out);have hc0 : (w.alloc (.cells #[.bool u, .int .i64 m] 47)).cell? ⟨w.heap.size, 0, none⟩ = some (.bool u) := by unfold World.cell?; rw [heap_alloc_new]; rfl
 have hc1 : (w.alloc (.cells #[.bool u, .int .i64 m] 47)).cell? ⟨w.heap.size, 1, none⟩ = some (.int .i64 m) := by unfold World.cell?; rw [heap_alloc_new]; rfl
 have HT1 := xH (show Tab3 (w.alloc (.cells #[.bool u, .int .i64 m] 47)) from fun i hi => trw.qf HB0.out (hT i hi));clear hv hT;unfold alV;go_enter Tryz.func95, Tryz.ntmps95;go_upto_region 1 with (fail)
 generalize w.alloc _ = w1 at *;have HC0 := xH hc0;clear hc0 hc1;refine wp_region_held_drew (S := fun w' => Below w1.heap.size w1 w') (by kernel_rfl) (trw.qL w1) (fun hHeld => ?_);refine xT 0 rfl ?_ ?_ ?_;rotate_left
 ·intro w' hSw;go_simp;try rfl
 simp only [xS];refine xT 2 rfl ?_ ?_ ?_;rotate_left
 ·intro w' hSw;go_simp;try rfl
 simp only [xS];refine xT 3 rfl ?_ ?_ ?_;rotate_left
 ·intro w' hSw;have q0 := trw.qf hSw HC0.out;go_simp;try rfl
 simp only [xS];refine xD 1 rfl (fun K hK => ?_);go_simp;have HN := xH (new_any v l 1114111 _ (jl HV.out hHeld) hl (by omega) (by omega));refine HN.out.mono ?_;rintro e w2 ⟨v2, N, rfl, hS, hh, hz, hb⟩;have HB2 := xH (trw.qi hHeld hb);have HR := xH (caseless_any v2 N _ u w2 hS hz (fun i hi => trw.qf HB2.out (HT1.out i hi)));have HH := xH hh;clear hz hb hh hS HN;dsimp only;refine hK.out _ _ HB2.out (fun hHeld => ?_);clear hK K;try simp only [xS]
 refine xD 4 rfl (fun K hK => ?_);go_simp;refine HR.out.mono ?_;rintro e w3 ⟨v3, C, rfl, hS, hh, hz, hb⟩;have HB3 := xH (trw.qi HB2.out hb);have HR3 := xH (ranges_any v3 C _ w3 hS hz);have HS := xH hS;have HH2 := xH hh;clear hz hb hh hS HR;dsimp only;refine hK.out _ _ HB3.out (fun hHeld => ?_);clear hK K;try simp only [xS]
 refine xD 5 rfl (fun K hK => ?_);go_simp;refine HR3.out.mono ?_;rintro e w4 ⟨v4, rfl, ho, hb⟩;have HB4 := xH (trw.qi HB3.out hb);have HO := xH ho;clear ho hb HR3;dsimp only;refine hK.out _ _ HB4.out (fun hHeld => ?_);clear hK K;try simp only [xS]
 refine xT 6 rfl ?_ ?_ ?_;rotate_left
 ·intro w' hSw;go_simp;try rfl
 simp only [xS];refine wpAnyH_done (by kernel_rfl) ?_ _;go_wp2_with fail
 go_ret
 exact ⟨N, fun c => (HH.out c).trans (by rw [show min (1114111 : Int) 1114111 = 1114111 by omega]), v4, C, rfl, HS.out, HH2.out, ownR_mono HO.out (Nat.le_trans HB0.out.size HB3.out.size), trw.qi HB0.out HB4.out⟩
theorem others_any (u : Bool) (m : Int) (v : Value) (l : List Rg) (w : World) (hv : RsAt w v l) (hl : l.length ≤ 1000000) (hm0 : 0 ≤ m) (hm : m ≤ 1114111) :
 Calls Tryz.prog 96 #[alV u m, v] w (fun e w' => ∃ W, Canon W ∧ (∀ c, Has W c ↔ Has l c ∧ 0 ≤ c ∧ c ≤ m) ∧ RgB (fun c => 0 ≤ c ∧ c ≤ m ∧ ¬ Has W c) w e w') := by
 have HB0 := xH (trw.qg w (.cells #[.bool u, .int .i64 m] 47));have HV := xH (jl hv HB0.out);have hc0 : (w.alloc (.cells #[.bool u, .int .i64 m] 47)).cell? ⟨w.heap.size, 0, none⟩ = some (.bool u) := by unfold World.cell?; rw [heap_alloc_new]; rfl
 have hc1 : (w.alloc (.cells #[.bool u, .int .i64 m] 47)).cell? ⟨w.heap.size, 1, none⟩ = some (.int .i64 m) := by unfold World.cell?; rw [heap_alloc_new]; rfl
 clear hv;unfold alV;go_enter Tryz.func96, Tryz.ntmps96;go_upto_region 1 with (fail)
 generalize w.alloc _ = w1 at *;have HC0 := xH hc1;clear hc0 hc1;refine wp_region_held_drew (S := fun w' => Below w1.heap.size w1 w') (by kernel_rfl) (trw.qL w1) (fun hHeld => ?_);refine xT 0 rfl ?_ ?_ ?_;rotate_left
 ·intro w' hSw;go_simp;try rfl
 simp only [xS];refine xT 1 rfl ?_ ?_ ?_;rotate_left
 ·intro w' hSw;go_simp;try rfl
 simp only [xS];refine xT 2 rfl ?_ ?_ ?_;rotate_left
 ·intro w' hSw;have q0 := trw.qf hSw HC0.out;go_simp;try rfl
 simp only [xS];refine xT 4 rfl ?_ ?_ ?_;rotate_left
 ·intro w' hSw;go_simp;try rfl
 simp only [xS];refine xT 5 rfl ?_ ?_ ?_;rotate_left
 ·intro w' hSw;have q0 := trw.qf hSw HC0.out;go_simp;try rfl
 simp only [xS];refine xD 3 rfl (fun K hK => ?_);go_simp;have HN := xH (new_any v l m _ (jl HV.out hHeld) hl (by omega) (by omega));refine HN.out.mono ?_;rintro e w2 ⟨v2, W, rfl, hS, hh, hz, hb⟩;have HB2 := xH (trw.qi hHeld hb);have HR := xH (not_any v2 W _ m w2 hS hz (by omega) (by omega));have HH := xH hh;have HS1 := xH hS;clear hz hb hh hS HN;dsimp only;refine hK.out _ _ HB2.out (fun hHeld => ?_);clear hK K;try simp only [xS]
 refine xD 6 rfl (fun K hK => ?_);go_simp;refine HR.out.mono ?_;rintro e w3 ⟨v3, C, rfl, hS, hh, hz, hb⟩;have HB3 := xH (trw.qi HB2.out hb);have HR3 := xH (ranges_any v3 C _ w3 hS hz);have HS := xH hS;have HH2 := xH hh;clear hz hb hh hS HR;dsimp only;refine hK.out _ _ HB3.out (fun hHeld => ?_);clear hK K;try simp only [xS]
 refine xD 7 rfl (fun K hK => ?_);go_simp;refine HR3.out.mono ?_;rintro e w4 ⟨v4, rfl, ho, hb⟩;have HB4 := xH (trw.qi HB3.out hb);have HO := xH ho;clear ho hb HR3;dsimp only;refine hK.out _ _ HB4.out (fun hHeld => ?_);clear hK K;try simp only [xS]
 refine xT 8 rfl ?_ ?_ ?_;rotate_left
 ·intro w' hSw;go_simp;try rfl
 simp only [xS];refine wpAnyH_done (by kernel_rfl) ?_ _;go_wp2_with fail
 go_ret
 exact ⟨W, HS1.out, fun c => (HH.out c).trans (by rw [show min m 1114111 = m by omega]), v4, C, rfl, HS.out, fun c => (HH2.out c).trans (by rw [show min m 1114111 = m by omega]), ownR_mono HO.out (Nat.le_trans HB0.out.size HB3.out.size), trw.qi HB0.out HB4.out⟩
theorem wpList_store_al {ops : Array Oper} {rest : List Oper} {o : Oper} {a : Act} {w : World} {Q : Exit → Act → World → Prop} (hgd : o.guard = none) (hd : o.dst = none) (x y : Operand) (ho : o.op = .store 47 x y)
 (g : Nat) (hx : a.eval x = .pointer (some ⟨g, 0, none⟩)) (v0 v1 : Value) (hg : w.heap[g]? = some (.cells #[v0, v1] 47 (0, 0))) (u : Bool) (m : Int) (hy : a.eval y = alV u m)
 (h : wpList Tryz.prog ops Q rest a (w.setRow g #[.bool u, .int .i64 m])) : wpList Tryz.prog ops Q (o :: rest) a w :=
 wpList_plain hgd fun K hK => by
  have h2 := run_storeCells_at (P := Tryz.prog) g 0 47 [.bool u, .int .i64 m] 0 _ w hg (by simp) (by simp [Value.oneCell']);have hz : (sizeOf 47).run Tryz.prog w = .ok 2 w := by kernel_rfl
  have hst : (storeVar 47 ⟨g, 0, none⟩ (alV u m)).run Tryz.prog w = .ok () (w.setRow g #[.bool u, .int .i64 m]) := by unfold storeVar alV;simp [Sem.run_bind, hz, Value.cells, Result.andThen] at h2 ⊢;rw [h2]
  unfold Oper.wp execOp;simp only [ho, hx, hy, Instr.storeAt, Instr.sureAddr, Sem.run_bind, Sem.run_pure, Result.andThen_ok, hst];have := hK _ _ h;simpa [Oper.upon, hd, Act.put] using this
theorem alInfo : (Tryz.prog.info? 47).map (·.size) = some 2 := by kernel_rfl
theorem results_al {fn : Func} {p : Tmp} (h : fn.results = #[.cell p 47]) (tmps : Array Value) (w : World) (g : Nat) (u : Bool) (m : Int) (hp : tmps.getD p undef = .pointer (some ⟨g, 0, none⟩)) (hg : w.heap[g]? = some (.cells #[.bool u, .int .i64 m] 47 (0, 0))) :
 (results fn tmps).run Tryz.prog w = .ok (alV u m) w := by
 exact results_cell_row h tmps w g 47 #[.bool u, .int .i64 m] (0, 0) _ hp hg Tryz.underlying47 rfl (by rw [alInfo]; rfl)
theorem alphabet_any (o : Int) (w : World) : Calls Tryz.prog 19 #[.int .i64 o] w (fun e w' => e = .returned (alV (decide (andI o 32 ≠ 0)) (if andI o 32 ≠ 0 then 1114111 else 255)) ∧ Below w.heap.size w w') := by
 have HG := xH (heap_alloc_new w (.cells #[.bool false, .int .i64 0] 47));by_cases h : andI o 32 = 0
 ·have hb : (bits BinOp.and IntKind.i64 o 32 != 0) = false := by unfold andI at h; simp [h]
  simp only [h, ne_eq, not_true_eq_false, decide_false, if_false];clear h;go_enter Tryz.func19, Tryz.ntmps19;go_wp2_with (refine wpList_store_al rfl rfl _ _ rfl w.heap.size rfl _ _ HG.out false 255 rfl ?_)
  refine bodyPost_ret (results_al rfl _ _ w.heap.size false 255 rfl (setRow_heap _ _ _ _ _ _ HG.out)) rfl ?_;exact ⟨rfl, rpw.jU _ _ _ _⟩
 ·have hb : (bits BinOp.and IntKind.i64 o 32 != 0) = true := by unfold andI at h; simp [h]
  simp only [h, ne_eq, not_false_eq_true, decide_true, if_true];clear h;go_enter Tryz.func19, Tryz.ntmps19;go_wp2_with (refine wpList_store_al rfl rfl _ _ rfl w.heap.size rfl _ _ HG.out true 1114111 rfl ?_)
  refine bodyPost_ret (results_al rfl _ _ w.heap.size true 1114111 rfl (setRow_heap _ _ _ _ _ _ HG.out)) rfl ?_;exact ⟨rfl, rpw.jU _ _ _ _⟩
theorem ScAt.cells {w : World} {b : Nat} {u : Bool} {m f : Int} (h : ScAt w b u m f) : w.cell? ⟨b, 0, none⟩ = some (.bool u) ∧ w.cell? ⟨b, 1, none⟩ = some (.int .i64 m) ∧ w.cell? ⟨b, 2, none⟩ = some (.int .i64 f) ∧ w.frozen? ⟨b, 2, none⟩ = false := by unfold ScAt at h;unfold World.cell? World.frozen?;rw [h];exact ⟨rfl, rfl, rfl, rfl⟩
theorem has_any (b : Nat) (u : Bool) (m f n : Int) (w : World) (h : ScAt w b u m f) : Calls Tryz.prog 84 #[.pointer (some ⟨b, 0, none⟩), .int .i64 n] w (trw.BoolB (decide (andI f n ≠ 0)) w) := by
 obtain ⟨-, -, c2, -⟩ := h.cells;clear h;go_enter Tryz.func84, Tryz.ntmps84;go_wp2_with fail
 go_ret
 refine ⟨?_, Below.refl _ _⟩;unfold andI;by_cases e : bits BinOp.and IntKind.i64 f n = 0 <;> simp [e]
theorem change_any (b : Nat) (u : Bool) (m f : Int) (x : Lab) (w : World) (h : ScAt w b u m f) (v : Value) : Calls Tryz.prog 53 #[.pointer (some ⟨b, 0, none⟩), ndV x] w (fun e w' => e = .returned (.tuple #[]) ∧ ScAt w' b u m (turnI f x.on x.off) ∧ Ch b v v w w') := by
 have HB := xH (trw.qg w (.cells (ndC x).toArray 27));have HS := xH (h.keep HB.out);have HG := xH (heap_alloc_new w (.cells (ndC x).toArray 27));have HL := xH h.lt;clear h;unfold ndC at HB HS HG;unfold ndV;go_enter Tryz.func53, Tryz.ntmps53;go_upto_region 1 with (fail)
 generalize w.alloc _ = w1 at *;obtain ⟨-, -, c2, f2⟩ := HS.out.cells;have c9 : w1.cell? ⟨w.heap.size, 9, none⟩ = some (.int .i64 x.on) := by unfold World.cell?; rw [HG.out]; rfl
 have c10 : w1.cell? ⟨w.heap.size, 10, none⟩ = some (.int .i64 x.off) := by unfold World.cell?; rw [HG.out]; rfl
 go_still_tail 13, (by kernel_rfl)
 change wpList _ _ _ _ _ w1.drew;have HD := xH (show Below w1.heap.size w1 w1.drew from trw.qL w1);have HS2 := xH (HS.out.keep HD.out);have HB2 := xH (trw.qi HB.out HD.out);clear c2 f2 c9 c10;obtain ⟨-, -, c2, f2⟩ := HS2.out.cells;generalize w1.drew = w2 at *;go_wp2_with fail
 refine bodyPost_end (results_none rfl _ _ _) rfl ?_;refine ⟨rfl, tkw.heap_set HS2.out, HB2.out.os, HB2.out.tape, HB2.out.output, by have := HB2.out.size; simp [World.setCell]; exact this, fun q hq hb _ => (heap_setCell_other _ _ q _ (show q ≠ b from hb)).trans (HB2.out.block q hq), fun _ e => Or.inl e⟩
theorem mode_any (b : Nat) (u : Bool) (m f n : Int) (w : World) (h : ScAt w b u m f) : Calls Tryz.prog 85 #[.pointer (some ⟨b, 0, none⟩), .int .i64 n] w (trw.IntB (repM f 20 n) w) := by
 have HH := xH (has_any b u m f 16 w h);clear h;go_enter Tryz.func85, Tryz.ntmps85;go_wp2_with fail
 refine HH.out.mono ?_;rintro e w1 ⟨rfl, hb⟩;by_cases h : andI f 16 = 0
 ·simp only [h, ne_eq, not_true_eq_false, decide_false];go_wp2_with fail
  go_ret
  exact ⟨by simp [repM, h], hb⟩
 ·simp only [h, ne_eq, not_false_eq_true, decide_true];by_cases h0 : n = 0
  ·subst h0;go_wp2_with fail
   go_ret
   exact ⟨by simp [repM, h], hb⟩
  by_cases h1 : n = 1
  ·subst h1;go_wp2_with fail
   go_ret
   exact ⟨by simp [repM, h], hb⟩
  have q0 : (n == 0) = false := by simpa using h0
  have q1 : (n == 1) = false := by simpa using h1
  go_wp2_with fail
  go_ret
  exact ⟨by simp [repM, h, h0, h1], hb⟩
theorem assertion_any (b : Nat) (u : Bool) (m f n : Int) (w : World) (h : ScAt w b u m f) : Calls Tryz.prog 83 #[.pointer (some ⟨b, 0, none⟩), .int .i64 n] w (trw.IntB (assN f n) w) := by
 have HH := xH (has_any b u m f 2 w h);clear h;go_enter Tryz.func83, Tryz.ntmps83;go_wp2_with fail
 refine HH.out.mono ?_;rintro e w1 ⟨rfl, hb⟩;by_cases h : andI f 2 = 0
 ·simp only [h, ne_eq, not_true_eq_false, decide_false];go_wp2_with fail
  go_ret
  exact ⟨by simp [assN, h], hb⟩
 ·simp only [h, ne_eq, not_false_eq_true, decide_true];by_cases h0 : n = 1
  ·subst h0;go_wp2_with fail
   go_ret
   exact ⟨by simp [assN, h], hb⟩
  by_cases h1 : n = 2
  ·subst h1;go_wp2_with fail
   go_ret
   exact ⟨by simp [assN, h], hb⟩
  have q0 : (n == 1) = false := by simpa using h0
  have q1 : (n == 2) = false := by simpa using h1
  go_wp2_with fail
  go_ret
  exact ⟨by simp [assN, h, h0, h1], hb⟩
end Go.Proofs.YtikjhfmmfpeaoaaGreatDoor.fkw
end
section
namespace Go.Proofs.YtikjhfmmfpeaoaaGreatDoor.fkw
open sq
open Go.Sort Go Go.RowKit Go.Maps setp setw tkp trp trw rpp rsp fgp ucdp ucdw
def AlOk (u : Bool) (m : Int) : Prop := (u = true ∧ m = 1114111) ∨ (u = false ∧ m = 255)
theorem AlOk.b {u : Bool} {m : Int} (h : AlOk u m) : 0 ≤ m ∧ m ≤ 1114111 := by rcases h with h | h <;> omega
def ClB (S : List Rg) (w : World) (e : Ending) (w' : World) : Prop := Canon S ∧ ∃ v, e = .returned v ∧ OwnR w' w.heap.size v S ∧ Below w.heap.size w w'
theorem fk_wf {S : List Rg} (h : Canon S) : Wf S := fun r hr => by
 have := h.2 r hr;omega
theorem fk_rs {w : World} {n : Nat} {v : Value} {S : List Rg} (h : OwnR w n v S) (hS : Canon S) : RsAt w v S := rsw.rg_rs (h := fun _ => false) (rsw.own_rg h (fk_wf hS) (fun i hi => by cases hi))
theorem cls_is {u : Bool} {m : Int} {l W Z : List Rg} {neg : Bool} (hu : AlOk u m) (hW : Canon W) (hW2 : ∀ c, Has W c ↔ Has l c ∧ 0 ≤ c ∧ c ≤ m)
 (hZ : neg = true → Canon Z ∧ ∀ c, Has Z c ↔ 0 ≤ c ∧ c ≤ m ∧ ¬ Has W c) : (if neg = true then Z else W) = setP u m l false neg := by
 have y := normR_only hu.b.2 hW hW2;have yn : normR m W = W := (normR_only hu.b.2 hW fun c => ⟨fun e => ⟨e, ((hW2 c).1 e).2⟩, fun e => e.1⟩).symm;unfold setP;simp only [Bool.false_eq_true, if_false];rw [← y, yn];cases neg with
 | false => rfl
 | true => exact notR_only hu.b.2 (hZ rfl).1 hW (hZ rfl).2
theorem cls_is2 {u : Bool} {m : Int} {l N C W Z : List Rg} {neg : Bool} (hu : AlOk u m) (hN : ∀ c, Has N c ↔ Has l c ∧ 0 ≤ c ∧ c ≤ 1114111) (hC : ∀ c, Has C c ↔ Has N c ∨ ∃ d, Has N d ∧ c ∈ jy d u)
 (hW : Canon W) (hW2 : ∀ c, Has W c ↔ Has C c ∧ 0 ≤ c ∧ c ≤ m) (hZ : neg = true → Canon Z ∧ ∀ c, Has Z c ↔ 0 ≤ c ∧ c ≤ m ∧ ¬ Has W c) : (if neg = true then Z else W) = setP u m l true neg :=
 class_is (C := C) hu (fun c => caseM_has (ja hu.b.2 l).2 c) hN hC hW (fun c => by rw [if_pos rfl]; exact hW2 c) hZ
theorem class_any (b : Nat) (u : Bool) (m f : Int) (v : Value) (l : List Rg) (neg : Bool) (w : World) (ha : AlOk u m) (h : ScAt w b u m f) (hv : RsAt w v l) (hl : l.length ≤ 1000000) (hT : Tab3 w) :
 Calls Tryz.prog 80 #[.pointer (some ⟨b, 0, none⟩), v, .bool neg] w (ClB (setP u m l (decide (andI f 1 ≠ 0)) neg) w) := by
 have HS := xH h;have HH := xH (has_any b u m f 1 w h);have HA := xH ha;have HV := xH hv;have HT := xH hT;obtain ⟨cl, hcl⟩ : ∃ cl, decide (andI f 1 ≠ 0) = cl := ⟨_, rfl⟩;rw [hcl] at HH ⊢;clear h hv ha hT hcl;go_enter Tryz.func80, Tryz.ntmps80;go_wp2_with fail
 refine HH.out.mono ?_;rintro e w1 ⟨rfl, hb⟩;have HB := xH hb;obtain ⟨c0, c1, -, -⟩ := (HS.out.keep hb).cells;have HV1 := xH (jl HV.out HB.out);have HS1 := xH (HS.out.keep hb);clear hb HH;cases cl with
 | false =>
  cases neg with
  | false =>
   have HR := xH (restricted_any u m v l w1 HV1.out hl HA.out.b.1 HA.out.b.2);unfold alV at HR;go_wp2_with fail
   refine HR.out.mono ?_;rintro e w2 ⟨v2, W, rfl, hW, hh, ho, hb⟩;try dsimp only
   go_wp2_with fail
   go_ret
   have e := cls_is (Z := []) (neg := false) HA.out hW hh (by intro h; cases h);rw [if_neg (by simp)] at e;subst e;exact ⟨hW, v2, rfl, ownR_mono ho HB.out.size, trw.qi HB.out hb⟩
  | true =>
   have HR := xH (others_any u m v l w1 HV1.out hl HA.out.b.1 HA.out.b.2);unfold alV at HR;go_wp2_with fail
   refine HR.out.mono ?_;rintro e w2 ⟨W, hW, hh, v2, Z, rfl, hZ, hz, ho, hb⟩;try dsimp only
   go_wp2_with fail
   go_ret
   have e := cls_is (neg := true) HA.out hW hh (fun _ => ⟨hZ, hz⟩);rw [if_pos rfl] at e;subst e;exact ⟨hZ, v2, rfl, ownR_mono ho HB.out.size, trw.qi HB.out hb⟩
 | true =>
  have HC := xH (cases_any u m v l w1 HV1.out hl (fun i hi => trw.qf HB.out (HT.out i hi)));unfold alV at HC;go_wp2_with fail
  refine HC.out.mono ?_;rintro e w2 ⟨N, hN, v2, C, rfl, hC, hh, ho, hb⟩;have HB2 := xH (trw.qi HB.out hb);obtain ⟨d0, d1, -, -⟩ := (HS1.out.keep hb).cells;have HN := xH hN;have HC2 := xH hC;have HH2 := xH hh;have HV2 := xH (fk_rs ho hC);have hcl := canon_len hC;have hcl2 := rsw.canon_half hC;clear hb hN hC hh ho c0 c1 HC;try dsimp only
  cases neg with
  | false =>
   have HR := xH (restricted_any u m v2 C w2 HV2.out (by omega) HA.out.b.1 HA.out.b.2);unfold alV at HR;go_wp2_with fail
   refine HR.out.mono ?_;rintro e w3 ⟨v3, W, rfl, hW, hh, ho, hb⟩;try dsimp only
   go_wp2_with fail
   go_ret
   have e := cls_is2 (Z := []) (neg := false) HA.out HN.out HH2.out hW hh (by intro h; cases h);rw [if_neg (by simp)] at e;subst e;exact ⟨hW, v3, rfl, ownR_mono ho HB2.out.size, trw.qi HB2.out hb⟩
  | true =>
   have HR := xH (others_any u m v2 C w2 HV2.out (by omega) HA.out.b.1 HA.out.b.2);unfold alV at HR;go_wp2_with fail
   refine HR.out.mono ?_;rintro e w3 ⟨W, hW, hh, v3, Z, rfl, hZ, hz, ho, hb⟩;try dsimp only
   go_wp2_with fail
   go_ret
   have e := cls_is2 (neg := true) HA.out HN.out HH2.out hW hh (fun _ => ⟨hZ, hz⟩);rw [if_pos rfl] at e;subst e;exact ⟨hZ, v3, rfl, ownR_mono ho HB2.out.size, trw.qi HB2.out hb⟩
theorem dot_any (b : Nat) (u : Bool) (m f : Int) (w : World) (ha : AlOk u m) (h : ScAt w b u m f) :
 Calls Tryz.prog 81 #[.pointer (some ⟨b, 0, none⟩)] w (ClB (setP u m (if andI f 4 = 0 then [(10, 10)] else []) false true) w) := by
 have HS := xH h;have HH := xH (has_any b u m f 4 w h);have HA := xH ha;obtain ⟨cl, L, hcl, hL, hf, ht⟩ : ∃ (cl : Bool) (L : List Rg), decide (andI f 4 ≠ 0) = cl ∧ (if andI f 4 = 0 then [(10, 10)] else []) = L ∧ (cl = false → L = [(10, 10)]) ∧ (cl = true → L = []) := ⟨_, _, rfl, rfl, fun h => if_pos (by simpa using h), fun h => if_neg (by simpa using h)⟩;rw [hcl] at HH;rw [hL];clear h ha hcl hL;go_enter Tryz.func81, Tryz.ntmps81;go_wp2_with fail
 refine HH.out.mono ?_;rintro e w1 ⟨rfl, hb⟩;have HB := xH hb;obtain ⟨c0, c1, -, -⟩ := (HS.out.keep hb).cells;clear hb HH;cases cl with
 | false =>
  have hl := hf rfl;clear hf ht;subst hl;have HO := xH (rsw.own_lit (R := [(10, 10)]) (n := 1) (B := w1.heap.size) (cs := #[.int .i64 10, .int .i64 10]) (w := w1) rfl rfl rfl (by simp) (by simp));have HBA := xH (trw.qg w1 (.cells #[.int .i64 10, .int .i64 10] 57));have HR := xH (others_any u m (.slice (some ⟨w1.heap.size, 0, none⟩) 1 1) [(10, 10)] _ (fk_rs HO.out ⟨by simp, by intro r hr; simp at hr; subst hr; simp⟩) (by simp) HA.out.b.1 HA.out.b.2);unfold alV at HR;go_wp2_with fail
  refine HR.out.mono ?_;rintro e w2 ⟨W, hW, hh, v2, Z, rfl, hZ, hz, ho, hb⟩;try dsimp only
  go_wp2_with fail
  go_ret
  have e := cls_is (neg := true) HA.out hW hh (fun _ => ⟨hZ, hz⟩);rw [if_pos rfl] at e;subst e;exact ⟨hZ, v2, rfl, ownR_mono ho (Nat.le_trans HB.out.size HBA.out.size), trw.qi (trw.qi HB.out HBA.out) hb⟩
 | true =>
  have hl := ht rfl;clear hf ht;subst hl;have HR := xH (others_any u m (.slice none 0 0) [] w1 (fk_rs (qm _ 0) canon_nil) (by simp) HA.out.b.1 HA.out.b.2);unfold alV at HR;go_wp2_with fail
  refine HR.out.mono ?_;rintro e w2 ⟨W, hW, hh, v2, Z, rfl, hZ, hz, ho, hb⟩;try dsimp only
  go_wp2_with fail
  go_ret
  have e := cls_is (neg := true) HA.out hW hh (fun _ => ⟨hZ, hz⟩);rw [if_pos rfl] at e;subst e;exact ⟨hZ, v2, rfl, ownR_mono ho HB.out.size, trw.qi HB.out hb⟩
end Go.Proofs.YtikjhfmmfpeaoaaGreatDoor.fkw
end
section
namespace Go.Proofs.YtikjhfmmfpeaoaaGreatDoor.fkw
open sq
open Go.Sort Go Go.RowKit Go.Maps tkp trp trw rpp rsp rsw fgp
open rpw (sees jB qU fC jP FSub vw jQ app_sub jH jm own_below qp oneR zk jV qA qh ql jU)
theorem wpList_append_k {ops : Array Oper} {rest : List Oper} {o : Oper} {a : Act} {w : World} {Q : Exit → Act → World → Prop} (hgd : o.guard = none) (s x : Operand)
 (ho : o.op = .call { callee := .builtin .append, args := #[s, x], argTypes := #[25, 25] }) (h : Nat → Bool) (n : Nat) (v : Value) (f : F) (hs : a.eval s = v) (hown : OwnH h n w v f)
 (vx : Value) (gf : F) (hx' : a.eval x = vx) (hgf : jr (sees (hx h v) w) vx gf) (hlen : f.len + gf.len ≤ 200000) (hbase : n ≤ w.heap.size)
 (hq : ∀ v' w', OwnH h n w' v' (F.app f gf) → (∀ b, Ch b v v' w w') → wpList Tryz.prog ops Q rest (a.put o.dst v') w') :
 wpList Tryz.prog ops Q (o :: rest) a w := by
 obtain ⟨i0, hi, hz0, hz1, hz2⟩ := info_parts infoNd;by_cases h0 : gf.len = 0
 ·obtain ⟨ga, gc, rfl, hgc1, hgc2, _⟩ := hgf;have hgn : gf = .nil := by
   cases gf with
   | nil => rfl
   | cons _ _ _ => simp [F.len] at h0
  subst hgn;refine wpList_plain hgd fun K hK => ?_
  have hrun := setw.run_append_zero (P := Tryz.prog) (w := w) 25 o.type i0 Tryz.underlying25 hi hown.1 ga gc;unfold Oper.wp;simp [execOp, ho, resolve, invoke, builtin, hs, hx', hrun, Result.andThen, F.len];exact hK _ _ (hq v w (by rw [app_nil]; exact hown) (fun b => Ch.refl b v w))
 ·obtain ⟨ga, gc, rfl, hgc1, hgc2, h1 | ⟨b, go, rfl, hfa⟩⟩ := hgf
  ·exact absurd h1 h0
  refine wpList_plain hgd fun K hK => ?_
  obtain ⟨v', w', hr, h2, h3, _, h5⟩ := run_append_own_at (P := Tryz.prog) w n 25 o.type 27 i0 _ 12 136 Tryz.underlying25 hi hz0 hz1 hz2 rfl (by decide) v f.len (fC f) hown.1 ⟨b, go, none⟩ gf.len gc (fC gf) (jP gf)
   (fun j u hj => by rw [add_plain];exact sees_to (fAt_C hfa j u hj)) (fC_one (fAt_sub hfa)) (by unfold maxLen; omega) (by omega) hbase
  unfold Oper.wp execOp;simp only [ho, resolve, invoke, builtin, Sem.run_bind, Sem.run_pure, Result.andThen_ok, List.map_toArray, List.map_cons, List.map_nil, hs, hx', hr];have hlt := World.ownsRow.lt hown.1;have hblk : ∀ q, q < w.heap.size → v.ownBlock ≠ some q → w'.heap[q]? = w.heap[q]? := fun q hq hne => h3.block q hq (fun e => hne e.symm)
  have hbw : Below n w w' := (Below.refl n w).grown h3 hbase (fun k hk => (hlt k hk).1);have hv' : ∀ g, v'.ownBlock = some g → v.ownBlock = some g ∨ w.heap.size ≤ g := fun g hg' => by
   rcases h5 with e | e
   ·exact Or.inl (e.symm.trans hg')
   ·rw [e] at hg';simp only [Option.some.injEq] at hg';exact Or.inr (by omega)
  have hK2 := hK _ _ (hq v' w' ⟨by rw [jd, jQ]; exact h2, fun e => by rw [jd] at e;exact absurd (show gf.len = 0 by omega) h0, ?_⟩ (fun b => ⟨hbw.os, hbw.tape, hbw.output, hbw.size, fun q hq _ hne => hblk q hq hne, fun g hg => hv' g hg⟩))
  ·simpa [Oper.upon] using hK2
  ·have key : ∀ a u, hx h v a.block = false → w.cell? a = some u → hx h v' a.block = false ∧ w'.cell? a = some u := fun a u k1 kc => by
    simp only [hx, Bool.or_eq_false_iff, decide_eq_false_iff_not] at k1 ⊢;have hl := cell_lt kc;refine ⟨⟨k1.1, fun e => ?_⟩, (World.cell?_of_block (hblk a.block hl k1.2)).trans kc⟩;rcases hv' _ e with e2 | e2
    ·exact k1.2 e2
    ·omega
   exact app_sub (vw (qU key) hown.2.2) (vw (qU key) (fAt_sub hfa))
theorem hx_old2 {h : Nat → Bool} {n m base : Nat} {w : World} {v : Value} {e : TypeId} {s k : Nat} {xs : List Value} (H : Old h n) (hn : n ≤ m) (hr : w.ownsRow base e s v k xs) (hw : w.heap.size ≤ m) : Old (hx h v) m := fun i hi => by
 simp only [hx, Bool.or_eq_true, decide_eq_true_eq] at hi;rcases hi with hi | hi
 ·have := H i hi; omega
 ·have := own_below hr hi; omega
structure Cx (w0 w : World) (h : Nat → Bool) (b : Nat) (u : Bool) (m f : Int) : Prop where
 be : Below w0.heap.size w0 w
 old : Old h w.heap.size
 hb : h b = true
 b0 : w0.heap.size ≤ b
 sc : ScAt w b u m f
def Vis (h : Nat → Bool) (v : Value) : Prop := ∀ g, v.ownBlock = some g → h g = false
theorem ScAt.ch0 {w w' : World} {h : Nat → Bool} {b : Nat} {v v' : Value} {u : Bool} {m f : Int} (H : ScAt w b u m f) (hc : Ch (w.heap.size) v v' w w') (hv : Vis h v) (hb : h b = true) : ScAt w' b u m f :=
 (hc.block b H.lt (Nat.ne_of_lt H.lt) (fun e => by rw [hv b e] at hb; cases hb)).trans H
theorem vis_nil (h : Nat → Bool) : Vis h nil3 := fun _ e => by cases e
theorem Vis.next {h : Nat → Bool} {b : Nat} {v v' : Value} {w w' : World} (hv : Vis h v) (hc : Ch b v v' w w') (ho : Old h w.heap.size) : Vis h v' := fun g e => by
 rcases hc.own g e with e2 | e2
 ·exact hv g e2
 ·cases q : h g with
  | false => rfl
  | true => have := ho g q; omega
theorem Cx.keep {w0 w w' : World} {h : Nat → Bool} {b : Nat} {u : Bool} {m f : Int} (C : Cx w0 w h b u m f) (hb : Below w.heap.size w w') : Cx w0 w' h b u m f :=
 ⟨C.be.trans (hb.mono C.be.size), C.old.le hb.size, C.hb, C.b0, C.sc.keep hb⟩
theorem Cx.ch {w0 w w' : World} {h : Nat → Bool} {b : Nat} {u : Bool} {m f f' : Int} {v v' : Value} (C : Cx w0 w h b u m f) (hc : Ch b v v' w w') (hs : ScAt w' b u m f') (hv : ∀ g, v.ownBlock = some g → w0.heap.size ≤ g) : Cx w0 w' h b u m f' :=
 ⟨hc.below C.be C.be.size C.b0 hv, C.old.le hc.size, C.hb, C.b0, hs⟩
theorem Cx.hide {w0 w : World} {h h' : Nat → Bool} {b : Nat} {u : Bool} {m f : Int} (C : Cx w0 w h b u m f) (ho : Old h' w.heap.size) (hb : h' b = true) : Cx w0 w h' b u m f := ⟨C.be, ho, hb, C.b0, C.sc⟩
theorem Ch.after {b : Nat} {v v' : Value} {w w1 w' : World} (hb : Below w.heap.size w w1) (h : Ch b v v' w1 w') : Ch b v v' w w' := (Ch.of_below hb b v).trans h
theorem Ch.row {b : Nat} {v v' : Value} {w w' : World} (h : Ch b v v' w w') {q : Nat} (hq : w.heap.size ≤ q) (cs : Array Value) : Ch b v v' w (w'.setRow q cs) :=
 ⟨h.os, h.tape, h.output, by rw [tkw.setRow_size]; exact h.size, fun i hi hb hv => (tkw.setRow_other _ _ i cs (by omega)).trans (h.block i hi hb hv), h.own⟩
theorem kids_own {h : Nat → Bool} {n : Nat} {w : World} {v : Value} {f : F} (H : OwnH h n w v f) (hv : Vis h v) : jr (sees h w) v f := by
 rcases H.1.2 with ⟨hv0, h0⟩ | ⟨g, cap, cur, hv2, hg, hh, h1, h2, _, _⟩
 ·exact ⟨none, 0, by rw [hv0, h0], by omega, by decide, Or.inl h0⟩
 ·unfold maxLen at h2;refine ⟨_, cap, hv2, h1, by omega, Or.inr ⟨g, 0, rfl, own_fAtH H.2.2 (qU fun a u k1 kc => ⟨?_, kc⟩) fun j u hj => jB.2 ⟨hv g (by rw [hv2]; rfl), ?_⟩⟩⟩
  ·simp only [hx, Bool.or_eq_false_iff] at k1;exact k1.1
  ·rw [Nat.zero_add, World.ownsRow.cellAt (hv2 ▸ H.1) j (by have := (List.getElem?_eq_some_iff.1 hj).1; rw [jP] at this; exact this)];exact hj
def h1 (h : Nat → Bool) (q : Nat) (i : Nat) : Bool := h i || decide (i = q)
theorem h1_old {h : Nat → Bool} {n q : Nat} (ho : Old h n) {k : Nat} (hn : n ≤ k) (hq : q < k) : Old (h1 h q) k := fun i hi => by
 simp only [h1, Bool.or_eq_true, decide_eq_true_eq] at hi;rcases hi with hi | hi
 ·have := ho i hi; omega
 ·omega
theorem h1_mono (h : Nat → Bool) (q : Nat) : ∀ i, h i = true → h1 h q i = true := fun i hi => by simp [h1, hi]
theorem h1_self (h : Nat → Bool) (q : Nat) : h1 h q q = true := by simp [h1]
theorem nd_unh1 {h : Nat → Bool} {q : Nat} {w : World} {cs : Array Value} {t : Nd} (H : NdAt (sees (h1 h q) w) t) : NdAt (sees h (w.setRow q cs)) t :=
 qY (qU fun a v k1 hc => by simp only [h1, Bool.or_eq_false_iff, decide_eq_false_iff_not] at k1;exact ⟨k1.1, rpw.jI cs hc k1.2⟩) H
def PutB (n : Nat) (h : Nat → Bool) (b : Nat) (u : Bool) (m : Int) (v : Value) (g0 : F) (R : F × Int) (w : World) (e : Ending) (w' : World) : Prop :=
 ∃ v' g, e = .returned v' ∧ OwnH h n w' v' (F.app g0 g) ∧ strip g = R.1 ∧ ScAt w' b u m R.2 ∧ Ch b v v' w w'
def OneB (h : Nat → Bool) (b : Nat) (u : Bool) (m : Int) (R : F × Int) (w : World) (e : Ending) (w' : World) : Prop :=
 ∃ y j, e = .returned (ndV y) ∧ NdAt (sees h w') (y, j) ∧ strip (F.one y j) = oneF 12 R.1 ∧ ScAt w' b u m R.2 ∧ Ch b nil3 nil3 w w'
def PutC (w0 : World) (u : Bool) (m : Int) (x : Lab) (k : F) : Prop := ∀ (w : World) (h : Nat → Bool) (b : Nat) (f : Int) (v : Value) (g0 : F), Cx w0 w h b u m f → OwnH h w0.heap.size w v g0 → Vis h v → g0.len + k.size ≤ 100000 →
 Calls Tryz.prog 31 #[.pointer (some ⟨b, 0, none⟩), v, ndV x] w (PutB w0.heap.size h b u m v g0 (putP u m (fun g => (bothP u m k g).1) (fun g => (bothP u m k g).2) x f) w)
def AllC (w0 : World) (u : Bool) (m : Int) (k : F) : Prop := ∀ (w : World) (h : Nat → Bool) (b : Nat) (f : Int) (v kv : Value) (g0 : F), Cx w0 w h b u m f → OwnH h w0.heap.size w v g0 → Vis h v → g0.len + k.size ≤ 100000 → jr w0 kv k →
 Calls Tryz.prog 54 #[.pointer (some ⟨b, 0, none⟩), v, kv] w (PutB w0.heap.size h b u m v g0 (bothP u m k f).1 w)
def ResC (w0 : World) (u : Bool) (m : Int) (x : Lab) (k : F) : Prop := ∀ (w : World) (h : Nat → Bool) (b : Nat) (f : Int), Cx w0 w h b u m f → k.size ≤ 100000 →
 Calls Tryz.prog 20 #[.pointer (some ⟨b, 0, none⟩), ndV x] w (OneB h b u m (putP u m (fun g => (bothP u m k g).1) (fun g => (bothP u m k g).2) x f) w)
def KidsB (h : Nat → Bool) (r : F) (w : World) (e : Ending) (w' : World) : Prop := ∃ v g, e = .returned v ∧ OwnH h w.heap.size w' v g ∧ strip g = r ∧ Below w.heap.size w w'
def KidsC (w0 : World) (u : Bool) (m : Int) (k : F) : Prop := ∀ (w : World) (h : Nat → Bool) (b : Nat) (f : Int) (kv : Value), Cx w0 w h b u m f → k.size ≤ 100000 → jr w0 kv k →
 Calls Tryz.prog 56 #[.pointer (some ⟨b, 0, none⟩), kv] w (KidsB h (bothP u m k f).2 w)
theorem result_of {w0 : World} {u : Bool} {m : Int} {x : Lab} {k : F} (hP : PutC w0 u m x k) (hn : NdAt w0 (x, k)) : ResC w0 u m x k := by
 intro w h b f hC hk;obtain ⟨R, hR⟩ : ∃ R, putP u m (fun g => (bothP u m k g).1) (fun g => (bothP u m k g).2) x f = R := ⟨_, rfl⟩;rw [hR];have z1 := World.size_alloc w (.cells (ndC x).toArray 27);have z2 := World.size_alloc (w.alloc (.cells (ndC x).toArray 27)) (.cells zC.toArray 27);have b1 := qg w (.cells (ndC x).toArray 27);have b2 := qg (w.alloc (.cells (ndC x).toArray 27)) (.cells zC.toArray 27);have g1 := heap_alloc_new w (.cells (ndC x).toArray 27);have g2 := heap_alloc_new (w.alloc (.cells (ndC x).toArray 27)) (.cells zC.toArray 27);rw [z1] at g2 z2;have HB := xH (qi b1 b2);have HG := xH ((b2.block _ (by omega)).trans g1);have HRV := xH g2;have HZ := xH z2;have HC := xH (hC.keep (qi b1 b2));have HLT := xH hC.sc.lt;have HP := xH hP;have HNO := xH (qp hn);have HRD := xH hR;clear z1 b1 b2 g1 g2 z2 hC hP hn hR;unfold ndC zC at HB HG HRV HZ HC;unfold ndV;go_enter Tryz.func20, Tryz.ntmps20;go_upto_region 1 with (fail)
 generalize (w.alloc _).alloc _ = w1 at *;have HCall := xH (HP.out w1 (h1 h (w.heap.size + 1)) b f nil3 .nil (HC.out.hide (h1_old HC.out.old (Nat.le_refl _) (by have := HZ.out; omega)) (h1_mono _ _ _ HC.out.hb)) (ownH_nil _ _ _) (vis_nil _) (by simpa [F.len] using hk));rw [HRD.out] at HCall;go_wp2_with (first
  | (refine ql rfl _ rfl w.heap.size rfl x HG.out ?_))
 refine HCall.out.mono ?_;rintro e w2 ⟨v', g, rfl, ho, hs, hsc, hch⟩;have HO := xH (show OwnH (h1 h (w.heap.size + 1)) w0.heap.size w2 v' g from ho);have HS := xH hs;have HSC := xH hsc;have HCH := xH (Ch.after HB.out hch);have HG2 := xH ((hch.block _ (by have := HZ.out; omega) (by have := HLT.out; omega) (by intro e; cases e)).trans HRV.out);have HV := xH ((vis_nil (h1 h (w.heap.size + 1))).next hch (h1_old HC.out.old (Nat.le_refl _) (by have := HZ.out; omega)));clear ho hs hsc hch HCall;have HK := xH (kids_own HO.out HV.out);have HN1 := xH (zk 12 (by unfold I64; omega) HK.out);have H1 := xH (qp HN1.out);have HE := xH (show OneB h b u m R w (.returned (ndV (oneR 12 v' g).1)) (w2.setRow (w.heap.size + 1) (ndC (oneR 12 v' g).1).toArray) from
  ⟨_, (oneR 12 v' g).2, rfl, nd_unh1 HN1.out, by rw [jV, HS.out], (tkw.setRow_other _ _ _ _ (by have := HLT.out; omega)).trans HSC.out, (HCH.out.row (by omega) _).drop⟩)
 obtain ⟨a, cap, hv'⟩ := kids_len HK.out;subst hv';dsimp only;by_cases hl : g.len = 1
 ·obtain ⟨y, j, rfl⟩ : ∃ y j, g = .cons y j .nil := by
   match g, hl with
   | .nil, h => simp [F.len] at h
   | .cons x k .nil, _ => exact ⟨x, k, rfl⟩
   | .cons _ _ (.cons _ _ _), h => simp [F.len] at h
  obtain ⟨bb, o, q, hv, _, _, _, hf⟩ := kid_at HK.out (i := 0) rfl;cases hv;have HCS := xH (fun j u hj => sees_to (hf.1 j u hj));clear hf hl;go_wp2_with (first
   | (refine jv rfl _ rfl bb (o + 0 * 12) rfl y HCS.out ?_)
   | (refine qh rfl rfl _ _ rfl (w.heap.size + 1) rfl _ y HG2.out rfl H1.out rfl ?_))
  refine bodyPost_ret (qA rfl _ _ (w.heap.size + 1) y rfl (setRow_heap _ _ _ _ _ _ HG2.out)) rfl ?_;exact HE.out
 ·have hl2 : ¬ (g.len : Int) = 1 := by omega
  have hO : oneR 12 (.slice a g.len cap) g = ({ lab 12 0 with kv := .slice a g.len cap }, g) := by
   match g, hl with
   | .nil, _ => rfl
   | .cons x k .nil, h => exact absurd rfl h
   | .cons _ _ (.cons _ _ _), _ => rfl
  rw [hO] at HE H1;clear hl hO;go_wp2_with (refine qh rfl rfl _ _ rfl (w.heap.size + 1) rfl _ { lab 12 0 with kv := .slice a g.len cap } HG2.out rfl H1.out rfl ?_)
  refine bodyPost_ret (qA rfl _ _ (w.heap.size + 1) { lab 12 0 with kv := .slice a g.len cap } rfl (setRow_heap _ _ _ _ _ _ HG2.out)) rfl ?_;exact HE.out
end Go.Proofs.YtikjhfmmfpeaoaaGreatDoor.fkw
end
section
namespace Go.Proofs.YtikjhfmmfpeaoaaGreatDoor.fkp
open sq
open Go tkp trp rpp rsp setp setw fgp
theorem fk_app_len : ∀ f g : F, (F.app f g).len = f.len + g.len
 | .nil, g => by simp [F.app, F.len]
 | .cons x k r, g => by simp only [F.app, F.len, fk_app_len r g];omega
theorem own_len1 (u : Bool) (m : Int) (x : Lab) (k : F) (f : Int) : (ownF u m x k f).len = 1 := by
 unfold ownF
 repeat' split
 all_goals rfl
theorem put_len (u : Bool) (m : Int) (rp : Int → F × Int) (rk : Int → F) (x : Lab) (f : Int) (z : Nat) (h : ∀ g, (rp g).1.len ≤ z) : (putP u m rp rk x f).1.len ≤ z + 1 := by
 unfold putP;split
 ·simp [F.len]
 split
 ·have := h f; omega
 split
 ·have := h (turnI f x.on x.off); simp only; omega
 ·simp only [own_len1]; omega
theorem both_len (u : Bool) (m : Int) : ∀ (l : F) (f : Int), (bothP u m l f).1.1.len ≤ l.size
 | .nil, _ => by simp [bothP, F.len, F.size]
 | .cons x k r, f => by rw [bothP];simp only [fk_app_len, F.size];have h1 := put_len u m (fun g => (bothP u m k g).1) (fun g => (bothP u m k g).2) x f k.size (fun g => both_len u m k g);have h2 := both_len u m r (putP u m (fun g => (bothP u m k g).1) (fun g => (bothP u m k g).2) x f).2;omega
end Go.Proofs.YtikjhfmmfpeaoaaGreatDoor.fkp
end
