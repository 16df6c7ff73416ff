/- T -/
import Derived.StillTailTactics
import Derived.Test.YtdgfclbajjjcgaaBRs25
set_option maxHeartbeats 16000000
set_option maxRecDepth 1000000
namespace Go.Proofs.Ytdgfclbajjjcgaa
section
namespace rfp
open sq
open Go tkp trp setp rtp rpp rsp gpp
def TkC (t : Tk) : Prop := t.kind = 10 → 1 ≤ t.n ∧ t.n ≤ 13 ∧ (t.n = 11 → (t.m = 3 ∧ t.mode = 0) ∨ (t.m = 0 ∧ t.name = ⟨#[]⟩)) ∧ (12 ≤ t.n → t.m = 0 ∧ t.name = ⟨#[]⟩ ∧ t.mode = 0)
def GC (f : Nat) (r : G) : Prop := ∀ t b, r = .ok (some t, b) → t.at_ = f ∧ TkC t
theorem gc_err (f : Nat) (e : Int × Int) : GC f (.error e) := fun t b h => by cases h
theorem gc_none (f b : Nat) : GC f (.ok (none, b)) := fun t b h => by cases h
theorem gc_ite {c : Prop} [Decidable c] {f : Nat} {a b : G} (h1 : GC f a) (h2 : GC f b) : GC f (if c then a else b) := by
 split
 ·exact h1
 ·exact h2
theorem gc_tok {t : Tk} (h : TkC t) (f b : Nat) : GC f (gtok t f b) := fun t' b' e => by
 unfold gtok at e;cases e;exact ⟨rfl, h⟩
theorem tc0 {t : Tk} (h : t.kind ≠ 10 ∨ (1 ≤ t.n ∧ t.n ≤ 10) := by first | omega | (dsimp only; omega)) : TkC t := fun e => by
 have h := h.resolve_left (fun c => c e);exact ⟨h.1, by omega, fun c => by omega, fun c => by omega⟩
theorem tc3 {t : Tk} (h : t.n = 11 ∧ t.m = 3 ∧ t.mode = 0) : TkC t := fun _ => ⟨by omega, by omega, fun _ => .inl h.2, fun c => by omega⟩
theorem tcn {t : Tk} (h : t.n = 11 ∧ t.m = 0 ∧ t.name = ⟨#[]⟩) : TkC t := fun _ => ⟨by omega, by omega, fun _ => .inr h.2, fun c => by omega⟩
theorem tcd {t : Tk} (h : (t.n = 12 ∨ t.n = 13) ∧ t.m = 0 ∧ t.name = ⟨#[]⟩ ∧ t.mode = 0) : TkC t := fun _ => ⟨by omega, by omega, fun c => by omega, fun _ => h.2⟩
theorem quotes_q (p : Pt) (a : Nat) : (p.quotes a).1 = 11 ∨ (p.quotes a).1 = 12 := by
 unfold Pt.quotes
 repeat' split
 all_goals simp
theorem quan_gc (p : Pt) (i to_ : Nat) (n m : Int) : GC i (quan p i to_ n m) := gc_tok tc0 _ _
theorem refR_gc (p : Pt) (f i : Nat) : GC f (refR p f i) := by
 have hq := quotes_q p i;unfold refR;simp only
 repeat' (first | exact gc_err _ _ | exact gc_tok tc0 _ _ | refine gc_ite ?_ ?_ | split)
theorem backR_gc (p : Pt) (i to_ : Nat) : ∀ l, GC i (backR p i to_ l)
 | [] => gc_err _ _
 | (o, z) :: l => by
  rw [backR]
  repeat' split
  all_goals first | exact backR_gc p i to_ l | exact gc_tok tc0 _ _
theorem escR_gc (p : Pt) (i : Nat) : GC i (escR p i) := by
 unfold escR;simp only
 repeat' (first | exact gc_err _ _ | exact gc_none _ _ | exact gc_tok tc0 _ _ | exact refR_gc _ _ _ | exact backR_gc _ _ _ _ | refine gc_ite ?_ ?_ | split)
theorem clsR_gc (p : Pt) (f : Nat) : GC f (clsR p f) := by
 unfold clsR;simp only;split
 ·exact gc_err _ _
 ·exact gc_tok tc0 _ _
theorem shutR_gc (p : Pt) {t : Tk} (ht : TkC t) (f i : Nat) (s : List UInt8) (e : Int) : GC f (shutR p t f i s e) := by
 unfold shutR
 repeat' split
 all_goals first | exact gc_err _ _ | exact gc_tok ht _ _
theorem callR_gc (p : Pt) {t : Tk} (ht : t.kind ≠ 10 ∨ (1 ≤ t.n ∧ t.n ≤ 10)) (f i : Nat) (s : List UInt8) : GC f (callR p t f i s) := by
 unfold callR
 repeat' split
 all_goals first | exact gc_err _ _ | exact gc_tok (t := { t with name := p.sub i (p.name i).1 }) (tc0 ht) _ _
theorem flagR_gc (p : Pt) (f : Nat) : ∀ (k i : Nat) (off : Bool) (on of_ : Int), GC f (flagR p f k i off on of_)
 | 0, _, _, _, _ => gc_err _ _
 | k + 1, i, off, on, of_ => by
  rw [flagR]
  repeat' split
  all_goals first | exact gc_err _ _ | exact flagR_gc p f k _ _ _ _ | exact gc_tok tc0 _ _
theorem condE_gc (p : Pt) (f : Nat) {t : Tk} (ht : TkC t) (to_ : Nat) (ok : Bool) : GC f (condE p f t to_ ok) := by
 unfold condE
 repeat' split
 all_goals first | exact gc_err _ _ | exact gc_tok ht _ _
theorem condR_gc (p : Pt) (f i : Nat) : GC f (condR p f i) := by
 unfold condR condN
 repeat' (first | exact gc_err _ _ | exact condE_gc _ _ tc0 _ _ | exact condE_gc _ _ (tc3 ⟨rfl, rfl, rfl⟩) _ _ | exact condE_gc _ _ (tcn ⟨rfl, rfl, rfl⟩) _ _ | exact condE_gc _ _ (tcd ⟨.inl rfl, rfl, rfl, rfl⟩) _ _ | exact gc_tok (tcd ⟨.inr rfl, rfl, rfl, rfl⟩) _ _ | exact gc_tok tc0 _ _ | refine gc_ite ?_ ?_ | split)
theorem verbG_gc (f i : Nat) (word arg : ByteArray) (wth : Bool) : GC f (verbG f i word arg wth) := by
 unfold verbG;split
 ·exact gc_err _ _
 ·exact gc_tok tc0 _ _
theorem verbR_gc (p : Pt) (f : Nat) : GC f (verbR p f) := by
 unfold verbR
 repeat' split
 all_goals first | exact gc_err _ _ | exact verbG_gc _ _ _ _ _
theorem kindR_gc (p : Pt) (f i : Nat) : ∀ (l : List (List UInt8 × Int)) (_ : ∀ q ∈ l, 1 ≤ q.2 ∧ q.2 ≤ 10) (g : G), kindR p f i l = some g → GC f g
 | [], _, g, h => by cases h
 | (s, k) :: l, hl, g, h => by
  rw [kindR] at h;split at h
  ·cases h;have := hl (s, k) (List.mem_cons_self ..);exact gc_tok (tc0 (.inr this)) _ _
  ·exact kindR_gc p f i l (fun q hq => hl q (List.mem_cons_of_mem _ hq)) g h
theorem numR_gc (p : Pt) (f i : Nat) : GC f (numR p f i) := by
 have h1 := shutR_gc p (t := { kind := 12, n := (sgn p i).1, m := (sgn p i).2.1 }) (tc0 (.inl (show (12 : Int) ≠ 10 by decide))) f (sgn p i).2.2.1 [41] 26;unfold numR;simp only;split
 ·exact gc_err _ _
 split
 ·split
  ·exact gc_err _ _
  ·exact gc_err _ _
 split
 ·exact gc_err _ _
 ·rename_i r hr;split
  ·exact gc_err _ _
  ·rw [hr] at h1;exact h1
theorem openK_gc (p : Pt) (f i : Nat) : GC f (openK p f i) := by
 unfold openK
 repeat' (first | exact gc_err _ _ | exact gc_none _ _ | exact condR_gc _ _ _ | exact numR_gc _ _ _ | exact flagR_gc _ _ _ _ _ _ _ | exact shutR_gc _ tc0 _ _ _ _ | exact callR_gc _ (by first | omega | (dsimp only; omega)) _ _ _ | refine gc_ite ?_ ?_ | split)
theorem openR_gc (p : Pt) (f : Nat) : GC f (openR p f) := by
 unfold openR;split
 ·exact verbR_gc _ _
 split
 ·exact gc_tok tc0 _ _
 split
 ·exact gc_err _ _
 split
 ·rename_i g hg;exact kindR_gc p f (f + 2) kindsT (by decide) g hg
 ·exact openK_gc _ _ _
theorem tokR_gc (p : Pt) (i : Nat) : GC i (tokR p i) := by
 unfold tokR;simp only
 repeat' (first | exact gc_err _ _ | exact gc_none _ _ | exact escR_gc _ _ | exact clsR_gc _ _ | exact openR_gc _ _ | exact quan_gc _ _ _ _ _ | exact gc_tok tc0 _ _ | refine gc_ite ?_ ?_ | split)
def TkJ (n : Nat) (t : Tk) : Prop := t.at_ < n ∧ TkC t
theorem lexF_at (p : Pt) : ∀ (k : Nat) (q : Bool) (T : List Tk) (i : Nat) (R : List Tk), (∀ t ∈ T, TkJ p.n t) → lexF p k q T i = .ok R → ∀ t ∈ R, TkJ p.n t
 | 0, _, T, i, R, h2, e => by rw [lexF] at e;cases e;exact h2
 | k + 1, q, T, i, R, h2, e => by
  rw [lexF] at e;have snoc : ∀ x : Tk, TkJ p.n x → ∀ t ∈ T ++ [x], TkJ p.n t := fun x hx t ht => by
   rcases List.mem_append.1 ht with ht | ht
   ·exact h2 t ht
   ·simp only [List.mem_cons, List.not_mem_nil, or_false] at ht;subst ht;exact hx
  split at e
  ·cases e;exact h2
  rename_i hi;split at e
  ·split at e
   ·exact lexF_at p k _ _ _ _ h2 e
   ·exact lexF_at p k _ _ _ _ (snoc (lay { kind := 1, c := (p.char i).1 } i (p.char i).2) ⟨by show i < p.n; omega, fun c => absurd (show (1 : Int) = 10 from c) (by decide)⟩) e
  split at e
  ·exact lexF_at p k _ _ _ _ h2 e
  split at e
  ·cases e
  ·exact lexF_at p k _ _ _ _ h2 e
  ·rename_i t to_ ht;obtain ⟨a, b⟩ := tokR_gc p i t to_ ht;exact lexF_at p k _ _ _ _ (snoc _ ⟨by rw [a]; omega, b⟩) e
theorem rlex_at {g : Nat → Int} {n : Nat} {o : Int} {L : List Tk} (h : rlexP g n o = .ok L) : ∀ t ∈ L, TkJ n t := by
 unfold rlexP at h;split at h
 ·cases h
 split at h
 ·cases h
 split at h
 ·cases h
 exact lexF_at _ _ _ _ _ _ (fun t ht => by cases ht) h
def Bq (a : Int) : Prop := -2000000 ≤ a ∧ a ≤ 2000000
def TkI (n : Nat) (t : Tk) : Prop := TkJ n t ∧ Bq t.n ∧ Bq t.mode
theorem tkI_of {g : Nat → Int} {n : Nat} {o : Int} {L : List Tk} (h : rlexP g n o = .ok L) (hb : ∀ t ∈ L, Bq t.n ∧ Bq t.mode) : ∀ t ∈ L, TkI n t := fun t ht => ⟨rlex_at h t ht, hb t ht⟩
def LabI (n : Nat) (x : Lab) : Prop := (x.kind = 7 ∨ x.kind = 8 ∨ x.kind = 19 → 0 ≤ x.at_ ∧ x.at_ < n ∧ Bq x.n ∧ Bq x.mode) ∧
 (x.kind = 19 → 9 ≤ x.n ∧ x.n ≤ 13 ∧ (x.n = 11 → (x.m = 3 ∧ x.mode = 0) ∨ (x.m = 0 ∧ x.name = ⟨#[]⟩)) ∧ (12 ≤ x.n → x.m = 0 ∧ x.name = ⟨#[]⟩ ∧ x.mode = 0))
def AllI (n : Nat) : F → Prop
 | .nil => True
 | .cons x k r => LabI n x ∧ AllI n k ∧ AllI n r
theorem allI_app {n : Nat} : ∀ {f g : F}, AllI n f → AllI n g → AllI n (F.app f g)
 | .nil, _, _, h => h
 | .cons _ _ _, _, ⟨a, b, c⟩, h => ⟨a, b, allI_app c h⟩
theorem allI_one {n : Nat} {x : Lab} {k : F} (h : LabI n x) (hk : AllI n k) : AllI n (F.one x k) := ⟨h, hk, trivial⟩
theorem labI_j {n : Nat} (K : Int) {x : Lab} (e : x.kind = K := by rfl) (h : K ≠ 7 ∧ K ≠ 8 ∧ K ≠ 19 := by decide) : LabI n x := by subst e;exact ⟨fun c => by omega, fun c => by omega⟩
theorem labI_k {n : Nat} {x : Lab} (h : x.kind ≠ 7 ∧ x.kind ≠ 8 ∧ x.kind ≠ 19) : LabI n x := ⟨fun c => by omega, fun c => by omega⟩
theorem allI_oneF {n : Nat} (K : Int) (hK : K ≠ 7 ∧ K ≠ 8 ∧ K ≠ 19) : ∀ {l : F}, AllI n l → AllI n (oneF K l)
 | .nil, h => ⟨labI_k hK, h, trivial⟩
 | .cons _ _ .nil, h => h
 | .cons _ _ (.cons _ _ _), h => ⟨labI_k hK, h, trivial⟩
theorem leafK_q (k : Int) : leafK k ≠ 19 ∧ (leafK k = 7 → k = 11) ∧ (leafK k = 8 → k = 12) := by
 generalize e : leafK k = q;unfold leafK at e
 repeat' split at e
 all_goals omega
theorem allI_group {n : Nat} {t : Tk} (ht : t.kind = 10 → TkI n t) (h10 : t.kind = 10) {look l : F} (h : AllI n look) (hl : AllI n l) : AllI n (jf t look l) := by
 have a := allI_oneF 13 (by decide) hl;obtain ⟨⟨b, c⟩, d1, d2⟩ := ht h10;obtain ⟨c1, c2, c3, c4⟩ := c h10;unfold jf;split
 ·exact allI_one (labI_j 14) a
 split
 ·exact allI_one (labI_j 15) a
 split
 ·exact allI_one (labI_j 17) a
 split
 ·exact allI_one (labI_j 18) a
 split
 ·exact allI_one (labI_j 16) hl
 ·exact allI_one ⟨fun _ => ⟨by show (0 : Int) ≤ (t.at_ : Int); omega, by show (t.at_ : Int) < (n : Int); omega, d1, d2⟩, fun _ => ⟨by show 9 ≤ t.n; omega, c2, c3, c4⟩⟩ (allI_app h hl)
theorem allI_zero (n : Nat) : AllI n zeroF := ⟨labI_j 0, trivial, trivial⟩
def AccI (n : Nat) : Md → Prop
 | .alt acc => AllI n acc
 | .seq acc => AllI n acc
 | .thing => True
theorem run_allI {n : Nat} {L : List Tk} (hL : ∀ i, (L.getD i zeroT).kind = 0 ∨ TkI n (L.getD i zeroT)) : ∀ (f : Nat) (md : Md) (s : Ps), AccI n md → AllI n (run L f md s).1
 | 0, _, _, _ => trivial
 | f + 1, .alt acc, s, h => by
  have a := run_allI hL f (.seq .nil) s trivial;have b : AccI n (.alt (F.app acc (run L f (.seq .nil) s).1)) := allI_app h a;rw [run];simp only;split
  ·exact run_allI hL f _ _ b
  ·exact b
 | f + 1, .seq acc, s, h => by
  have a := run_allI hL f .thing s trivial;rw [run];split
  ·exact allI_oneF 12 (by decide) h
  split
  ·exact allI_zero n
  simp only;split
  ·exact run_allI hL f _ _ (allI_app h (allI_one (labI_j 20) a))
  ·exact run_allI hL f _ _ (allI_app h a)
 | f + 1, .thing, s, _ => by
  rw [run];simp only;have hT := hL s.i;split
  ·obtain ⟨q1, q2, q3⟩ := leafK_q (L.getD s.i zeroT).kind;refine allI_one ⟨fun c => ?_, fun c => absurd (show leafK _ = 19 from c) q1⟩ trivial;have c : leafK (L.getD s.i zeroT).kind = 7 ∨ leafK (L.getD s.i zeroT).kind = 8 ∨ leafK (L.getD s.i zeroT).kind = 19 := c;rcases hT with hT | hT
   ·omega
   ·have := hT.1.1;exact ⟨by show (0 : Int) ≤ ((L.getD s.i zeroT).at_ : Int); omega, by show ((L.getD s.i zeroT).at_ : Int) < (n : Int); omega, hT.2.1, by show Bq 0; unfold Bq; omega⟩
  rename_i h10;have h10 := Decidable.not_not.1 h10;split
  ·exact allI_zero n
  obtain ⟨q, hq⟩ : ∃ q, (if (L.getD s.i zeroT).n = 13 ∧ kindS L { s with i := s.i + 1, op := s.op + 1 } = 10 then run L f .thing { s with i := s.i + 1, op := s.op + 1 } else (.nil, { s with i := s.i + 1, op := s.op + 1 })) = q := ⟨_, rfl⟩;have hq1 : AllI n q.1 := by
   rw [← hq];split
   ·exact run_allI hL f .thing _ trivial
   ·exact trivial
  rw [hq];split
  ·exact allI_zero n
  ·exact allI_group (fun _ => hT.resolve_left (by omega)) h10 hq1 (run_allI hL f (.alt .nil) _ trivial)
theorem parse_allI {k : Nat} {L : List Tk} {n : Int} (hL : ∀ t ∈ L, TkI k t) {q : F} (h : parseP L n = .ok q) : AllI k q := by
 have hL : ∀ i, (L.getD i zeroT).kind = 0 ∨ TkI k (L.getD i zeroT) := fun i => by
  rw [List.getD];cases c : L[i]? with
  | none => exact .inl rfl
  | some t => exact .inr (hL t (List.mem_of_getElem? c))
 unfold parseP at h;simp only at h;have e : oneF 13 (run L (3 * L.length + 3) (.alt .nil) { i := 0 }).1 = q := by generalize (if (run L (3 * L.length + 3) (.alt .nil) { i := 0 }).2.e = 0 ∧ (run L (3 * L.length + 3) (.alt .nil) { i := 0 }).2.i < L.length then failS (run L (3 * L.length + 3) (.alt .nil) { i := 0 }).2 31 (L.getD (run L (3 * L.length + 3) (.alt .nil) { i := 0 }).2.i zeroT).at_ else (run L (3 * L.length + 3) (.alt .nil) { i := 0 }).2) = z at h;exact z113
 rw [← e];exact allI_oneF 13 (by decide) (run_allI hL _ (.alt .nil) _ trivial)
theorem strip_allI {n : Nat} : ∀ {f : F}, AllI n f → AllI n (strip f)
 | .nil, h => h
 | .cons _ _ _, ⟨a, b, c⟩ => ⟨a, strip_allI b, strip_allI c⟩
theorem listF_allI {n : Nat} {x : Lab} {k : F} (h : LabI n x) (hk : AllI n k) : AllI n (listF x k) := by
 unfold listF;split
 ·exact hk
 ·exact allI_one h hk
theorem flatF_allI {n : Nat} : ∀ {f : F}, AllI n f → AllI n (flatF f)
 | .nil, h => h
 | .cons _ _ _, ⟨a, b, c⟩ => allI_app (listF_allI a b) (flatF_allI c)
theorem firstF_allI {n : Nat} : ∀ {f : F}, AllI n f → AllI n (firstF f)
 | .nil, h => h
 | .cons _ _ _, ⟨a, b, _⟩ => allI_one a b
theorem setL_allI (n : Nat) (a : Int) (l : List Rg) : AllI n (setL a l) := allI_one (labI_j 2) trivial
theorem nodeP_allI {n : Nat} (u : Bool) (m : Int) (rk : Int → F × Int) (hr : ∀ f, AllI n (rk f).1) (x : Lab) (k : F) (f : Int) (hx : LabI n x) (hk : AllI n k) : AllI n (nodeP u m rk x k f).1 := by
 unfold nodeP;split
 ·exact setL_allI _ _ _
 split
 ·exact setL_allI _ _ _
 split
 ·exact setL_allI _ _ _
 split
 ·rename_i h4;exact allI_one (labI_k (show x.kind ≠ 7 ∧ x.kind ≠ 8 ∧ x.kind ≠ 19 by omega)) (strip_allI hk)
 split
 ·exact allI_one (labI_j 17) (allI_one (labI_j 13) (allI_app (allI_one (labI_j 12) (allI_app (setL_allI _ _ _) (setL_allI _ _ _))) (setL_allI _ _ _)))
 split
 ·exact allI_one ⟨hx.1, hx.2⟩ (strip_allI hk)
 split
 ·exact allI_one (labI_j 12) trivial
 split
 ·exact allI_oneF 12 (by decide) (flatF_allI (hr f))
 split
 ·exact allI_one ⟨hx.1, hx.2⟩ (hr f)
 split
 ·exact firstF_allI (hr _)
 ·have : x.kind ≠ 20 → repM f x.kind x.mode = x.mode := fun c => by unfold repM;rw [if_neg (fun q => by omega), if_neg (fun q => by omega)]
  refine allI_one ⟨fun c => ?_, fun c => ?_⟩ (hr f)
  ·have c : x.kind = 7 ∨ x.kind = 8 ∨ x.kind = 19 := c;show _ ∧ _ ∧ _ ∧ Bq (repM f x.kind x.mode);rw [this (by omega)];exact hx.1 c
  ·have c : x.kind = 19 := c;show 9 ≤ x.n ∧ x.n ≤ 13 ∧ (x.n = 11 → (x.m = 3 ∧ repM f x.kind x.mode = 0) ∨ _) ∧ (_ → _ ∧ _ ∧ repM f x.kind x.mode = 0);rw [this (by omega)];exact hx.2 c
theorem rowP_allI {n : Nat} (u : Bool) (m : Int) : ∀ (l : F) (f : Int), AllI n l → AllI n (rowP u m l f).1
 | .nil, _, _ => trivial
 | .cons x k r, f, ⟨a, b, c⟩ => by rw [rowP];exact allI_app (nodeP_allI u m _ (fun g => rowP_allI u m k g b) x k f a b) (rowP_allI u m r _ c)
theorem resP_allI {n : Nat} (t : Nd) (o : Int) (h : AllI n (F.one t.1 t.2)) : AllI n (resP t o) := by unfold resP;exact nodeP_allI _ _ _ (fun g => rowP_allI _ _ t.2 g h.2.1) t.1 t.2 _ h.1 h.2.1
theorem refF_allI {n : Nat} : ∀ (l : F) (rs : Bool) (last most : Int), AllI n l → AllI n (refF rs last l most).1
 | .nil, _, _, _, _ => trivial
 | .cons x k r, rs, last, most, ⟨a, b, c⟩ => by
  rw [refF];refine ⟨?_, refF_allI k _ _ _ b, refF_allI r _ _ _ c⟩;by_cases h : x.kind = 14
  ·rw [if_pos h];exact labI_k (show x.kind ≠ 7 ∧ x.kind ≠ 8 ∧ x.kind ≠ 19 by omega)
  ·rw [if_neg h];exact a
theorem allI_ok {n : Nat} : ∀ {f : F}, AllI n f → LabsOk f
 | .nil, _ => trivial
 | .cons x _ _, ⟨a, b, c⟩ => ⟨fun h e => ((a.2 h).2.2.1 e).imp (fun q => ⟨q.1, by rw [q.2]; decide⟩) id, allI_ok b, allI_ok c⟩
theorem cap_in : ∀ (l : F) (rs : Bool) (last most : Int), 0 ≤ last → last ≤ most → ∀ x ∈ capL (refF rs last l most).1, 1 ≤ x.n ∧ x.n ≤ (refF rs last l most).2
 | .nil, _, _, _, _, _, x, hx => by cases hx
 | .cons y k r, rs, last, most, h0, h1, x, hx => by
  rw [refF] at hx ⊢;simp only at hx ⊢;generalize ha : (if rs = true then last else most) = a at *;have ha0 : 0 ≤ a ∧ a ≤ most := by rw [← ha]; split <;> omega
  generalize hb : (if y.kind = 14 then a + 1 else a) = b at *;have hb0 : 0 ≤ b ∧ a ≤ b := by rw [← hb]; split <;> omega
  have g1 := cap_in k (decide (y.kind = 16)) b b hb0.1 (Int.le_refl _);have gl := ref_le k (decide (y.kind = 16)) b b;generalize refF (decide (y.kind = 16)) b k b = q at *;have g2 := cap_in r rs last (if most < q.2 then q.2 else most) h0 (by split <;> omega);have g3 := ref_le r rs last (if most < q.2 then q.2 else most);have g4 : q.2 ≤ (if most < q.2 then q.2 else most) := by split <;> omega
  generalize refF rs last r (if most < q.2 then q.2 else most) = t at *;rw [capL, List.mem_append, List.mem_append] at hx;rcases hx with (hx | hx) | hx
  ·by_cases c : y.kind = 14
   ·rw [if_pos c] at hx hb;rw [if_pos (show ({ y with n := a + 1 } : Lab).kind = 14 from c)] at hx;simp only [List.mem_cons, List.not_mem_nil, or_false] at hx;subst hx;show 1 ≤ a + 1 ∧ a + 1 ≤ t.2;omega
   ·rw [if_neg c, if_neg c] at hx;cases hx
  ·have := g1 x hx;omega
  ·exact g2 x hx
theorem nameR_mem : ∀ (c : List Lab) (l : Nm) (s : ByteArray) (k : Int), (s, k) ∈ (nameR l c).2 → (s, k) ∈ l ∨ ∃ x ∈ c, x.n = k
 | [], _, _, _, h => .inl h
 | x :: c, l, s, k, h => by
  have ha : (s, k) ∈ (addR x l).2 → (s, k) ∈ l ∨ x.n = k := fun h => by
   unfold addR at h;split at h
   ·exact .inl h
   split at h
   ·exact .inl h
   split at h
   ·exact .inl h
   split at h
   ·exact .inl h
   ·rw [List.mem_append] at h;rcases h with h | h
    ·exact .inl h
    ·simp only [List.mem_cons, List.not_mem_nil, or_false, Prod.mk.injEq] at h;exact .inr h.2.symm
  rw [nameR] at h;split at h
  ·exact .inl h
  ·rcases nameR_mem c _ s k h with h | ⟨y, hy, e⟩
   ·rcases ha h with h | h
    ·exact .inl h
    ·exact .inr ⟨x, List.mem_cons_self .., h⟩
   ·exact .inr ⟨y, List.mem_cons_of_mem _ hy, e⟩
theorem nm_ok (x : Lab) (k : F) : NmOk (refF false 0 (.cons x k .nil) 0).2 (nameR [] (capL (refF false 0 (.cons x k .nil) 0).1)).2 := by
 refine ⟨ref_le _ _ _ _, fun s => ?_⟩;unfold nameN;cases h : List.find? (fun q => decide (q.1 = s)) (nameR [] (capL (refF false 0 (.cons x k .nil) 0).1)).2 with
 | none => exact .inl rfl
 | some q =>
  obtain ⟨a, b⟩ := q;rcases nameR_mem _ _ _ _ (List.mem_of_find?_eq_some h) with c | ⟨y, hy, e⟩
  ·cases c
  ·have := cap_in _ false 0 0 (Int.le_refl _) (Int.le_refl _) y hy;rw [e] at this;exact .inr this
theorem inn_iff {cnt k least : Int} : inn cnt k least = true ↔ least ≤ k ∧ k ≤ cnt := by unfold inn;rw [Bool.and_eq_true, decide_eq_true_eq, decide_eq_true_eq]
end rfp
end
section
namespace rfw
open sq
open Go.Sort Go Go.RowKit Go.Maps setp setw tkp trp trw rpp gpp rfp sq
open gqw (NmI9 nm_blw9 name_n9)
structure RS (w0 : World) (G : Nat) (cnt : Int) (v : Value) (cur : Int) (w : World) : Prop where
 be : Below w0.heap.size w0 w
 g : w.heap[G]? = some (.cells #[.int .i64 cnt, v, .int .i64 cur] 72 (0, 0))
 hg : w0.heap.size ≤ G
theorem RS.lt {w0 w : World} {G : Nat} {cnt cur : Int} {v : Value} (R : RS w0 G cnt v cur w) : G < w.heap.size := (Array.getElem?_eq_some_iff.1 R.g).1
theorem RS.keep {w0 w w' : World} {G : Nat} {cnt cur : Int} {v : Value} (R : RS w0 G cnt v cur w) (hb : Below w.heap.size w w') : RS w0 G cnt v cur w' := ⟨R.be.trans (hb.mono R.be.size), (hb.block G R.lt).trans R.g, R.hg⟩
theorem RS.c {w0 w : World} {G : Nat} {cnt cur : Int} {v : Value} (R : RS w0 G cnt v cur w) : w.cell? ⟨G, 0, none⟩ = some (.int .i64 cnt) ∧ w.cell? ⟨G, 1, none⟩ = some v ∧ w.cell? ⟨G, 2, none⟩ = some (.int .i64 cur) ∧ w.frozen? ⟨G, 2, none⟩ = false := by have := R.g;refine ⟨?_, ?_, ?_, ?_⟩ <;> simp [World.cell?, World.frozen?, this]
theorem nameN_cons (q : ByteArray × Int) (l : Nm) (s : ByteArray) : nameN (q :: l) s = if q.1 = s then q.2 else nameN l s := by
 unfold nameN;rw [List.find?_cons];by_cases h : q.1 = s
 ·rw [if_pos h];simp [h]
 ·rw [if_neg h];simp [h]
theorem numOf_any {w0 w : World} {G : Nat} {cnt cur : Int} {v : Value} {l : Nm} (R : RS w0 G cnt v cur w) (hn : NmI9 w0 v l) (s : ByteArray) : Calls Try.prog 127 #[.pointer (some ⟨G, 0, none⟩), .string s] w (trw.IntB (nameN l s) w) := by
 obtain ⟨_, c1, _, _⟩ := R.c;have HN := xH (nm_blw9 hn R.be);obtain ⟨a, q, rfl, hl, _⟩ := hn;have hl5 : (l.length : Int) ≤ 9223372036854775807 := by omega
 obtain ⟨r, hr⟩ : ∃ r, nameN l s = r := ⟨_, rfl⟩;rw [hr];have HR := xH hr;clear R hr;go_enter Try.func127, Try.ntmps127;go_wp2_with fail
 go_loopw [12] (fun vi wr => ∃ i : Nat, vi = .int .i64 i ∧ i ≤ l.length ∧ Hid (nameN (l.drop i) s = r) ∧ Hid (Below w.heap.size w wr)) (fun vi _ => l.length - (intOf vi).toNat)
 case atStart => exact ⟨0, rfl, Nat.zero_le _, HR, xH (Below.refl _ _)⟩
 case round =>
  obtain ⟨i, rfl, hi, HD, HB⟩ := hrel;by_cases hlt : i < l.length
  ·obtain ⟨p, hp⟩ : ∃ p, l[i]? = some p := ⟨_, List.getElem?_eq_getElem hlt⟩;obtain ⟨na', nc', hs', _, hcs⟩ := HN.out;cases hs';obtain ⟨gb, rfl, hcz⟩ := hcs.resolve_left (fun e => by rw [e] at hlt; exact absurd hlt (Nat.not_lt_zero _));have n0 := trw.qf HB.out (hcz i p hp).1;have n1 := trw.qf HB.out (hcz i p hp).2;have hi5 : i < 9223372036854775807 := by omega
   have i1 : (i : Int) < (l.length : Int) := by omega
   have HDD := xH (show (if p.1 = s then p.2 else nameN (l.drop (i + 1)) s) = r from by
    rw [← HD.out, List.drop_eq_getElem_cons hlt, nameN_cons];have : l[i] = p := by simpa [List.getElem?_eq_getElem hlt] using hp
    rw [this])
   clear hcs hcz hp;by_cases heq : p.1 = s
   ·have beq : (p.1.toList == s.toList) = true := by rw [heq]; exact beq_self_eq_true _
    have HE := xH (show p.2 = r from by have := HDD.out; rw [if_pos heq] at this; exact this);have HBA := xH (HB.out.trans ((Below.refl wr.heap.size wr).alloc (xL _) (.cells #[.string p.1, .int .i64 p.2] 67) |>.mono HB.out.size));clear heq;go_wp2_with fail
    go_ret
    exact ⟨by rw [← HE.out]; rfl, HBA.out⟩
   ·have beq := name_n9 heq;have HE := xH (show nameN (l.drop (i + 1)) s = r from by have := HDD.out; rw [if_neg heq] at this; exact this);have HBA := xH (HB.out.trans ((Below.refl wr.heap.size wr).alloc (xL _) (.cells #[.string p.1, .int .i64 p.2] 67) |>.mono HB.out.size));clear heq;go_wp2_with fail
    go_roundw
    case rel => exact ⟨i + 1, by go_num, by omega, HE, HBA⟩
    case measure => simp [intOf]; omega
  ·have HE := xH (show r = -1 from by rw [← HD.out, List.drop_eq_nil_of_le (by omega)]; rfl);have hd : decide (i < l.length) = false := by simpa using hlt
   clear hlt;go_wp2_with fail
   go_ret
   exact ⟨by rw [HE.out]; rfl, HB.out⟩
theorem within_any {w0 w : World} {G : Nat} {cnt cur : Int} {v : Value} (R : RS w0 G cnt v cur w) (k least : Int) : Calls Try.prog 111 #[.pointer (some ⟨G, 0, none⟩), .int .i64 k, .int .i64 least] w (trw.BoolB (inn cnt k least) w) := by
 obtain ⟨c0, _, _, _⟩ := R.c;obtain ⟨b, hb⟩ : ∃ b, inn cnt k least = b := ⟨_, rfl⟩;rw [hb];unfold inn at hb;have HB := xH hb;clear R hb;by_cases h1 : least ≤ k
 ·have HB2 := xH (show decide (k ≤ cnt) = b from by have := HB.out; rw [decide_eq_true h1, Bool.true_and] at this; exact this);go_enter Try.func111, Try.ntmps111;go_wp2_with fail
  go_ret
  exact ⟨by rw [← HB2.out]; rfl, Below.refl _ _⟩
 ·have HB2 := xH (show false = b from by have := HB.out; rw [decide_eq_false h1, Bool.false_and] at this; exact this);go_enter Try.func111, Try.ntmps111;go_wp2_with fail
  go_ret
  exact ⟨by rw [← HB2.out]; rfl, Below.refl _ _⟩
theorem target_any {w0 w : World} {G : Nat} {cnt cur : Int} {v : Value} {l : Nm} (R : RS w0 G cnt v cur w) (hn : NmI9 w0 v l) (m k : Int) (s : ByteArray) (hk : Bq k) (hc : 0 ≤ cur ∧ cur ≤ 1000000) : Calls Try.prog 112 #[.pointer (some ⟨G, 0, none⟩), .int .i64 m, .int .i64 k, .string s] w (trw.IntB (target l cur m k s) w) := by
 obtain ⟨_, _, c2, _⟩ := R.c;have HR := xH R;have HN := xH hn;obtain ⟨t, ht⟩ : ∃ t, target l cur m k s = t := ⟨_, rfl⟩;rw [ht];unfold target at ht;have HT := xH ht;unfold Bq at hk;clear R hn ht;by_cases m1 : m = 1
 ·have b1 : (m == 1) = true := by simp [m1]
  have HT2 := xH (show cur - k + 1 = t from by have := HT.out; rw [if_pos m1] at this; exact this);clear m1;exact z137
 have b1 : (m == 1) = false := by simp [m1]
 by_cases m2 : m = 2
 ·have b2 : (m == 2) = true := by simp [m2]
  have HT2 := xH (show cur + k = t from by have := HT.out; rw [if_neg m1, if_pos m2] at this; exact this);clear m1 m2;exact z137
 have b2 : (m == 2) = false := by simp [m2]
 by_cases m3 : m = 3
 ·have b3 : (m == 3) = true := by simp [m3]
  have HT2 := xH (show nameN l s = t from by have := HT.out; rw [if_neg m1, if_neg m2, if_pos m3] at this; exact this);have HC := xH (numOf_any HR.out HN.out s);rw [HT2.out] at HC;clear m1 m2 m3;go_enter Try.func112, Try.ntmps112;go_wp2_with fail
  refine HC.out.mono ?_;rintro e w2 ⟨rfl, hb⟩;have HB := xH hb;clear hb;go_wp2_with fail
  go_ret
  exact ⟨rfl, HB.out⟩
 ·have b3 : (m == 3) = false := by simp [m3]
  have HT2 := xH (show k = t from by have := HT.out; rw [if_neg m1, if_neg m2, if_neg m3] at this; exact this);clear m1 m2 m3;exact z137
end rfw
end
section
namespace rfw
open sq
open Go.Sort Go Go.RowKit Go.Maps setp setw tkp trp trw rpp gpp rfp sq
open gqw (NmI9)
def At (w : World) (b o : Nat) (A Z : List Value) (x : Lab) : Prop := w.heap[b]? = some (.cells (A ++ ndC x ++ Z).toArray 27 (0, 0)) ∧ A.length = o
theorem At.cell {w : World} {b o : Nat} {A Z : List Value} {x : Lab} (h : At w b o A Z x) {j : Nat} {u : Value} (hj : (ndC x)[j]? = some u) : w.cell? ⟨b, o + j, none⟩ = some u := by obtain ⟨h1, rfl⟩ := h;have hl := (List.getElem?_eq_some_iff.1 hj).1;unfold World.cell?;rw [h1];simp only [List.getElem?_toArray];rw [List.append_assoc, List.getElem?_append_right (by omega), List.getElem?_append_left (by omega), Nat.add_sub_cancel_left];exact hj
theorem At.free {w : World} {b o : Nat} {A Z : List Value} {x : Lab} (h : At w b o A Z x) (j : Nat) : w.frozen? ⟨b, j, none⟩ = false := by unfold World.frozen?;rw [h.1];simp
theorem At.set {w : World} {b o : Nat} {A Z : List Value} {x y : Lab} (h : At w b o A Z x) {j : Nat} {u : Value} (hj : j < 12) (hs : (ndC x).set j u = ndC y) : At (w.setCell ⟨b, o + j, none⟩ u) b o A Z y := by obtain ⟨h1, rfl⟩ := h;refine ⟨?_, rfl⟩;rw [tkw.heap_set h1, List.setIfInBounds_toArray, List.append_assoc, List.set_append_right _ _ (by omega), List.set_append_left _ _ (by rw [Nat.add_sub_cancel_left]; exact hj), Nat.add_sub_cancel_left, hs, List.append_assoc]
theorem At.keep {w w' : World} {b o : Nat} {A Z : List Value} {x : Lab} (h : At w b o A Z x) (hb : w'.heap[b]? = w.heap[b]?) : At w' b o A Z x := ⟨hb.trans h.1, h.2⟩
theorem At.lt {w : World} {b o : Nat} {A Z : List Value} {x : Lab} (h : At w b o A Z x) : b < w.heap.size := (Array.getElem?_eq_some_iff.1 h.1).1
def Tn (H b : Nat) (w w' : World) : Prop := gpw.Chg H b 0 0 w w'
theorem Tn.of {H b : Nat} {w w' : World} (h : Below w.heap.size w w') (hH : H ≤ w.heap.size) : Tn H b w w' := gpw.Chg.of_below h hH
theorem Tn.cell {H b : Nat} (w : World) (o : Nat) (u : Value) : Tn H b w (w.setCell ⟨b, o, none⟩ u) := gpw.Chg.cell w b o u (Or.inl rfl)
theorem Tn.trans {H b : Nat} {x y z : World} (h : Tn H b x y) (k : Tn H b y z) : Tn H b x z := gpw.Chg.trans h k
theorem RS.cell {w0 w : World} {G b : Nat} {cnt cur : Int} {v : Value} (R : RS w0 G cnt v cur w) (h0 : w0.heap.size ≤ b) (hb : b ≠ G) (o : Nat) (u : Value) : RS w0 G cnt v cur (w.setCell ⟨b, o, none⟩ u) :=
 ⟨⟨R.be.os, R.be.tape, R.be.output, by have := R.be.size; simpa [World.setCell] using this, fun j hj => (heap_setCell_other w _ j u (by show j ≠ b; omega)).trans (R.be.block j hj)⟩, (heap_setCell_other w _ G u (fun e => hb e.symm)).trans R.g, R.hg⟩
def SetB (w0 : World) (H G b o : Nat) (cnt : Int) (v : Value) (cur : Int) (A Z : List Value) (y : Lab) (r : Bool) (w : World) (e : Ending) (w' : World) : Prop :=
 e = .returned (.bool r) ∧ At w' b o A Z y ∧ RS w0 G cnt v cur w' ∧ Tn H b w w'
theorem settle_any {w0 w : World} {H G b o q : Nat} {cnt cur k t : Int} {v : Value} {l : Nm} {A Z : List Value} {x y1 : Lab} (R : RS w0 G cnt v cur w) (hn : NmI9 w0 v l) (hA : At w b o A Z x) (hbH : b < H) (hG : H ≤ G) (h0 : w0.heap.size ≤ b) (hH : H ≤ w.heap.size) (hc : 0 ≤ cur ∧ cur ≤ 1000000)
 (hq : q < 12) (hk : (ndC x)[q]? = some (.int .i64 k)) (hkb : Bq k) (ht : target l cur x.m k x.name = t) (hs : (ndC x).set q (.int .i64 t) = ndC y1) (hnm : y1.name = x.name) (hm : y1.m = x.m) (hq3 : (ndC { y1 with m := 0, name := ⟨#[]⟩ })[q]? = some (.int .i64 t)) (least : Int) :
 Calls Try.prog 81 #[.pointer (some ⟨G, 0, none⟩), .pointer (some ⟨b, o, none⟩), .pointer (some ⟨b, o + q, none⟩), .int .i64 least] w (SetB w0 H G b o cnt v cur A Z { y1 with m := 0, name := ⟨#[]⟩ } (inn cnt t least) w) := by
 have c6 := hA.cell (j := 6) rfl;have c8 := hA.cell (j := 8) rfl;have cq := hA.cell hk;have HR := xH R;have HA := xH hA;have HN := xH hn;have HS := xH hs;have HQ := xH hq;have HK := xH hk;have HQ3 := xH hq3;have HT := xH (fun w1 (R1 : RS w0 G cnt v cur w1) => ht ▸ target_any R1 hn x.m k x.name hkb hc);have HH := xH hH;clear R hA hn hs hk hq hq3 hH ht;go_enter Try.func81, Try.ntmps81;go_upto_region 1 with (fail)
 refine wp_region_held_drew (S := fun w' => w'.cell? ⟨b, o + 6, none⟩ = some (.int .i64 x.m) ∧ w'.cell? ⟨b, o + 8, none⟩ = some (.string x.name)) (by kernel_rfl) ⟨c6, c8⟩ (fun hHeld => ?_);refine yT 0 ?_;simp only [xS];refine yT 1 ?_;simp only [xS];refine yT 2 ?_;simp only [xS];refine yT 3 ?_;simp only [xS];refine yT 4 ?_;simp only [xS];refine yF 5 (fun w' hS => hS.1) ?_;simp only [xS];refine yT 6 ?_;simp only [xS];refine yT 7 ?_;simp only [xS];refine yT 9 ?_;simp only [xS];refine yT 10 ?_;simp only [xS];refine yT 11 ?_;simp only [xS];refine yF 12 (fun w' hS => hS.2) ?_;simp only [xS];refine xD 8 rfl (fun K hK => ?_);have cd : w.drew.cell? ⟨b, o + q, none⟩ = some (.int .i64 k) := cq;go_simp;refine hK.out _ _ hHeld (fun hHeld => ?_);clear hK K;try simp only [xS]
 have HD := xH (show Below w.heap.size w w.drew from trw.qL w);have HR1 := xH (HR.out.keep HD.out);have HA1 := xH (HA.out.keep (w' := w.drew) rfl);clear c6 c8 cq cd;generalize w.drew = w1 at *;have HT1 := xH (HT.out w1 HR1.out);refine xD 13 rfl (fun K hK => ?_);go_simp;refine HT1.out.mono ?_;rintro e w2 ⟨rfl, hb2⟩;have HB2 := xH (trw.qi HD.out hb2);have HR2 := xH (HR1.out.keep hb2);have HA2 := xH (HA1.out.keep (hb2.block b HA1.out.lt));have HX := xH (show w2.cell? ⟨b, o + 6, none⟩ = some (.int .i64 x.m) ∧ w2.cell? ⟨b, o + 8, none⟩ = some (.string x.name) from ⟨HA2.out.cell (j := 6) rfl, HA2.out.cell (j := 8) rfl⟩);clear hb2 HR1 HA1 HT1 HT HD;dsimp only;refine hK.out _ _ HX.out (fun hHeld => ?_);clear hK K;try simp only [xS]
 refine yT 14 ?_;simp only [xS];refine xD 15 rfl (fun K hK => ?_);have fq := HA2.out.free (o + q);have cq := HA2.out.cell HK.out;have HA3 := xH (HA2.out.set HQ.out HS.out);have HR3 := xH (HR2.out.cell h0 (show b ≠ G by omega) (o + q) (.int .i64 t));have HT3 := xH ((Tn.of HB2.out HH.out).trans (Tn.cell (b := b) w2 (o + q) (.int .i64 t)));have HX3 := xH (show (w2.setCell ⟨b, o + q, none⟩ (.int .i64 t)).cell? ⟨b, o + 6, none⟩ = some (.int .i64 x.m) ∧ (w2.setCell ⟨b, o + q, none⟩ (.int .i64 t)).cell? ⟨b, o + 8, none⟩ = some (.string x.name) from ⟨hm ▸ HA3.out.cell (j := 6) rfl, hnm ▸ HA3.out.cell (j := 8) rfl⟩);go_simp;refine hK.out _ _ HX3.out (fun hHeld => ?_);clear hK K;try simp only [xS]
 refine wpAnyH_done (by kernel_rfl) ?_ _;clear fq cq HA2 HR2 HB2 HX HX3;generalize w2.setCell _ _ = w3 at *;have f6 := HA3.out.free (o + 6);have f8 := HA3.out.free (o + 8);have c6 := HA3.out.cell (j := 6) rfl;have c8 := HA3.out.cell (j := 8) rfl;have HA5 := xH (((HA3.out.set (y := { y1 with m := 0 }) (j := 6) (u := .int .i64 0) (by decide) rfl).set (y := { y1 with m := 0, name := ⟨#[]⟩ }) (j := 8) (u := .string ⟨#[]⟩) (by decide) rfl));have HR5 := xH ((HR3.out.cell h0 (show b ≠ G by omega) (o + 6) (.int .i64 0)).cell h0 (show b ≠ G by omega) (o + 8) (.string ⟨#[]⟩));have HT5 := xH ((HT3.out.trans (Tn.cell (b := b) w3 (o + 6) (.int .i64 0))).trans (Tn.cell (b := b) _ (o + 8) (.string ⟨#[]⟩)));go_upto_region 3 with (fail)
 generalize (w3.setCell _ _).setCell _ _ = w5 at *;have HW5 := xH (within_any HR5.out t least);have cq := HA5.out.cell HQ3.out;clear f6 f8 c6 c8 HA3 HR3 HT3;go_wp2_with fail
 refine HW5.out.mono ?_;rintro e w6 ⟨rfl, hb⟩;have HA6 := xH (HA5.out.keep (hb.block b HA5.out.lt));have HR6 := xH (HR5.out.keep hb);have HT6 := xH (HT5.out.trans (Tn.of hb (by have := HT5.out.size; have := HH.out; omega)));clear hb;go_wp2_with fail
 go_ret
 exact ⟨rfl, HA6.out, HR6.out, HT6.out⟩
theorem RS.cur {w0 w : World} {G : Nat} {cnt cur : Int} {v : Value} (R : RS w0 G cnt v cur w) (c : Int) : RS w0 G cnt v c (w.setCell ⟨G, 2, none⟩ (.int .i64 c)) :=
 ⟨⟨R.be.os, R.be.tape, R.be.output, by have := R.be.size; simpa [World.setCell] using this, fun j hj => (heap_setCell_other w _ j _ (by show j ≠ G; have := R.hg; omega)).trans (R.be.block j hj)⟩, by rw [tkw.heap_set R.g]; rfl, R.hg⟩
theorem Tn.g {H G b : Nat} (w : World) (o : Nat) (u : Value) (h : H ≤ G) : Tn H b w (w.setCell ⟨G, o, none⟩ u) := gpw.Chg.cell w G o u (Or.inr h)
theorem cond_any {w0 w : World} {H G b o : Nat} {cnt cur : Int} {v : Value} {l : Nm} {A Z : List Value} {x : Lab} (R : RS w0 G cnt v cur w) (hn : NmI9 w0 v l) (hA : At w b o A Z x) (hbH : b < H) (hG : H ≤ G) (h0 : w0.heap.size ≤ b) (hH : H ≤ w.heap.size) (hc : 0 ≤ cur ∧ cur ≤ 1000000)
 (hk : x.kind = 19) (hmode : Bq x.mode) :
 Calls Try.prog 80 #[.pointer (some ⟨G, 0, none⟩), .pointer (some ⟨b, o, none⟩)] w (SetB w0 H G b o cnt v cur A Z (stepP cnt l x cur).2.1 (stepP cnt l x cur).1 w) := by
 have c5 := hA.cell (j := 5) rfl;have c6 := hA.cell (j := 6) rfl;have c7 := hA.cell (j := 7) rfl;have HR := xH R;have HA := xH hA;obtain ⟨S, hS⟩ : ∃ S, stepP cnt l x cur = S := ⟨_, rfl⟩;rw [hS];unfold stepP at hS;rw [if_neg (by omega), if_pos hk] at hS;by_cases n10 : x.n = 10
 ·have b10 : (x.n == 10) = true := by simp [n10]
  rw [if_pos n10] at hS;have f5 := hA.free (o + 5);have f6 := hA.free (o + 6);have HA2 := xH ((hA.set (y := { x with n := 9 }) (j := 5) (u := .int .i64 9) (by decide) rfl).set (y := { x with n := 9, m := 3 }) (j := 6) (u := .int .i64 3) (by decide) rfl);have HR2 := xH ((R.cell h0 (show b ≠ G by omega) (o + 5) (.int .i64 9)).cell h0 (show b ≠ G by omega) (o + 6) (.int .i64 3));have HT2 := xH ((Tn.cell (H := H) (b := b) w (o + 5) (.int .i64 9)).trans (Tn.cell (b := b) _ (o + 6) (.int .i64 3)));have HSE := xH (fun w2 (R2 : RS w0 G cnt v cur w2) (hA2 : At w2 b o A Z { x with n := 9, m := 3 }) (hH2 : H ≤ w2.heap.size) => settle_any (q := 7) (y1 := { x with n := 9, m := 3, mode := target l cur 3 x.mode x.name }) R2 hn hA2 hbH hG h0 hH2 hc (by decide) rfl hmode rfl rfl rfl rfl rfl 1);have HS := xH hS;have HH := xH hH;clear R hA hS n10 hH;go_enter Try.func80, Try.ntmps80;go_upto_region 6 with (fail)
  have HZ2 := xH (show H ≤ ((w.setCell ⟨b, o + 5, none⟩ (.int .i64 9)).setCell ⟨b, o + 6, none⟩ (.int .i64 3)).heap.size by have := HH.out; simpa [World.setCell] using this);generalize (w.setCell _ _).setCell _ _ = w2 at *;have HC := xH (HSE.out w2 HR2.out HA2.out HZ2.out);clear c5 c6 c7 f5 f6;go_wp2_with fail
  refine HC.out.mono ?_;rintro e w3 ⟨rfl, ha, hr, ht⟩;have HAR := xH (show At w3 b o A Z S.2.1 ∧ RS w0 G cnt v cur w3 ∧ Tn H b w w3 from ⟨by rw [← HS.out]; exact ha, hr, HT2.out.trans ht⟩);clear ha hr ht;go_wp2_with fail
  go_ret
  exact ⟨by rw [← HS.out]; rfl, HAR.out⟩
 have b10 : (x.n == 10) = false := by simp [n10]
 rw [if_neg n10] at hS;have HSE := xH (settle_any (q := 7) (y1 := { x with mode := target l cur x.m x.mode x.name }) R hn hA hbH hG h0 hH hc (by decide) rfl hmode rfl rfl rfl rfl rfl 1);by_cases n9 : x.n = 9
 ·have b9 : (x.n == 9) = true := by simp [n9]
  rw [if_pos n9] at hS;have HS := xH hS;clear R hA hS n10 n9;exact z49
 have b9 : (x.n == 9) = false := by simp [n9]
 rw [if_neg n9] at hS;by_cases n11 : x.n = 11
 ·have b11 : (x.n == 11) = true := by simp [n11]
  rw [if_pos n11] at hS;by_cases m3 : x.m = 3
  ·have b3 : (x.m == 3) = true := by simp [m3]
   rw [if_pos m3] at hS;have HS := xH (show (inn cnt (target l cur x.m x.mode x.name) 1, ({ x with mode := target l cur x.m x.mode x.name, m := 0, name := ⟨#[]⟩ } : Lab), cur) = S by rw [m3]; exact hS);clear R hA hS n10 n9 n11 m3;exact z49
  ·have b3 : (x.m == 3) = false := by simp [m3]
   rw [if_neg m3] at hS;have HS := xH hS;have HW := xH (within_any R x.mode 0);have HT0 := xH (Tn.of (H := H) (b := b) (Below.refl w.heap.size w) hH);have HTB := xH (fun w2 (hb : Below w.heap.size w w2) => (⟨hA.keep (hb.block b hA.lt), R.keep hb, Tn.of hb hH⟩ : At w2 b o A Z x ∧ RS w0 G cnt v cur w2 ∧ Tn H b w w2));clear R hA hS n10 n9 n11 m3 HSE;by_cases md : x.mode = -1
   ·have bm : (x.mode == -1) = true := by simp [md]
    have HS2 := xH (show true = S.1 ∧ x = S.2.1 from by rw [← HS.out]; exact ⟨by simp [md], rfl⟩);clear md;go_enter Try.func80, Try.ntmps80;go_wp2_with fail
    go_ret
    exact ⟨by rw [← HS2.out.1]; rfl, by rw [← HS2.out.2]; exact HA.out, HR.out, HT0.out⟩
   ·have bm : (x.mode == -1) = false := by simp [md]
    have HS2 := xH (show inn cnt x.mode 0 = S.1 ∧ x = S.2.1 from by rw [← HS.out]; exact ⟨by simp [md], rfl⟩);clear md;go_enter Try.func80, Try.ntmps80;go_wp2_with fail
    refine HW.out.mono ?_;rintro e w3 ⟨rfl, hb⟩;have H3 := xH (HTB.out w3 hb);clear hb;go_wp2_with fail
    go_ret
    exact ⟨by rw [← HS2.out.1]; rfl, by rw [← HS2.out.2]; exact H3.out.1, H3.out.2.1, H3.out.2.2⟩
 ·have b11 : (x.n == 11) = false := by simp [n11]
  rw [if_neg n11] at hS;have HS := xH hS;have HT0 := xH (Tn.of (H := H) (b := b) (Below.refl w.heap.size w) hH);clear R hA hS n10 n9 n11 HSE;go_enter Try.func80, Try.ntmps80;go_wp2_with fail
  go_ret
  exact ⟨by rw [← HS.out]; rfl, by rw [← HS.out]; exact HA.out, HR.out, HT0.out⟩
theorem node_any {w0 w : World} {H G b o : Nat} {cnt cur : Int} {v : Value} {l : Nm} {A Z : List Value} {x : Lab} (R : RS w0 G cnt v cur w) (hn : NmI9 w0 v l) (hA : At w b o A Z x) (hbH : b < H) (hG : H ≤ G) (h0 : w0.heap.size ≤ b) (hH : H ≤ w.heap.size) (hc : 0 ≤ cur ∧ cur ≤ 1000000)
 (hb2 : x.kind = 7 ∨ x.kind = 8 ∨ x.kind = 19 → Bq x.n ∧ Bq x.mode) :
 Calls Try.prog 55 #[.pointer (some ⟨G, 0, none⟩), .pointer (some ⟨b, o, none⟩)] w (SetB w0 H G b o cnt v (stepP cnt l x cur).2.2 A Z (stepP cnt l x cur).2.1 (stepP cnt l x cur).1 w) := by
 have c0 : w.cell? ⟨b, o, none⟩ = some (.int .i64 x.kind) := hA.cell (j := 0) rfl;have c5 := hA.cell (j := 5) rfl;have HA := xH hA;by_cases k19 : x.kind = 19
 ·have HC := xH (cond_any R hn hA hbH hG h0 hH hc k19 (hb2 (.inr (.inr k19))).2);have h3 : (stepP cnt l x cur).2.2 = cur := by
   unfold stepP;rw [if_neg (by omega), if_pos k19]
   repeat' split
   all_goals rfl
  rw [h3];have b14 : (x.kind == 14) = false := by simp [k19]
  have b19 : (x.kind == 19) = true := by simp [k19]
  generalize stepP cnt l x cur = S at *;clear R hA k19 h3;go_enter Try.func55, Try.ntmps55;go_wp2_with fail
  refine HC.out.mono ?_;rintro e w3 ⟨rfl, h⟩;have HAR := xH h;clear h;go_wp2_with fail
  go_ret
  exact ⟨rfl, HAR.out⟩
 have b19 : (x.kind == 19) = false := by simp [k19]
 obtain ⟨S, hS⟩ : ∃ S, stepP cnt l x cur = S := ⟨_, rfl⟩;rw [hS];unfold stepP at hS;by_cases k14 : x.kind = 14
 ·have b14 : (x.kind == 14) = true := by simp [k14]
  rw [if_pos k14] at hS;have HS := xH hS;obtain ⟨_, _, g2, z2⟩ := R.c;have HR2 := xH (R.cur x.n);have HA2 := xH (hA.keep (heap_setCell_other w ⟨G, 2, none⟩ b (.int .i64 x.n) (show b ≠ G by omega)));have HT2 := xH (Tn.g (b := b) w 2 (.int .i64 x.n) hG);clear R hA hS k14 k19;go_enter Try.func55, Try.ntmps55;go_wp2_with fail
  go_ret
  exact ⟨by rw [← HS.out]; rfl, by rw [← HS.out]; exact HA2.out, by rw [← HS.out]; exact HR2.out, HT2.out⟩
 have b14 : (x.kind == 14) = false := by simp [k14]
 rw [if_neg k14, if_neg k19] at hS;by_cases k8 : x.kind = 8
 ·have b8 : (x.kind == 8) = true := by simp [k8]
  rw [if_pos (.inr k8), if_pos k8] at hS;have HS := xH hS;have HSE := xH (settle_any (q := 5) (y1 := { x with n := target l cur x.m x.n x.name }) R hn hA hbH hG h0 hH hc (by decide) rfl (hb2 (.inr (.inl k8))).1 rfl rfl rfl rfl rfl 0);clear R hA hS k14 k19 k8;exact z46
 have b8 : (x.kind == 8) = false := by simp [k8]
 by_cases k7 : x.kind = 7
 ·have b7 : (x.kind == 7) = true := by simp [k7]
  rw [if_pos (.inl k7), if_neg k8] at hS;have HS := xH hS;have HSE := xH (settle_any (q := 5) (y1 := { x with n := target l cur x.m x.n x.name }) R hn hA hbH hG h0 hH hc (by decide) rfl (hb2 (.inl k7)).1 rfl rfl rfl rfl rfl 1);clear R hA hS k14 k19 k8 k7;exact z46
 ·have b7 : (x.kind == 7) = false := by simp [k7]
  rw [if_neg (fun e => e.elim k7 k8)] at hS;have HS := xH hS;have HT0 := xH (Tn.of (H := H) (b := b) (Below.refl w.heap.size w) hH);have HR := xH R;clear R hA hS k14 k19 k8 k7;go_enter Try.func55, Try.ntmps55;go_wp2_with fail
  go_ret
  exact ⟨by rw [← HS.out]; rfl, by rw [← HS.out]; exact HA.out, by rw [← HS.out]; exact HR.out, HT0.out⟩
end rfw
end
end Go.Proofs.Ytdgfclbajjjcgaa
