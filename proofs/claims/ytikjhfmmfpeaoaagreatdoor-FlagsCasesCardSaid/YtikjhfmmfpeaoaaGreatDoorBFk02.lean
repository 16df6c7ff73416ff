/- T -/
import Derived.Laws.BytesArg
import Derived.Test.YtikjhfmmfpeaoaaGreatDoorRows
import Derived.Test.YtikjhfmmfpeaoaaGreatDoorBFk01
set_option maxHeartbeats 16000000
set_option maxRecDepth 1000000
section
namespace Go.Proofs.YtikjhfmmfpeaoaaGreatDoor.setp
open sq
open ucdp
def closedB (c : Int) (u : Bool) : Bool := (jy c u).all fun d => (jy d u).all fun e => e == c || (jy c u).contains e
theorem closed_all : ((List.range 1104).all fun i => closedB (i : Int) true && closedB (i : Int) false) = true := by decide +kernel
theorem others_closed {c d e : Int} {u : Bool} (h1 : d ∈ jy c u) (h2 : e ∈ jy d u) : e = c ∨ e ∈ jy c u := by have h := others_all (P := closedB) closed_all (by decide +kernel) (by decide +kernel) (c := c) (u := u) (List.ne_nil_of_mem h1);have := List.all_eq_true.1 (List.all_eq_true.1 h d h1) e h2;simpa using this
end Go.Proofs.YtikjhfmmfpeaoaaGreatDoor.setp
end
section
namespace Go.Proofs.YtikjhfmmfpeaoaaGreatDoor.ext
open sq
open Go utfp ucdp tkp trp setp setw rtp rpp fgp rsp
def RawC : F → Prop
 | .nil => True
 | .cons x k r => (x.kind ≠ 3 ∧ x.kind ≠ 6) ∧ (x.kind = 2 → x.neg = false) ∧ x.off = 0 ∧ RawC k ∧ RawC r
theorem c_app : ∀ {f g : F}, RawC f → RawC g → RawC (F.app f g)
 | .nil, _, _, h => h
 | .cons _ _ _, _, h, h2 => ⟨h.1, h.2.1, h.2.2.1, h.2.2.2.1, c_app h.2.2.2.2 h2⟩
theorem c_lab {x : Lab} {k : F} (K : Int) (e : x.kind = K) (h : K ≠ 3 ∧ K ≠ 6 ∧ K ≠ 2) (o : x.off = 0) (hk : RawC k) : RawC (F.one x k) := by subst e;exact ⟨⟨h.1, h.2.1⟩, fun c => absurd c h.2.2, o, hk, trivial⟩
theorem c_one (K : Int) (h : K ≠ 3 ∧ K ≠ 6 ∧ K ≠ 2) {l : F} (hl : RawC l) : RawC (oneF K l) := by
 have p : RawC (.cons (lab K 0) l .nil) := c_lab K rfl h rfl hl
 match l, hl with
 | .nil, _ => exact p
 | .cons x k .nil, hl => exact hl
 | .cons x k (.cons y q r), hl => exact p
theorem c_leaf {t : Tk} (h : TkC t) : RawC (F.one (leafL t nil3) .nil) := by
 have q := leafK_in t.kind;have := h.k;refine ⟨⟨?_, ?_⟩, fun c => h.n ?_, h.o, trivial, trivial⟩
 ·show leafK t.kind ≠ 3;omega
 ·show leafK t.kind ≠ 6;omega
 ·have : leafK t.kind = 2 := c;omega
theorem c_zero : RawC zeroF := c_lab 0 rfl (by decide) rfl trivial
theorem c_group {t : Tk} (h : TkC t) {look l : F} (hk : RawC look) (hl : RawC l) : RawC (jf t look l) := by
 have a := c_one 13 (by decide) hl;unfold jf;split
 ·exact c_lab 14 rfl (by decide) rfl a
 split
 ·exact c_lab 15 rfl (by decide) h.o a
 split
 ·exact c_lab 17 rfl (by decide) rfl a
 split
 ·exact c_lab 18 rfl (by decide) rfl a
 split
 ·exact c_lab 16 rfl (by decide) rfl hl
 ·exact c_lab 19 rfl (by decide) rfl (c_app hk hl)
def AccC : Md → Prop
 | .alt acc => RawC acc
 | .seq acc => RawC acc
 | .thing => True
theorem run_c {L : List Tk} (hL : ∀ i, TkC (L.getD i zeroT)) : ∀ (n : Nat) (md : Md) (s : Ps), AccC md → RawC (run L n md s).1
 | 0, _, _, _ => trivial
 | n + 1, .alt acc, s, h => by
  have b : AccC (.alt (F.app acc (run L n (.seq .nil) s).1)) := c_app h (run_c hL n (.seq .nil) s trivial);rw [run];simp only;split
  ·exact run_c hL n _ _ b
  ·exact b
 | n + 1, .seq acc, s, h => by
  have a := run_c hL n .thing s trivial;rw [run];split
  ·exact c_one 12 (by decide) h
  split
  ·exact c_zero
  simp only;split
  ·exact run_c hL n (.seq _) _ (c_app h (c_lab 20 rfl (by decide) rfl a))
  ·exact run_c hL n (.seq _) _ (c_app h a)
 | n + 1, .thing, s, _ => by
  rw [run];simp only;split
  ·exact c_leaf (hL _)
  split
  ·exact c_zero
  obtain ⟨q, hq⟩ : ∃ q, (if (L.getD s.i zeroT).n = 13 ∧ kindS L { s with i := s.i + 1, op := s.op + 1 } = 10 then run L n .thing { s with i := s.i + 1, op := s.op + 1 } else (.nil, { s with i := s.i + 1, op := s.op + 1 })) = q := ⟨_, rfl⟩;have hq1 : RawC q.1 := by
   rw [← hq];split
   ·exact run_c hL n .thing _ trivial
   ·exact trivial
  rw [hq];split
  ·exact c_zero
  ·exact c_group (hL _) hq1 (run_c hL n (.alt .nil) _ trivial)
theorem raw_c {g : Nat → Int} {n : Nat} {o : Int} {T : List Tk} {m : Int} {q : F} (hb : ∀ i, i < n → 0 ≤ g i ∧ g i ≠ 94 ∧ g i ≠ 45 ∧ g i ≠ 46 ∧ g i ≠ 92) (e : rlexP g n o = .ok T) (e2 : parseP T m = .ok q) : RawC q := by
 have hT : ∀ t ∈ T, TkC t := by
  unfold rlexP at e;split at e
  ·cases e
  split at e
  ·cases e
  split at e
  ·cases e
  exact lexF_c (p := { g := g, n := n, u := o.toNat.testBit 5, x := o.toNat.testBit 3 }) hb _ _ _ _ _ (fun t ht => by cases ht) e
 have hL : ∀ i, TkC (T.getD i zeroT) := fun i => by
  rw [List.getD];cases c : T[i]? with
  | none => exact ⟨(by decide : (0 : Int) ≠ 3 ∧ (0 : Int) ≠ 6), fun h => absurd (show (0 : Int) = 2 from h) (by decide), rfl⟩
  | some t => exact hT t (List.mem_of_getElem? c)
 rw [(parse_run e2).2.2];exact c_one 13 (by decide) (run_c hL _ (.alt .nil) _ trivial)
def CloF : F → Prop
 | .nil => True
 | .cons x k r => (x.kind = 2 → Canon x.set ∧ ∀ c d, Has x.set d → c ∈ jy d true → Has x.set c) ∧ CloF k ∧ CloF r
theorem clo_app : ∀ {f g : F}, CloF f → CloF g → CloF (F.app f g)
 | .nil, _, _, h => h
 | .cons _ _ _, _, h, h2 => ⟨h.1, h.2.1, clo_app h.2.2 h2⟩
theorem clo_12 {l : F} (hl : CloF l) : CloF (oneF 12 l) := by
 have p : CloF (.cons (lab 12 0) l .nil) := ⟨fun c => absurd (show (12 : Int) = 2 from c) (by decide), hl, trivial⟩
 match l, hl with
 | .nil, _ => exact p
 | .cons x k .nil, hl => exact hl
 | .cons x k (.cons y q r), hl => exact p
theorem set_closed (hc : ∀ (l : List Rg), Canon l → ∀ c, (Has (caseM l true) c ∧ 0 ≤ c ∧ c ≤ min 1114111 1114111) ↔ Has l c ∨ ∃ d, Has l d ∧ c ∈ jy d true) (l : List Rg) :
 Canon (setP true 1114111 l true false) ∧ ∀ c d, Has (setP true 1114111 l true false) d → c ∈ jy d true → Has (setP true 1114111 l true false) c := by
 have e : setP true 1114111 l true false = normR 1114111 (caseM (normR 1114111 l) true) := rfl;have hm : (1114111 : Int) ≤ 1114111 := Int.le_refl _;have k := hc (normR 1114111 l) (ja hm l);rw [e];refine ⟨ja hm _, fun c d h hd => ?_⟩;obtain ⟨a, b⟩ := (normR_has hm _ d).1 h;have q : Has (normR 1114111 l) c ∨ ∃ d, Has (normR 1114111 l) d ∧ c ∈ jy d true := by
  rcases (k d).1 ⟨a, b.1, by omega⟩ with a | ⟨f, a, b⟩
  ·exact .inr ⟨d, a, hd⟩
  ·rcases others_closed b hd with h | h
   ·exact .inl (h ▸ a)
   ·exact .inr ⟨f, a, h⟩
 have z := (k c).2 q;exact (normR_has hm _ c).2 ⟨z.1, z.2.1, by omega⟩
theorem and_bit (f : Int) : andI f 1 ≠ 0 ↔ (B f).getLsbD 0 = true := by
 have e : (BitVec.ofInt 64 f &&& BitVec.ofInt 64 1).toNat = (B f).toNat % 2 := by rw [BitVec.toNat_and];exact Nat.and_one_is_mod _
 have t : andI f 1 = IntKind.i64.wrap (((B f).toNat % 2 : Nat) : Int) := by rw [← e]; rfl
 have b : (B f).getLsbD 0 = decide ((B f).toNat % 2 = 1) := by show (B f).toNat.testBit 0 = _;rw [Nat.testBit_zero]
 rw [t, b];rcases Nat.mod_two_eq_zero_or_one (B f).toNat with c | c <;> rw [c] <;> decide
theorem keep_bit {f on off : Int} (h : andI f 1 ≠ 0) (ho : off = 0) : andI (turnI f on off) 1 ≠ 0 := by
 subst ho;rw [and_bit] at h ⊢;unfold turnI;rw [B_not, B_or, BitVec.getLsbD_and, BitVec.getLsbD_or, h, BitVec.getLsbD_not];have z : (B 0).getLsbD 0 = false := by decide
 rw [z];rfl
theorem clo_own (hc : ∀ (l : List Rg), Canon l → ∀ c, (Has (caseM l true) c ∧ 0 ≤ c ∧ c ≤ min 1114111 1114111) ↔ Has l c ∨ ∃ d, Has l d ∧ c ∈ jy d true) {x : Lab} {k : F} {f : Int} (h : andI f 1 ≠ 0) (hx : x.kind ≠ 3 ∧ x.kind ≠ 6) (hn : x.kind = 2 → x.neg = false) (hk : CloF k) : CloF (ownF true 1114111 x k f) := by
 unfold ownF;rw [decide_eq_true h];by_cases c1 : x.kind = 1
 ·rw [if_pos c1];exact ⟨fun _ => set_closed hc _, hk, trivial⟩
 rw [if_neg c1];by_cases c2 : x.kind = 2
 ·rw [if_pos c2, hn c2];exact ⟨fun _ => set_closed hc _, hk, trivial⟩
 rw [if_neg c2, if_neg hx.1];by_cases c4 : x.kind = 4
 ·rw [if_pos c4];exact ⟨fun c => absurd c c2, hk, trivial⟩
 rw [if_neg c4, if_neg hx.2];by_cases c7 : x.kind = 7
 ·rw [if_pos c7];exact ⟨fun c => absurd c c2, hk, trivial⟩
 rw [if_neg c7];exact ⟨fun c => absurd c c2, hk, trivial⟩
theorem clo_both (hc : ∀ (l : List Rg), Canon l → ∀ c, (Has (caseM l true) c ∧ 0 ≤ c ∧ c ≤ min 1114111 1114111) ↔ Has l c ∨ ∃ d, Has l d ∧ c ∈ jy d true) : ∀ (l : F) (f : Int), RawC l → andI f 1 ≠ 0 → CloF (bothP true 1114111 l f).1.1 ∧ CloF (bothP true 1114111 l f).2 ∧ andI (bothP true 1114111 l f).1.2 1 ≠ 0
 | .nil, _, _, h => ⟨trivial, trivial, h⟩
 | .cons x k r, f, hl, h => by
  obtain ⟨hx, hn, ho, hk, hr⟩ := hl;have t : CloF (putP true 1114111 (fun g => (bothP true 1114111 k g).1) (fun g => (bothP true 1114111 k g).2) x f).1 ∧ andI (putP true 1114111 (fun g => (bothP true 1114111 k g).1) (fun g => (bothP true 1114111 k g).2) x f).2 1 ≠ 0 := by
   unfold putP;split
   ·exact ⟨trivial, keep_bit h ho⟩
   split
   ·exact ⟨(clo_both hc k f hk h).1, (clo_both hc k f hk h).2.2⟩
   split
   ·exact ⟨(clo_both hc k _ hk (keep_bit h ho)).1, h⟩
   ·exact ⟨clo_own hc h hx hn (clo_both hc k f hk h).2.1, h⟩
  obtain ⟨a, b, c⟩ := clo_both hc r _ hr t.2;rw [bothP];exact ⟨clo_app t.1 a, clo_app (clo_12 t.1) b, c⟩
theorem clo_answer (hc : ∀ (l : List Rg), Canon l → ∀ c, (Has (caseM l true) c ∧ 0 ≤ c ∧ c ≤ min 1114111 1114111) ↔ Has l c ∨ ∃ d, Has l d ∧ c ∈ jy d true) (t : Nd) (h : RawC (.cons t.1 t.2 .nil)) : CloF (answerP t 33) := by
 have a := (clo_both hc (.cons t.1 t.2 .nil) 33 h (by decide)).2.1;have e : answerP t 33 = (bothP true 1114111 (.cons t.1 t.2 .nil) 33).2 := by rw [bothP];simp only [bothP, app_nil];rfl
 rw [e];exact a
end Go.Proofs.YtikjhfmmfpeaoaaGreatDoor.ext
end
section
namespace Go.Proofs.YtikjhfmmfpeaoaaGreatDoor.fll
open sq
open Go Go.RowKit Go.Maps utfw tkp trp trw rpp rsp rtp setw setp fgp fkw
open rpw (sees jB qh ql qp jm)
open ucdw (Tab3)
open ucdp (jy)
open tkw (sg)
open ext (CloF clo_answer raw_c RawC)
theorem clo_drop8 : ∀ {k : F} {i : Nat} {x : Lab} {j r : F}, k.drop i = .cons x j r → CloF k → CloF (F.one x j)
 | .nil, 0, _, _, _, h, _ => by cases h
 | .nil, i + 1, _, _, _, h, _ => by cases h
 | .cons y q t, 0, _, _, _, h, hc => by cases h;exact ⟨hc.1, hc.2.1, trivial⟩
 | .cons y q t, i + 1, _, _, _, h, hc => clo_drop8 (k := t) (i := i) h hc.2.2
theorem clo_strip8 : ∀ {f : F}, CloF (strip f) → CloF f
 | .nil, _ => trivial
 | .cons _x _k _r, h => ⟨h.1, clo_strip8 h.2.1, clo_strip8 h.2.2⟩
theorem rg_rs8 {w : World} {v : Value} {l : List Rg} (h : RgAt w v l) : RsAt w v l := rsw.rg_rs (h := fun _ => false) (trw.rgAt_mono (fun _ _ hc => jB.2 ⟨rfl, hc⟩) h)
theorem clo_same {S Q : List Rg} (hS : Canon S) (hc : ∀ c d, Has S d → c ∈ jy d true → Has S c) (hQ : Canon Q) (h : ∀ c, Has Q c ↔ Has S c ∨ ∃ d, Has S d ∧ c ∈ jy d true) : Q = S :=
 canon_ext hQ hS fun c => by
  rw [h];constructor
  ·rintro (a | ⟨d, a, b⟩)
   ·exact a
   ·exact hc c d a b
  ·exact Or.inl
theorem full_any : ∀ (z : Nat) (w : World) (x : Lab) (k : F) (_hz : k.size < z) (_hn : NdAt w (x, k)) (_hc : CloF (F.one x k)) (_hl : k.size ≤ 100000), Calls Tryz.prog 16 #[ndV x] w (trw.BoolB true w) := by
 intro z
 induction z with
 | zero => exact fun w x k hz => absurd hz (Nat.not_lt_zero _)
 | succ z ih =>
 intro w x k hz hn hc hl;have IH := xH (@ih);clear ih;have HX := xH hc.1;have HK := xH hc.2.1;have HB := xH (trw.qg w (.cells (ndC x).toArray 27));have HG := xH (heap_alloc_new w (.cells (ndC x).toArray 27));have HN := xH hn;have HZ := xH hz;have hlen : k.len ≤ 100000 := by have := rsp.len_size k; omega
 obtain ⟨ka, kc, hkv⟩ := kids_len hn.2.2;have HKV := xH hkv;have HRS := xH (rg_rs8 hn.2.1);clear hc hn hz hkv;unfold ndC at HB HG;unfold ndV;go_enter Tryz.func16, Tryz.ntmps16;go_upto_region 1 with (fail)
 generalize w.alloc _ = w1 at *;have HRS1 := xH (jl HRS.out HB.out);have c0 : w1.cell? ⟨w.heap.size, 0, none⟩ = some (.int .i64 x.kind) := by unfold World.cell?; rw [HG.out]; rfl
 have c3 : w1.cell? ⟨w.heap.size, 3, none⟩ = some x.sv := by unfold World.cell?; rw [HG.out]; rfl
 have c11 : w1.cell? ⟨w.heap.size, 11, none⟩ = some (.slice ka k.len kc) := by unfold World.cell?; rw [HG.out]; show some x.kv = _; rw [HKV.out]
 go_cut [16] (fun v16 wx => v16 = .bool false ∧ Hid (Below w1.heap.size w1 wx))
 case first =>
  by_cases h2 : x.kind = 2
  ·have b2 : (x.kind == 2) = true := by simpa using h2
   have HQ := xH (HX.out h2);have hlS := rsw.canon_half HQ.out.1;clear h2;go_wp2_with fail
   refine wp_region_held_drew (S := fun w' => Below w1.heap.size w1 w') (by kernel_rfl) (trw.qL w1) (fun hHeld => ?_);refine xT 0 rfl ?_ ?_ ?_;rotate_left
   ·intro w' hSw;go_simp;try rfl
   simp only [xS];refine xT 1 rfl ?_ ?_ ?_;rotate_left
   ·intro w' hSw;have q0 := trw.qf hSw c0;go_simp;try rfl
   simp only [xS];refine xT 2 rfl ?_ ?_ ?_;rotate_left
   ·intro w' hSw;go_simp;try rfl
   simp only [xS];refine xT 3 rfl ?_ ?_ ?_;rotate_left
   ·intro w' hSw;go_simp;try rfl
   simp only [xS];refine xT 4 rfl ?_ ?_ ?_;rotate_left
   ·intro w' hSw;go_simp;try rfl
   simp only [xS];refine xT 5 rfl ?_ ?_ ?_;rotate_left
   ·intro w' hSw;have q0 := trw.qf hSw c3;go_simp;try rfl
   simp only [xS];refine xT 7 rfl ?_ ?_ ?_;rotate_left
   ·intro w' hSw;go_simp;try rfl
   simp only [xS];refine xT 8 rfl ?_ ?_ ?_;rotate_left
   ·intro w' hSw;have q0 := trw.qf hSw c3;go_simp;try rfl
   simp only [xS];refine xD 6 rfl (fun K hK => ?_);go_simp;refine (rcase_any x.sv x.set true _ (jl HRS1.out hHeld) HQ.out.1.2 (by omega)).mono ?_;rintro e w2 ⟨v2, Q, rfl, hQ, hh, ho, hb⟩;have HB2 := xH (trw.qi hHeld hb);have HO2 := xH (fk_rs ho hQ);have HE := xH (clo_same HQ.out.1 HQ.out.2 hQ hh);have hlQ := rsw.canon_half hQ;clear hQ hh ho hb;try dsimp only
   refine hK.out _ _ HB2.out (fun hHeld => ?_);clear hK K;try simp only [xS]
   refine xD 9 rfl (fun K hK => ?_);go_simp;refine (rsame_any v2 x.sv Q x.set w2 HO2.out (jl HRS1.out HB2.out) (by omega) (by omega)).mono ?_;rintro e w3 ⟨rfl, q, rfl⟩;have HB3 := xH (show Below w1.heap.size w1 (w2.drewN q) from ⟨HB2.out.os, HB2.out.tape, HB2.out.output, HB2.out.size, HB2.out.block⟩);have HE2 := xH (show decide (Q = x.set) = true by simpa using HE.out);rw [HE2.out];try dsimp only
   refine hK.out _ _ HB3.out (fun hHeld => ?_);clear hK K;try simp only [xS]
   refine xT 10 rfl ?_ ?_ ?_;rotate_left
   ·intro w' hSw;go_simp;try rfl
   simp only [xS];refine xT 11 rfl ?_ ?_ ?_;rotate_left
   ·intro w' hSw;go_simp;try rfl
   simp only [xS];refine wpAnyH_done (by kernel_rfl) ?_ _;go_wp2_with fail
   go_meet
   exact ⟨rfl, HB3⟩
  ·have b2 : (x.kind == 2) = false := by simpa using h2
   clear h2;go_wp2_with fail
   refine wp_region_held_drew (S := fun w' => Below w1.heap.size w1 w') (by kernel_rfl) (trw.qL w1) (fun hHeld => ?_);refine xT 0 rfl ?_ ?_ ?_;rotate_left
   ·intro w' hSw;go_simp;try rfl
   simp only [xS];refine xT 1 rfl ?_ ?_ ?_;rotate_left
   ·intro w' hSw;have q0 := trw.qf hSw c0;go_simp;try rfl
   simp only [xS];refine xT 2 rfl ?_ ?_ ?_;rotate_left
   ·intro w' hSw;go_simp;try rfl
   simp only [xS];refine xT 3 rfl ?_ ?_ ?_;rotate_left
   ·intro w' hSw;go_simp;try rfl
   simp only [xS];refine wpAnyH_take (i := 4) (v := undef) rfl (by kernel_rfl) (by kernel_rfl) (by kernel_rfl) (fun _ _ _ h => h) (Or.inr ⟨by rfl, rfl⟩) (by assumption) ?_;simp only [xS];refine wpAnyH_take (i := 5) (v := undef) rfl (by kernel_rfl) (by kernel_rfl) (by kernel_rfl) (fun _ _ _ h => h) (Or.inr ⟨by rfl, rfl⟩) (by assumption) ?_;simp only [xS];refine wpAnyH_take (i := 6) (v := undef) rfl (by kernel_rfl) (by kernel_rfl) (by kernel_rfl) (fun _ _ _ h => h) (Or.inr ⟨by rfl, rfl⟩) (by assumption) ?_;simp only [xS];refine wpAnyH_take (i := 7) (v := undef) rfl (by kernel_rfl) (by kernel_rfl) (by kernel_rfl) (fun _ _ _ h => h) (Or.inr ⟨by rfl, rfl⟩) (by assumption) ?_;simp only [xS];refine wpAnyH_take (i := 8) (v := undef) rfl (by kernel_rfl) (by kernel_rfl) (by kernel_rfl) (fun _ _ _ h => h) (Or.inr ⟨by rfl, rfl⟩) (by assumption) ?_;simp only [xS];refine wpAnyH_take (i := 9) (v := undef) rfl (by kernel_rfl) (by kernel_rfl) (by kernel_rfl) (fun _ _ _ h => h) (Or.inr ⟨by rfl, rfl⟩) (by assumption) ?_;simp only [xS];refine wpAnyH_take (i := 10) (v := undef) rfl (by kernel_rfl) (by kernel_rfl) (by kernel_rfl) (fun _ _ _ h => h) (Or.inr ⟨by rfl, rfl⟩) (by assumption) ?_;simp only [xS];refine xT 11 rfl ?_ ?_ ?_;rotate_left
   ·intro w' hSw;go_simp;try rfl
   simp only [xS];refine wpAnyH_done (by kernel_rfl) ?_ _;go_wp2_with fail
   go_meet
   exact ⟨rfl, xH hHeld⟩
 case rest =>
  obtain ⟨rfl, hB⟩ := hcut;have HBC := xH hB.out;clear hB;have c11' := trw.qf HBC.out c11;have HB := xH (trw.qi HB.out HBC.out);clear c0 c3 c11 HBC;have c11 := c11';clear c11';generalize wc = w1 at *;go_upto_region 3 with (fail)
  go_wp2_with fail
  go_loopw [3] (fun v3 wr => ∃ i : Nat, v3 = .int .i64 i ∧ i ≤ k.len ∧ Hid (Below w1.heap.size w1 wr)) (fun v3 _ => k.len - (intOf v3).toNat)
  case atStart => exact ⟨0, rfl, Nat.zero_le _, xH (Below.refl _ _)⟩
  case round =>
   obtain ⟨i, rfl, hi, hB⟩ := hrel;have HBR := xH hB.out;have d11 := trw.qf HBR.out c11;clear hB;by_cases hlt : i < k.len
   ·obtain ⟨x', kk, r, hd⟩ := drop_lt hlt;obtain ⟨bb, o, cap', hv, _, _, hil, hfa⟩ := kid_at HN.out.2.2 hd;rw [HKV.out] at hv;cases hv;have HBW := xH (trw.qi HB.out HBR.out);have HE := xH (fun j v hj => trw.qf HBW.out (hfa.1 j v hj));have HIH := xH (IH.out wr x' kk (by have := size_lt hd; have := HZ.out; omega) (kidsNd (fAt_head hfa) HBW.out) (clo_drop8 hd HK.out) (by have := size_lt hd; omega));have a1 := add_row bb o i 12;clear hd hfa;have i1 : (i : Int) < (k.len : Int) := by omega
    go_wp2_with (refine jv rfl _ rfl bb (o + i * 12) rfl x' HE.out ?_)
    refine HIH.out.mono ?_;rintro e w3 ⟨rfl, hb⟩;have HB3 := xH (trw.qi HBR.out hb);clear hb HIH;try dsimp only
    go_wp2_with fail
    have hi1 : i + 1 ≤ k.len := by omega
    refine ⟨⟨i + 1, ?_, hi1, HB3⟩, ?_⟩
    ·rfl
    ·simp only [intOf];omega
   ·have hge : ¬ ((i : Int) < (k.len : Int)) := by omega
    clear hlt;go_wp2_with fail
    go_ret
    exact ⟨rfl, trw.qi HB.out HBR.out⟩
end Go.Proofs.YtikjhfmmfpeaoaaGreatDoor.fll
end
section
namespace Go.Proofs.YtikjhfmmfpeaoaaGreatDoor.fll
open sq
open Go Go.RowKit Go.Maps utfw tkp trp trw rpp rsp rtp setw setp fgp fkw
open rpw (sees jB qh ql qp jm)
open ucdw (Tab3)
open ucdp (jy)
open tkw (sg)
open ext (CloF clo_answer raw_c RawC)
theorem ans_clo8 {g : Nat → Int} {n : Nat} {t : F} (hg : ∀ i, 0 ≤ g i ∧ g i ≤ 255) (hb : ∀ i, i < n → g i ≠ 94 ∧ g i ≠ 45 ∧ g i ≠ 46 ∧ g i ≠ 92) (ht : rawP (sg (strOf n g)) n 32 = some t) {z : Lab} {q : F} (hs : strip (F.one z q) = ansP t 33) : CloF (F.one z q) := by
 obtain ⟨-, -, -, x, k, rfl⟩ := rawP_ok ht;refine clo_strip8 ?_;rw [hs];refine clo_answer (fun l hl c => caseM_has hl.2 c) (x, k) ?_;unfold rawP at ht;cases hl : rlexP (sg (strOf n g)) n 32 with
 | error e => rw [hl] at ht; cases ht
 | ok T =>
  rw [hl] at ht;cases hp : parseP T n with
  | error e => simp only [hp] at ht; cases ht
  | ok f =>
   simp only [hp] at ht;cases ht;refine raw_c (fun i hi => ?_) hl hp;rw [rtw.sg_str hg hi];have := hb i hi;exact ⟨(hg i).1, this.1, this.2.1, this.2.2.1, this.2.2.2⟩
theorem cases_law8 (v : Value) (n : Nat) (g : Nat → Int) (w : World) (hT : Tab3 w) (hv : Sl w v n g) : Calls Tryz.prog 7 #[v] w (trw.BoolB true w) := by
 have LA := xH (awake_any8 w hT);have HT := xH hT;have HV := xH hv;have hgb := hv.1;have HGB := xH hgb;have hn := hv.2.1;obtain ⟨va, vc, rfl⟩ : ∃ a c, v = .slice a n c := by
  obtain ⟨_, _, ⟨rfl, a, c, hv, _⟩ | ⟨b, off, cap, hv, _⟩⟩ := hv
  ·exact ⟨_, _, hv⟩
  ·exact ⟨_, _, hv⟩
 clear hT hv hgb;go_enter Tryz.func7, Tryz.ntmps7;go_wp2_with fail
 refine LA.out.mono ?_;rintro e w1 ⟨rfl, hb⟩;have HB1 := xH hb;have HV1 := xH (utfw.below_sl hb HV.out);clear hb LA HV;try dsimp only
 go_wp2_with fail
 go_loopw [4] (fun v4 wr => ∃ i : Nat, v4 = .int .i64 i ∧ i ≤ n ∧ wr = w1 ∧ Hid (∀ j, j < i → g j ≠ 94 ∧ g j ≠ 45 ∧ g j ≠ 46 ∧ g j ≠ 92)) (fun v4 _ => n - (intOf v4).toNat)
 case atStart => exact ⟨0, rfl, Nat.zero_le _, rfl, xH (fun j hj => absurd hj (Nat.not_lt_zero _))⟩
 case round =>
  obtain ⟨i, rfl, hi, hw, hJ⟩ := hrel;subst hw;have HJ := xH hJ.out;clear hJ;by_cases hlt : i < n
  ·have i1 : (i : Int) < (n : Int) := by omega
   rcases HV1.out.2.2 with ⟨h0, _⟩ | ⟨b, off, cap, hv, hcap, hc⟩
   ·omega
   cases hv;have hci := hc i hlt;have a1 : (⟨b, off, none⟩ : Addr).add i = ⟨b, off + i, none⟩ := by unfold Addr.add; split <;> simp_all
   have hw1 := HGB.out i;clear hc;by_cases e1 : g i = 94
   ·have f1 : (g i == 94) = true := by simp [e1]
    go_wp2_with fail
    go_ret
    exact ⟨rfl, HB1.out⟩
   have f1 : (g i == 94) = false := by simp [e1]
   by_cases e2 : g i = 45
   ·have f2 : (g i == 45) = true := by simp [e2]
    go_wp2_with fail
    go_ret
    exact ⟨rfl, HB1.out⟩
   have f2 : (g i == 45) = false := by simp [e2]
   by_cases e3 : g i = 46
   ·have f3 : (g i == 46) = true := by simp [e3]
    go_wp2_with fail
    go_ret
    exact ⟨rfl, HB1.out⟩
   have f3 : (g i == 46) = false := by simp [e3]
   by_cases e4 : g i = 92
   ·have f4 : (g i == 92) = true := by simp [e4]
    go_wp2_with fail
    go_ret
    exact ⟨rfl, HB1.out⟩
   have f4 : (g i == 92) = false := by simp [e4]
   have HE := xH (And.intro e1 (And.intro e2 (And.intro e3 e4)));clear e1 e2 e3 e4;go_wp2_with fail
   have hi1 : i + 1 ≤ n := by omega
   refine ⟨⟨i + 1, ?_, hi1, trivial, xH fun j hj => ?_⟩, ?_⟩
   ·rfl
   ·by_cases hji : j = i
    ·rw [hji]; exact HE.out
    ·exact HJ.out j (by omega)
   ·simp only [intOf];omega
  ·have hin : i = n := by omega
   subst hin;have hge : ¬ ((i : Int) < (i : Int)) := by omega
   have LR := xH (raw_any (.slice va i vc) i g 32 wr HV1.out);obtain ⟨R, hR⟩ : ∃ R, rawP (sg (strOf i g)) i 32 = R := ⟨_, rfl⟩;rw [hR] at LR;have HR := xH hR;clear hR hlt hi;go_wp2_with fail
   refine LR.out.mono ?_;cases R with
   | none =>
    rintro e w2 ⟨hb, rfl⟩;have HB2 := xH (trw.qi HB1.out hb);have HG := xH (heap_alloc_new w2 (.cells zC.toArray 27));have HO := xH (qp (t := (lab 0 0, F.nil)) (rpw.zero_at w2));unfold zC at HG;clear hb LR;try dsimp only
    unfold ndV;go_upto_region 10 with (refine wpList_store_nw rfl rfl _ _ rfl w2.heap.size rfl _ (lab 0 0) HG.out rfl HO.out rfl ?_; intro w3 h3; have HB3 := xH (show Below w2.heap.size w2 w3 from h3.out ▸ rpw.jU w2 _ _ _); clear h3)
    go_wp2_with fail
    go_ret
    exact ⟨rfl, trw.qi HB2.out HB3.out⟩
   | some t =>
    rintro e w2 ⟨hb, y, j, rfl, hn, hs⟩;have HB2 := xH (trw.qi HB1.out hb);have HG := xH (heap_alloc_new w2 (.cells zC.toArray 27));have HO := xH (qp hn);have HN := xH hn;have HS := xH hs;unfold zC at HG;clear hb LR hn hs;try dsimp only
    unfold ndV;go_upto_region 10 with (refine wpList_store_nw rfl rfl _ _ rfl w2.heap.size rfl _ y HG.out rfl HO.out rfl ?_; intro w3 h3; have HB3 := xH (show Below w2.heap.size w2 w3 from h3.out ▸ rpw.jU w2 _ _ _); have HG3 := xH (show w3.heap[w2.heap.size]? = some (.cells (ndC y).toArray 27 (0, 0)) from h3.out ▸ setRow_heap _ _ _ _ _ _ HG.out); clear h3)
    have HB03 := xH (trw.qi HB2.out HB3.out);have LS := xH (res8 HR.out HS.out 33 (fun _ => false) w3 (fun i hi => by cases hi) (kidsNd HN.out HB3.out) (tab_below8 HT.out HB03.out));clear HG HO HN HS;have c0 : w3.cell? ⟨w2.heap.size, 0, none⟩ = some (.int .i64 y.kind) := by unfold World.cell?; rw [HG3.out]; rfl
    have c1 : w3.cell? ⟨w2.heap.size, 1, none⟩ = some (.int .i64 y.at_) := by unfold World.cell?; rw [HG3.out]; rfl
    have c2 : w3.cell? ⟨w2.heap.size, 2, none⟩ = some (.int .i64 y.c) := by unfold World.cell?; rw [HG3.out]; rfl
    have c3 : w3.cell? ⟨w2.heap.size, 3, none⟩ = some (y.sv) := by unfold World.cell?; rw [HG3.out]; rfl
    have c4 : w3.cell? ⟨w2.heap.size, 4, none⟩ = some (.bool y.neg) := by unfold World.cell?; rw [HG3.out]; rfl
    have c5 : w3.cell? ⟨w2.heap.size, 5, none⟩ = some (.int .i64 y.n) := by unfold World.cell?; rw [HG3.out]; rfl
    have c6 : w3.cell? ⟨w2.heap.size, 6, none⟩ = some (.int .i64 y.m) := by unfold World.cell?; rw [HG3.out]; rfl
    have c7 : w3.cell? ⟨w2.heap.size, 7, none⟩ = some (.int .i64 y.mode) := by unfold World.cell?; rw [HG3.out]; rfl
    have c8 : w3.cell? ⟨w2.heap.size, 8, none⟩ = some (.string y.name) := by unfold World.cell?; rw [HG3.out]; rfl
    have c9 : w3.cell? ⟨w2.heap.size, 9, none⟩ = some (.int .i64 y.on) := by unfold World.cell?; rw [HG3.out]; rfl
    have c10 : w3.cell? ⟨w2.heap.size, 10, none⟩ = some (.int .i64 y.off) := by unfold World.cell?; rw [HG3.out]; rfl
    have c11 : w3.cell? ⟨w2.heap.size, 11, none⟩ = some (y.kv) := by unfold World.cell?; rw [HG3.out]; rfl
    unfold ndV at LS;go_wp2_with fail
    refine LS.out.mono ?_;rintro e w4 ⟨z, q, rfl, hn, hs, hb⟩;have LC := xH (full_any (q.size + 1) w4 z q (Nat.lt_succ_self _) (sees_none _ hn) (ans_clo8 HGB.out HJ.out HR.out hs) (ans_size8 HR.out 33 hs));have HB4 := xH (trw.qi HB03.out hb);clear hn hs hb LS c0 c1 c2 c3 c4 c5 c6 c7 c8 c9 c10 c11;try dsimp only
    go_wp2_with fail
    refine LC.out.mono ?_;rintro e w5 ⟨rfl, hb⟩;have HB5 := xH (trw.qi HB4.out hb);clear hb LC;try dsimp only
    go_wp2_with fail
    go_ret
    exact ⟨rfl, HB5.out⟩
end Go.Proofs.YtikjhfmmfpeaoaaGreatDoor.fll
end
