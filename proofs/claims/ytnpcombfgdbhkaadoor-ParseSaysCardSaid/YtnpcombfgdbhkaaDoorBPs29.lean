/- T -/
import Derived.Test.YtnpcombfgdbhkaaDoorBPs26
import Derived.Test.YtnpcombfgdbhkaaDoorBPs27
import Derived.Test.YtnpcombfgdbhkaaDoorBPs28
set_option maxHeartbeats 16000000
set_option maxRecDepth 1000000
section
namespace Go.Proofs.YtnpcombfgdbhkaaDoor.rpw
open sq
open Go.Sort Go Go.RowKit Go.Maps tkp trp trw rpp
open tkw (qO Kept Kept.refl Kept.trans Kept.mono Kept.then Kept.of_below Kept.below Kept.grown Kept.setCell)
variable {bl : Nat}
theorem thing_of {P : Nat} {v : Value} {L : List Tk} {n : Nat} (ht : ∀ m, m ≤ n → ThingC bl P v L m) (ha : ∀ m, m ≤ n → AltC bl P v L m) : ThingC bl P v L (n + 1) := by
 intro s w hok he hi hn;by_cases h10 : (L.getD s.i zeroT).kind = 10
 ·by_cases h40 : s.op = 40
  ·exact thing_leaf s w hok he hi (Or.inr h40)
  ·exact thing_group ht ha s w hok he hi hn ⟨h10, h40⟩
 ·exact thing_leaf s w hok he hi (Or.inl h10)
theorem run_all {P : Nat} {v : Value} {L : List Tk} : ∀ n, (∀ m, m ≤ n → ThingC bl P v L m) ∧ (∀ m, m ≤ n → SeqC bl P v L m) ∧ (∀ m, m ≤ n → AltC bl P v L m)
 | 0 => ⟨fun m h s w _ _ _ h1 => by omega, fun m h s w _ h1 => by omega, fun m h s w _ h1 => by omega⟩
 | n + 1 => by
  obtain ⟨a, b, c⟩ := run_all (P := P) (v := v) (L := L) n;refine ⟨fun m h => ?_, fun m h => ?_, fun m h => ?_⟩
  ·rcases Nat.lt_or_ge n m with h1 | h1
   ·obtain rfl : m = n + 1 := by omega
    exact thing_of a c
   ·exact a m h1
  ·rcases Nat.lt_or_ge n m with h1 | h1
   ·obtain rfl : m = n + 1 := by omega
    exact seq_of a
   ·exact b m h1
  ·rcases Nat.lt_or_ge n m with h1 | h1
   ·obtain rfl : m = n + 1 := by omega
    exact alt_of b
   ·exact c m h1
def ParB (bl : Nat) (w : World) (r : R F) (e : Ending) (w' : World) : Prop := Below w.heap.size w w' ∧ match r with
 | .error x => e = .returned (.tuple #[ndV (lab 0 0), .int .i64 x.1, .int .i64 x.2])
 | .ok f => ∃ x k, e = .returned (.tuple #[ndV x, .int .i64 0, .int .i64 0]) ∧ NdAt (sees (fun i => decide (i < bl)) w') (x, k) ∧ strip (F.one x k) = f
def par_end (L : List Tk) (r : F × Ps) (n : Int) : R F :=
 let s := if r.2.e = 0 ∧ r.2.i < L.length then failS r.2 31 (L.getD r.2.i zeroT).at_ else r.2
 if s.e = 20 then .error (20, n) else if s.e ≠ 0 then .error (s.e, s.at_) else .ok (oneF 13 r.1)
theorem par_20 {L : List Tk} {r : F × Ps} {n : Int} (he : r.2.e ≠ 0) (h : r.2.e = 20) : par_end L r n = .error (20, n) := by have e : (if r.2.e = 0 ∧ r.2.i < L.length then failS r.2 31 (L.getD r.2.i zeroT).at_ else r.2) = r.2 := if_neg (fun q => he q.1);unfold par_end;simp only [e];rw [if_pos h]
theorem par_e {L : List Tk} {r : F × Ps} {n : Int} (he : r.2.e ≠ 0) (h : ¬ r.2.e = 20) : par_end L r n = .error (r.2.e, r.2.at_) := by have e : (if r.2.e = 0 ∧ r.2.i < L.length then failS r.2 31 (L.getD r.2.i zeroT).at_ else r.2) = r.2 := if_neg (fun q => he q.1);unfold par_end;simp only [e];rw [if_neg h, if_pos he]
theorem par_31 {L : List Tk} {r : F × Ps} {n : Int} {tk : Tk} (he : r.2.e = 0) (h : r.2.i < L.length) (ht : L[r.2.i]? = some tk) : par_end L r n = .error (31, (tk.at_ : Int)) := by
 have e : (if r.2.e = 0 ∧ r.2.i < L.length then failS r.2 31 (L.getD r.2.i zeroT).at_ else r.2) = { r.2 with e := 31, at_ := (tk.at_ : Int) } := by rw [if_pos ⟨he, h⟩, show L.getD r.2.i zeroT = tk by rw [List.getD_eq_getElem?_getD, ht]; rfl];exact if_pos he
 unfold par_end;simp only [e];rw [if_neg (by decide), if_pos (by decide)]
theorem par_ok {L : List Tk} {r : F × Ps} {n : Int} (he : r.2.e = 0) (h : ¬ r.2.i < L.length) : par_end L r n = .ok (oneF 13 r.1) := by have e : (if r.2.e = 0 ∧ r.2.i < L.length then failS r.2 31 (L.getD r.2.i zeroT).at_ else r.2) = r.2 := if_neg (fun q => h q.2);unfold par_end;simp only [e];rw [if_neg (by rw [he]; decide), if_neg (by simp [he])]
theorem par_new {w : World} {v : Value} {L : List Tk} (hl : TkIn (sees (fun i => decide (i < bl)) w) v L) (hk : LOk L) : Ok bl ((w.alloc (.cells zC.toArray 31)).alloc (.cells (psC v { i := 0 }) 70)) (w.heap.size + 1) v L { i := 0 } ∧
 Below w.heap.size w ((w.alloc (.cells zC.toArray 31)).alloc (.cells (psC v { i := 0 }) 70)) ∧
 ((w.alloc (.cells zC.toArray 31)).alloc (.cells (psC v { i := 0 }) 70)).heap[w.heap.size]? = some (.cells (ndC (lab 0 0)).toArray 31 (0, 0)) ∧
 ((w.alloc (.cells zC.toArray 31)).alloc (.cells (psC v { i := 0 }) 70)).heap.size = w.heap.size + 2 := by
 have hz := World.size_alloc w (.cells zC.toArray 31);have hb := qg (w.alloc (.cells zC.toArray 31)) (.cells (psC v { i := 0 }) 70);have hp := heap_alloc_new (w.alloc (.cells zC.toArray 31)) (.cells (psC v { i := 0 }) 70);rw [hz] at hp;refine ⟨⟨hp, tkIn_mono (qU fun a u h1 hc => ⟨?_, trw.qf (qi (qg w _) hb) hc⟩) hl, hk, Nat.zero_le _, Nat.zero_le _⟩, qi (qg w _) hb, (hb.block _ (by omega)).trans (heap_alloc_new w _), ?_⟩
 ·have := cell_lt hc;simp only [mid, Bool.and_eq_false_iff, Bool.or_eq_false_iff, decide_eq_false_iff_not] at h1 ⊢;omega
 ·rw [World.size_alloc, hz]
theorem par_row {w w' : World} {N n : Nat} {cs : Array Value} {t : Nd} (h : NdAt (vis bl (N + 1) n w) t) (hN : N < n) (hbl : bl ≤ n) (hb : ∀ a v, w.cell? a = some v → w'.cell? a = some v) : NdAt (sees (fun i => decide (i < bl)) (w'.setRow N cs)) t :=
 qY (qU fun a v h1 hc => by simp only [mid, Bool.and_eq_false_iff, Bool.or_eq_false_iff, decide_eq_false_iff_not] at h1 ⊢;exact ⟨by omega, jI cs (hb a v hc) (by omega)⟩) h
theorem par_below {w w2 w3 : World} (h : Below w.heap.size w w2) (hk : Kept w2.heap.size (w.heap.size + 1) w2 w3) : Below w.heap.size w w3 :=
 h.trans ⟨hk.os, hk.tape, hk.output, hk.size, fun q hq => hk.block q (Nat.lt_of_lt_of_le hq h.size) (by omega)⟩
theorem qC {n g : Nat} {w w' : World} (h : Below n w w') (cs : Array Value) (hg : n ≤ g) : Below n w (w'.setRow g cs) :=
 h.trans ⟨rfl, rfl, rfl, by rw [tkw.setRow_size]; exact Nat.le_refl _, fun k hk => tkw.setRow_other _ _ k cs (by omega)⟩
theorem results_nd3 {fn : Func} {p q r : Tmp} (h : fn.results = #[.cell p 31, .tmp q, .tmp r]) (tmps : Array Value) (w : World) (g : Nat) (l : Lab) (hp : tmps.getD p undef = .pointer (some ⟨g, 0, none⟩)) (hg : w.heap[g]? = some (.cells (ndC l).toArray 31 (0, 0))) :
 (results fn tmps).run Tryd.prog w = .ok (.tuple #[ndV l, tmps.getD q undef, tmps.getD r undef]) w := by
 have hp' : tmps[p]?.getD undef = .pointer (some ⟨g, 0, none⟩) := by simpa using hp
 simp [results, h, hp', asAddr, run_loadVar_row w g 31 31 (ndC l).toArray (0, 0) _ hg Tryd.underlying31 rfl (by rw [ndInfo]; rfl)];rfl
theorem qI {o : Oper} {a : Act} {W : World} {K : Act → World → Prop} {Q : Exit → Act → World → Prop} {ys : Nat → Option Bool} (hgd : o.guard = none) (hd : o.dst = none) (x y : Operand) (ho : o.op = .store 31 x y)
 (g : Nat) (hx : a.eval x = .pointer (some ⟨g, 0, none⟩)) (old : Array Value) (l : Lab) (hg : W.heap[g]? = some (.cells old 31 (0, 0))) (hs : old.size = 12) (h1 : ∀ u ∈ ndC l, u.oneCell' = true) (hy : a.eval y = ndV l)
 (h : K a (W.setRow g (ndC l).toArray)) : if Region.wanted o ys = true then Oper.wp Tryd.prog o a W K Q else K (a.put o.dst undef) W := by
 rw [if_pos (by unfold Region.wanted; rw [hgd])];unfold Oper.wp execOp;simp only [ho, hx, hy, Instr.storeAt, Instr.sureAddr, Sem.run_bind, Sem.run_pure, Result.andThen_ok, run_store_nd W g old l hg hs h1];simpa [Oper.upon, hd, Act.put] using h
theorem rparse_any (v : Value) (L : List Tk) (n : Int) (w : World) (hbl : bl ≤ w.heap.size) (hl : TkIn (sees (fun i => decide (i < bl)) w) v L) (hk : LOk L) : Calls Tryd.prog 12 #[v, .int .i64 n] w (ParB bl w (parseP L n)) := by
 obtain ⟨R, hR⟩ : ∃ R, parseP L n = R := ⟨_, rfl⟩;rw [hR];have hok := par_new hl hk;have HC := xH ((run_all (bl := bl) (P := w.heap.size + 1) (v := v) (L := L) (3 * L.length + 3)).2.2 _ (Nat.le_refl _) { i := 0 } _ hok.1 (by unfold rem; simp));have HI := xH (zq L (3 * L.length + 3) (.alt .nil) { i := 0 } hok.1.i hok.1.op (fun h => by cases h)).1;have HR0 := xH (show par_end L (run L (3 * L.length + 3) (.alt .nil) { i := 0 }) n = R from hR);have HOK := xH hok.1;have HB2 := xH hok.2.1;have HN2 := xH hok.2.2.1;have HZ2 := xH hok.2.2.2;have HLK := xH hk;have HBL := xH hbl;obtain ⟨va, vc, rfl⟩ : ∃ a c, v = .slice a L.length c := by obtain ⟨a, c, h, _⟩ := hl;exact ⟨a, c, h⟩
 clear hR hok hk hl hbl;unfold psC at HOK HC HB2 HN2 HZ2;unfold zC at HOK HC HB2 HN2 HZ2;generalize run L (3 * L.length + 3) (.alt .nil) { i := 0 } = r at *;go_enter Tryd.func12, Tryd.ntmps12;go_wp2_with fail
 refine HC.out.mono ?_;rintro e w3 ⟨u, f, rfl, ho, hst, hp, hk⟩;have HO3 := xH ho;have HST := xH hst;have HOK3 := xH (HOK.out.step hp hk HI.out);have HB := xH (par_below HB2.out hk);have HN := xH ((hk.block w.heap.size (by have := HZ2.out; omega) (by omega)).trans HN2.out);have H1 := xH (qp (zero_at w3));have hin : r.2.i ≤ 50000 := by have := HOK3.out.i; have := HLK.out.n; omega
 have hln : L.length ≤ 50000 := HLK.out.n;obtain ⟨_, c1, _, c3, c4, _, _, _, _⟩ := ps_c hp;have HE3 := xH c3;have HE4 := xH c4;clear ho hst hp hk HC HB2 HN2 HOK HI;by_cases he : r.2.e = 0;case neg =>
  have b0 : (r.2.e == 0) = false := by simpa using he
  by_cases h20 : r.2.e = 20
  ·have b20 : (r.2.e == 20) = true := by simp [h20]
   have HR := xH (HR0.out.symm.trans (par_20 he h20));clear HR0;go_wp2_with fail
   refine wp_region_held_drew (S := fun w' => w'.cell? ⟨w.heap.size + 1, 3, none⟩ = some (.int .i64 r.2.e) ∧ w'.cell? ⟨w.heap.size + 1, 4, none⟩ = some (.int .i64 r.2.at_) ∧ w'.heap[w.heap.size]? = some (.cells (ndC (lab 0 0)).toArray 31 (0, 0))) (by kernel_rfl) ⟨trw.qf (qL _) HE3.out, trw.qf (qL _) HE4.out, HN.out⟩ (fun hHeld => ?_);refine xT 0 rfl ?_ ?_ ?_;rotate_left
   ·intro w' hSw;go_simp;try rfl
   simp only [xS];refine xT 1 rfl ?_ ?_ ?_;rotate_left
   ·intro w' hSw;go_simp;try rfl
   simp only [xS];refine xT 2 rfl ?_ ?_ ?_;rotate_left
   ·intro w' hSw;go_simp;try rfl
   simp only [xS];refine xT 3 rfl ?_ ?_ ?_;rotate_left
   ·intro w' hSw;go_simp;try rfl
   simp only [xS];refine xT 4 rfl ?_ ?_ ?_;rotate_left
   ·intro w' hSw;obtain ⟨q0, q1, q2⟩ := hSw;go_simp;try rfl
   simp only [xS];refine xT 5 rfl ?_ ?_ ?_;rotate_left
   ·intro w' hSw;go_simp;try rfl
   simp only [xS];refine xD 6 rfl (fun K hK => ?_);refine qI rfl rfl _ _ rfl w.heap.size rfl _ (lab 0 0) hHeld.2.2 rfl H1.out rfl ?_;refine hK.out _ _ ⟨jI _ hHeld.1 (by show w.heap.size + 1 ≠ w.heap.size; omega), jI _ hHeld.2.1 (by show w.heap.size + 1 ≠ w.heap.size; omega), setRow_heap _ _ _ _ _ _ hHeld.2.2⟩ (fun _ => ?_);clear hK K;refine xT 7 rfl ?_ ?_ ?_;rotate_left
   ·intro w' hSw;go_simp;try rfl
   simp only [xS];refine xT 8 rfl ?_ ?_ ?_;rotate_left
   ·intro w' hSw;go_simp;try rfl
   simp only [xS];refine wpAnyH_done (by kernel_rfl) ?_ _;go_wp2_with fail
   refine bodyPost_ret (results_nd3 rfl _ _ w.heap.size (lab 0 0) rfl (setRow_heap _ _ _ _ _ _ HN.out)) rfl ?_;refine ⟨qC (HB.out.trans (Below.refl _ _).drew) _ (Nat.le_refl _), ?_⟩;rw [HR.out];rfl
  ·have b20 : (r.2.e == 20) = false := by simp [h20]
   have b0 : (r.2.e != 0) = true := by simpa using he
   have HR := xH (HR0.out.symm.trans (par_e he h20));clear HR0;go_wp2_with fail
   refine wp_region_held_drew (S := fun w' => w'.cell? ⟨w.heap.size + 1, 3, none⟩ = some (.int .i64 r.2.e) ∧ w'.cell? ⟨w.heap.size + 1, 4, none⟩ = some (.int .i64 r.2.at_) ∧ w'.heap[w.heap.size]? = some (.cells (ndC (lab 0 0)).toArray 31 (0, 0))) (by kernel_rfl) ⟨trw.qf (qL _) HE3.out, trw.qf (qL _) HE4.out, HN.out⟩ (fun hHeld => ?_);refine xT 0 rfl ?_ ?_ ?_;rotate_left
   ·intro w' hSw;go_simp;try rfl
   simp only [xS];refine xT 1 rfl ?_ ?_ ?_;rotate_left
   ·intro w' hSw;go_simp;try rfl
   simp only [xS];refine xT 2 rfl ?_ ?_ ?_;rotate_left
   ·intro w' hSw;go_simp;try rfl
   simp only [xS];refine xT 3 rfl ?_ ?_ ?_;rotate_left
   ·intro w' hSw;go_simp;try rfl
   simp only [xS];refine xT 4 rfl ?_ ?_ ?_;rotate_left
   ·intro w' hSw;obtain ⟨q0, q1, q2⟩ := hSw;go_simp;try rfl
   simp only [xS];refine xT 5 rfl ?_ ?_ ?_;rotate_left
   ·intro w' hSw;go_simp;try rfl
   simp only [xS];refine xT 6 rfl ?_ ?_ ?_;rotate_left
   ·intro w' hSw;go_simp;try rfl
   simp only [xS];refine xT 7 rfl ?_ ?_ ?_;rotate_left
   ·intro w' hSw;go_simp;try rfl
   simp only [xS];refine xT 8 rfl ?_ ?_ ?_;rotate_left
   ·intro w' hSw;obtain ⟨q0, q1, q2⟩ := hSw;go_simp;try rfl
   simp only [xS];refine xD 9 rfl (fun K hK => ?_);refine qI rfl rfl _ _ rfl w.heap.size rfl _ (lab 0 0) hHeld.2.2 rfl H1.out rfl ?_;refine hK.out _ _ ⟨jI _ hHeld.1 (by show w.heap.size + 1 ≠ w.heap.size; omega), jI _ hHeld.2.1 (by show w.heap.size + 1 ≠ w.heap.size; omega), setRow_heap _ _ _ _ _ _ hHeld.2.2⟩ (fun _ => ?_);clear hK K;refine xT 10 rfl ?_ ?_ ?_;rotate_left
   ·intro w' hSw;go_simp;try rfl
   simp only [xS];refine xT 11 rfl ?_ ?_ ?_;rotate_left
   ·intro w' hSw;go_simp;try rfl
   simp only [xS];refine wpAnyH_done (by kernel_rfl) ?_ _;go_wp2_with fail
   refine bodyPost_ret (results_nd3 rfl _ _ w.heap.size (lab 0 0) rfl (setRow_heap _ _ _ _ _ _ HN.out)) rfl ?_;refine ⟨qC (HB.out.trans (Below.refl _ _).drew) _ (Nat.le_refl _), ?_⟩;rw [HR.out];rfl
 have b0 : (r.2.e == 0) = true := by simp [he]
 by_cases hi : r.2.i < L.length;case pos =>
  obtain ⟨tk, htk⟩ : ∃ tk, L[r.2.i]? = some tk := ⟨L[r.2.i], List.getElem?_eq_getElem hi⟩;have HR := xH (HR0.out.symm.trans (par_31 he hi htk));obtain ⟨g, oo, cap, sv, hv, hc1, hc2, hil, hgm, hrg, hcs⟩ := tk_at HOK3.out.l htk;cases hv;have k1 := hcs 1 _ rfl;have HP := xH HOK3.out.p;clear HR0 hgm hrg hcs htk;go_wp2_with fail
  refine (fail_any _ _ r.2 31 (tk.at_ : Int) w3 HP.out).mono ?_;rintro e w4 ⟨rfl, hp, hk⟩;rw [show failS r.2 31 (tk.at_ : Int) = { r.2 with e := 31, at_ := (tk.at_ : Int) } from if_pos he] at hp;have HB4 := xH (show Below w.heap.size w w4 from HB.out.trans ⟨hk.os, hk.tape, hk.output, hk.size, fun q hq => hk.block q (Nat.lt_of_lt_of_le hq HB.out.size) (by omega)⟩);have HN4 := xH ((hk.block w.heap.size (by have := HP.out; have := ps_lt this; omega) (by omega)).trans HN.out);obtain ⟨_, _, _, d3, d4, _, _, _, _⟩ := ps_c hp;have HE5 := xH (show w4.cell? ⟨w.heap.size + 1, 3, none⟩ = some (.int .i64 31) from d3);have HE6 := xH (show w4.cell? ⟨w.heap.size + 1, 4, none⟩ = some (.int .i64 (tk.at_ : Int)) from d4);clear hp hk HE3 HE4 HB HN d3 d4 c1 c3 c4 k1;have c3 := HE5.out;have c4 := HE6.out;dsimp only;go_wp2_with fail
  refine wp_region_held_drew (S := fun w' => w'.cell? ⟨w.heap.size + 1, 3, none⟩ = some (.int .i64 31) ∧ w'.cell? ⟨w.heap.size + 1, 4, none⟩ = some (.int .i64 (tk.at_ : Int)) ∧ w'.heap[w.heap.size]? = some (.cells (ndC (lab 0 0)).toArray 31 (0, 0))) (by kernel_rfl) ⟨trw.qf (qL _) HE5.out, trw.qf (qL _) HE6.out, HN4.out⟩ (fun hHeld => ?_);refine xT 0 rfl ?_ ?_ ?_;rotate_left
  ·intro w' hSw;go_simp;try rfl
  simp only [xS];refine xT 1 rfl ?_ ?_ ?_;rotate_left
  ·intro w' hSw;go_simp;try rfl
  simp only [xS];refine xT 2 rfl ?_ ?_ ?_;rotate_left
  ·intro w' hSw;go_simp;try rfl
  simp only [xS];refine xT 3 rfl ?_ ?_ ?_;rotate_left
  ·intro w' hSw;go_simp;try rfl
  simp only [xS];refine xT 4 rfl ?_ ?_ ?_;rotate_left
  ·intro w' hSw;obtain ⟨q0, q1, q2⟩ := hSw;go_simp;try rfl
  simp only [xS];refine xT 5 rfl ?_ ?_ ?_;rotate_left
  ·intro w' hSw;go_simp;try rfl
  simp only [xS];refine xT 6 rfl ?_ ?_ ?_;rotate_left
  ·intro w' hSw;go_simp;try rfl
  simp only [xS];refine xT 7 rfl ?_ ?_ ?_;rotate_left
  ·intro w' hSw;go_simp;try rfl
  simp only [xS];refine xT 8 rfl ?_ ?_ ?_;rotate_left
  ·intro w' hSw;obtain ⟨q0, q1, q2⟩ := hSw;go_simp;try rfl
  simp only [xS];refine xD 9 rfl (fun K hK => ?_);refine qI rfl rfl _ _ rfl w.heap.size rfl _ (lab 0 0) hHeld.2.2 rfl H1.out rfl ?_;refine hK.out _ _ ⟨jI _ hHeld.1 (by show w.heap.size + 1 ≠ w.heap.size; omega), jI _ hHeld.2.1 (by show w.heap.size + 1 ≠ w.heap.size; omega), setRow_heap _ _ _ _ _ _ hHeld.2.2⟩ (fun _ => ?_);clear hK K;refine xT 10 rfl ?_ ?_ ?_;rotate_left
  ·intro w' hSw;go_simp;try rfl
  simp only [xS];refine xT 11 rfl ?_ ?_ ?_;rotate_left
  ·intro w' hSw;go_simp;try rfl
  simp only [xS];refine wpAnyH_done (by kernel_rfl) ?_ _;go_wp2_with fail
  refine bodyPost_ret (results_nd3 rfl _ _ w.heap.size (lab 0 0) rfl (setRow_heap _ _ _ _ _ _ HN4.out)) rfl ?_;refine ⟨qC (HB4.out.trans (Below.refl _ _).drew) _ (Nat.le_refl _), ?_⟩;rw [HR.out];rfl
 have bi : ¬ ((r.2.i : Int) < (L.length : Int)) := by omega
 have HR := xH (HR0.out.symm.trans (par_ok he hi));have HVT := xH (zk 13 (by unfold I64; omega) (zF HO3.out));have HKD := xH (jh (fun _ _ hc => vis_to hc) (zF HO3.out));have HOS := xH (jV 13 u f);have HON := xH (one_any 13 (by unfold I64; omega) u f w3 HKD.out);clear HR0;generalize oneR 13 u f = t at *;go_wp2_with fail
 refine HON.out.mono ?_;rintro e w4 ⟨rfl, hb⟩;have HN4 := xH ((hb.block w.heap.size (by have h := HN.out; apply Classical.byContradiction; intro hn; rw [Array.getElem?_eq_none (by omega)] at h; cases h)).trans HN.out);have HB4 := xH (show Below w.heap.size w w4 from HB.out.trans (hb.mono HB.out.size));have HT4 := xH (fun cs => par_row (cs := cs) HVT.out (by rw [HZ2.out]; omega) (by rw [HZ2.out]; have := HBL.out; omega) (fun _ _ hc => trw.qf hb hc));have H2 := xH (qp HVT.out);clear hb HN HB;dsimp only;go_wp2_with (refine qh rfl rfl _ _ rfl w.heap.size rfl _ t.1 HN4.out rfl H2.out rfl ?_)
 refine bodyPost_ret (results_nd3 rfl _ _ w.heap.size t.1 rfl (setRow_heap _ _ _ _ _ _ HN4.out)) rfl ?_;refine ⟨qC HB4.out _ (Nat.le_refl _), ?_⟩;rw [HR.out];refine ⟨t.1, t.2, rfl, ?_, ?_⟩
 ·exact HT4.out _
 ·rw [HOS.out, HST.out]
end Go.Proofs.YtnpcombfgdbhkaaDoor.rpw
end
section
namespace Go.Proofs.YtnpcombfgdbhkaaDoor.psl
open sq
open Go Go.RowKit Go.Maps tkp trp trw rpp rtp setw psw psp
open rpw (qp zero_at qh ParB rparse_any sees jB)
open rtw (LexB rlex_any)
open tkw (sg)
open utfw (strOf Sl)
theorem same_strip : ∀ f g : F, strip f = strip g → sameF f g = true ∧ plF f g = true
 | .nil, .nil, _ => ⟨rfl, rfl⟩
 | .nil, .cons _ _ _, h => by cases h
 | .cons _ _ _, .nil, h => by cases h
 | .cons x k r, .cons y k' r', h => by
  simp only [strip, F.cons.injEq] at h;obtain ⟨h1, h2, h3⟩ := h;have a := same_strip k k' h2;have b := same_strip r r' h3;have hl : k.len = k'.len := by rw [← rpw.jm k, h2, rpw.jm]
  simp only [Lab.mk.injEq] at h1;obtain ⟨e1, e2, e3, _, e4, e5, e6, e7, e8, e9, e10, e11, _⟩ := h1;simp [sameF, plF, labEq, a.1, a.2, b.1, b.2, hl, e1, e2, e3, e4, e5, e6, e7, e8, e9, e10, e11]
theorem same_one {x y : Lab} {k j : F} (h : strip (F.one x k) = strip (F.one y j)) : sameT (x, k) (y, j) = true ∧ plT (x, k) (y, j) = true := by have := same_strip _ _ h;simp only [F.one, sameF, plF, Bool.and_true] at this;exact this
theorem says_law (v : Value) (n : Nat) (g : Nat → Int) (o : Int) (w : World) (hT : TabP w) (hv : Sl w v n g) : Calls Tryd.prog 3 #[v, .int .i64 o] w (BoolB true w) := by
 have HL := xH (fun w1 (hb : Below w.heap.size w w1) => rlex_any v n g o w1 (utfw.below_sl hb hv));have HT := xH hT;have HAW := xH (awake_any w hT);have hn48 : (n : Int) ≤ 140737488355328 := by have := hv.2.1; omega
 obtain ⟨a, cap, rfl⟩ : ∃ a c, v = .slice a n c := by
  obtain ⟨_, _, ⟨rfl, a, c, hv, _⟩ | ⟨b, off, cap, hv, _⟩⟩ := hv
  ·exact ⟨_, _, hv⟩
  ·exact ⟨_, _, hv⟩
 have HER := xH (fun x (h : rlexP (sg (strOf n g)) n o = .error x) => rtw.rlex_e _ _ _ _ h);have HLX := xH (fun T => lx_of (n := n) (g := g) (o := o) (T := T));clear hT hv;go_enter Tryd.func3, Tryd.ntmps3;go_wp2_with fail
 refine HAW.out.mono ?_;rintro e w1 ⟨rfl, hb1⟩;have HB1 := xH hb1;clear hb1 HAW;go_wp2_with fail
 refine (HL.out w1 HB1.out).mono ?_;obtain ⟨q, hq⟩ : ∃ q, rlexP (sg (strOf n g)) n o = q := ⟨_, rfl⟩;rw [hq] at HER HLX ⊢;clear hq HL;cases q with
 | error x =>
  rintro e w2 ⟨hb2, rfl⟩;have b1 : (x.1 != 0) = true := by simpa using HER.out x rfl
  have HB2 := xH (trw.qi HB1.out hb2);clear hb2 HB1 HER HLX;dsimp only;go_wp2_with fail
  go_ret
  exact ⟨rfl, HB2.out⟩
 | ok T =>
  rintro e w2 ⟨hb2, v1, rfl, hrow⟩;have hx := HLX.out T rfl;have HX := xH hx;have HIN := xH (tkIn_of (zh := fun _ => false) hrow (fun i hi => by cases hi) (fun t ht => (hx.b t ht).1.w) hx.ltk.n);have HB2 := xH (trw.qi HB1.out hb2);have HPA := xH (parse_any (fun _ => false) v1 T (n : Int) w2 (fun i hi => by cases hi) (tabP_below HB2.out HT.out) HIN.out hx.ltk);have HSE := xH (stack_eq hx.tok (n : Int));have HPE := xH (fun x (h : parseP T (n : Int) = .error x) => parse_err h);obtain ⟨a1, c1, rfl⟩ : ∃ a c, v1 = .slice a T.length c := by obtain ⟨a, c, h, _⟩ := HIN.out;exact ⟨a, c, h⟩
  have HPB := xH (fun w3 (hb : Below w2.heap.size w2 w3) => rparse_any (bl := 0) (.slice a1 T.length c1) T (n : Int) w3 (Nat.zero_le _) (tkIn_sees (tkIn_below hb (tkIn_out HIN.out))) hx.lok);clear hb2 hrow hx HER HLX HB1 HIN HX;dsimp only;go_wp2_with fail
  refine HPA.out.mono ?_;rw [HSE.out];obtain ⟨q, hq⟩ : ∃ q, parseP T (n : Int) = q := ⟨_, rfl⟩;rw [hq] at HPE HPB ⊢;clear hq HPA HSE;cases q with
  | error x =>
   rintro e w3 ⟨hb3, rfl⟩;have hx0 := HPE.out x rfl;have b1 : (x.1 != 0) = true := by simpa using hx0
   have HB3 := xH (trw.qi HB2.out hb3);have HQ3 := xH hb3;have HG3 := xH (heap_alloc_new w3 (.cells zC.toArray 31));have HT3 := xH (zO w3 (lab 0 0));have HO3 := xH zero_ones;unfold zC at HG3 HT3;clear hb3 hx0 HPE HB2;dsimp only;go_upto_region 8 with (refine qh rfl rfl _ _ rfl w3.heap.size rfl _ (lab 0 0) HG3.out rfl HO3.out rfl ?_)
   generalize (w3.alloc _).setRow _ _ = w4 at *;have HB4 := xH (trw.qi HB3.out HT3.out.b);have HQ4 := xH (trw.qi HQ3.out HT3.out.b);clear HB3 HQ3 HG3;go_wp2_with fail
   refine (HPB.out w4 HQ4.out).mono ?_;rintro e w5 ⟨hb5, rfl⟩;have HB5 := xH (trw.qi HB4.out hb5);have HQ5 := xH hb5;have HG5 := xH (heap_alloc_new w5 (.cells zC.toArray 31));have HT5 := xH (zO w5 (lab 0 0));unfold zC at HG5 HT5;clear hb5 HPB HB4 HQ4;dsimp only;go_upto_region 9 with (refine qh rfl rfl _ _ rfl w5.heap.size rfl _ (lab 0 0) HG5.out rfl HO3.out rfl ?_)
   have HB6 := xH (trw.qi HB5.out HT5.out.b);have HQ6 := xH (trw.qi HQ5.out HT5.out.b);generalize (w5.alloc _).setRow _ _ = w6 at *;have c0 := trw.qf HQ6.out (HT3.out.c 0 _ rfl);have c11 := trw.qf HQ6.out (HT3.out.c 11 _ rfl);simp only [Nat.zero_add, lab, nil3] at c0 c11;have bs1 : (x.1 != x.1) = false := by simp
   have bs2 : (x.2 != x.2) = false := by simp
   clear HG5 HT5 HT3 HO3 HQ5 HQ6 HB5;generalize w3.heap.size = V3 at *;generalize w5.heap.size = V5 at *;obtain ⟨x1, x2⟩ := x;simp only at b1 bs1 bs2 ⊢;go_wp2_with fail
   go_ret
   exact ⟨rfl, HB6.out⟩
  | ok f =>
   rintro e w3 ⟨hb3, x, k, rfl, hn, hst⟩;have HB3 := xH (trw.qi HB2.out hb3);have HQ3 := xH hb3;have HND := xH (nd_out hn);have HST := xH hst;have HO := xH (qp hn);have HG3 := xH (heap_alloc_new w3 (.cells zC.toArray 31));have HT3 := xH (zO w3 x);unfold zC at HG3 HT3;clear hb3 hn hst HPE HB2;dsimp only;go_upto_region 8 with (refine qh rfl rfl _ _ rfl w3.heap.size rfl _ x HG3.out rfl HO.out rfl ?_)
   generalize (w3.alloc _).setRow _ _ = w4 at *;have HB4 := xH (trw.qi HB3.out HT3.out.b);have HQ4 := xH (trw.qi HQ3.out HT3.out.b);have HN4 := xH (trw.vO HT3.out.b HND.out);clear HB3 HQ3 HG3 HND HO;go_wp2_with fail
   refine (HPB.out w4 HQ4.out).mono ?_;rintro e w5 ⟨hb5, y, j, rfl, hn5, hst5⟩;have HB5 := xH (trw.qi HB4.out hb5);have HQ5 := xH hb5;have HN5 := xH (nd_sees hn5);have HO5 := xH (qp hn5);have HS := xH (same_one (HST.out.trans hst5.symm));have HG5 := xH (heap_alloc_new w5 (.cells zC.toArray 31));have HT5 := xH (zO w5 y);unfold zC at HG5 HT5;clear hb5 hn5 hst5 HST HPB HB4 HQ4;dsimp only;go_upto_region 9 with (refine qh rfl rfl _ _ rfl w5.heap.size rfl _ y HG5.out rfl HO5.out rfl ?_)
   have HB6 := xH (trw.qi HB5.out HT5.out.b);have HQ6 := xH (trw.qi HQ5.out HT5.out.b);generalize (w5.alloc _).setRow _ _ = w6 at *;have HNX := xH (trw.vO HQ6.out HN4.out);have HNY := xH (trw.vO HT5.out.b HN5.out);have HCX := xH (fun w7 (hb : Below w6.heap.size w6 w7) (j : Nat) u (hj : (ndC x)[j]? = some u) => trw.qf hb (trw.qf HQ6.out (HT3.out.c j u hj)));have HCY := xH (fun w7 (hb : Below w6.heap.size w6 w7) (i : Nat) u (hj : (ndC y)[i]? = some u) => trw.qf hb (HT5.out.c i u hj));have HSA := xH (fun w7 (hb : Below w6.heap.size w6 w7) => rsame_any (k.size + 1) (x, k) (y, j) w7 (Nat.lt_succ_self _) (trw.vO hb HNX.out) (trw.vO hb HNY.out));have HPL := xH (fun w7 (hb : Below w6.heap.size w6 w7) => places_any (k.size + 1) (x, k) (y, j) w7 (Nat.lt_succ_self _) (trw.vO hb HNX.out) (trw.vO hb HNY.out));rw [HS.out.1] at HSA;rw [HS.out.2] at HPL;clear HG5 HT5 HT3 HO5 HQ5 HQ6 HB5 HN4 HN5 HNX HNY HS;generalize w3.heap.size = V3 at *;generalize w5.heap.size = V5 at *;have H6 := xH (Below.refl w6.heap.size w6);have f0 : w6.cell? ⟨V3, 0, none⟩ = some (.int .i64 x.kind) := by have := HCX.out w6 H6.out 0 _ rfl; rwa [Nat.zero_add] at this
   have f1 : w6.cell? ⟨V3, 1, none⟩ = some (.int .i64 x.at_) := by have := HCX.out w6 H6.out 1 _ rfl; rwa [Nat.zero_add] at this
   have f2 : w6.cell? ⟨V3, 2, none⟩ = some (.int .i64 x.c) := by have := HCX.out w6 H6.out 2 _ rfl; rwa [Nat.zero_add] at this
   have f3 : w6.cell? ⟨V3, 3, none⟩ = some (x.sv) := by have := HCX.out w6 H6.out 3 _ rfl; rwa [Nat.zero_add] at this
   have f4 : w6.cell? ⟨V3, 4, none⟩ = some (.bool x.neg) := by have := HCX.out w6 H6.out 4 _ rfl; rwa [Nat.zero_add] at this
   have f5 : w6.cell? ⟨V3, 5, none⟩ = some (.int .i64 x.n) := by have := HCX.out w6 H6.out 5 _ rfl; rwa [Nat.zero_add] at this
   have f6 : w6.cell? ⟨V3, 6, none⟩ = some (.int .i64 x.m) := by have := HCX.out w6 H6.out 6 _ rfl; rwa [Nat.zero_add] at this
   have f7 : w6.cell? ⟨V3, 7, none⟩ = some (.int .i64 x.mode) := by have := HCX.out w6 H6.out 7 _ rfl; rwa [Nat.zero_add] at this
   have f8 : w6.cell? ⟨V3, 8, none⟩ = some (.string x.name) := by have := HCX.out w6 H6.out 8 _ rfl; rwa [Nat.zero_add] at this
   have f9 : w6.cell? ⟨V3, 9, none⟩ = some (.int .i64 x.on) := by have := HCX.out w6 H6.out 9 _ rfl; rwa [Nat.zero_add] at this
   have f10 : w6.cell? ⟨V3, 10, none⟩ = some (.int .i64 x.off) := by have := HCX.out w6 H6.out 10 _ rfl; rwa [Nat.zero_add] at this
   have f11 : w6.cell? ⟨V3, 11, none⟩ = some (x.kv) := by have := HCX.out w6 H6.out 11 _ rfl; rwa [Nat.zero_add] at this
   have g0 : w6.cell? ⟨V5, 0, none⟩ = some (.int .i64 y.kind) := by have := HCY.out w6 H6.out 0 _ rfl; rwa [Nat.zero_add] at this
   have g1 : w6.cell? ⟨V5, 1, none⟩ = some (.int .i64 y.at_) := by have := HCY.out w6 H6.out 1 _ rfl; rwa [Nat.zero_add] at this
   have g2 : w6.cell? ⟨V5, 2, none⟩ = some (.int .i64 y.c) := by have := HCY.out w6 H6.out 2 _ rfl; rwa [Nat.zero_add] at this
   have g3 : w6.cell? ⟨V5, 3, none⟩ = some (y.sv) := by have := HCY.out w6 H6.out 3 _ rfl; rwa [Nat.zero_add] at this
   have g4 : w6.cell? ⟨V5, 4, none⟩ = some (.bool y.neg) := by have := HCY.out w6 H6.out 4 _ rfl; rwa [Nat.zero_add] at this
   have g5 : w6.cell? ⟨V5, 5, none⟩ = some (.int .i64 y.n) := by have := HCY.out w6 H6.out 5 _ rfl; rwa [Nat.zero_add] at this
   have g6 : w6.cell? ⟨V5, 6, none⟩ = some (.int .i64 y.m) := by have := HCY.out w6 H6.out 6 _ rfl; rwa [Nat.zero_add] at this
   have g7 : w6.cell? ⟨V5, 7, none⟩ = some (.int .i64 y.mode) := by have := HCY.out w6 H6.out 7 _ rfl; rwa [Nat.zero_add] at this
   have g8 : w6.cell? ⟨V5, 8, none⟩ = some (.string y.name) := by have := HCY.out w6 H6.out 8 _ rfl; rwa [Nat.zero_add] at this
   have g9 : w6.cell? ⟨V5, 9, none⟩ = some (.int .i64 y.on) := by have := HCY.out w6 H6.out 9 _ rfl; rwa [Nat.zero_add] at this
   have g10 : w6.cell? ⟨V5, 10, none⟩ = some (.int .i64 y.off) := by have := HCY.out w6 H6.out 10 _ rfl; rwa [Nat.zero_add] at this
   have g11 : w6.cell? ⟨V5, 11, none⟩ = some (y.kv) := by have := HCY.out w6 H6.out 11 _ rfl; rwa [Nat.zero_add] at this
   go_wp2_with fail
   refine (HSA.out w6 H6.out).mono ?_;rintro e w7 ⟨rfl, hb7⟩;have H7 := xH hb7;clear hb7;clear f0 f1 f2 f3 f4 f5 f6 f7 f8 f9 f10 f11;clear g0 g1 g2 g3 g4 g5 g6 g7 g8 g9 g10 g11;have f0 : w7.cell? ⟨V3, 0, none⟩ = some (.int .i64 x.kind) := by have := HCX.out w7 H7.out 0 _ rfl; rwa [Nat.zero_add] at this
   have f1 : w7.cell? ⟨V3, 1, none⟩ = some (.int .i64 x.at_) := by have := HCX.out w7 H7.out 1 _ rfl; rwa [Nat.zero_add] at this
   have f2 : w7.cell? ⟨V3, 2, none⟩ = some (.int .i64 x.c) := by have := HCX.out w7 H7.out 2 _ rfl; rwa [Nat.zero_add] at this
   have f3 : w7.cell? ⟨V3, 3, none⟩ = some (x.sv) := by have := HCX.out w7 H7.out 3 _ rfl; rwa [Nat.zero_add] at this
   have f4 : w7.cell? ⟨V3, 4, none⟩ = some (.bool x.neg) := by have := HCX.out w7 H7.out 4 _ rfl; rwa [Nat.zero_add] at this
   have f5 : w7.cell? ⟨V3, 5, none⟩ = some (.int .i64 x.n) := by have := HCX.out w7 H7.out 5 _ rfl; rwa [Nat.zero_add] at this
   have f6 : w7.cell? ⟨V3, 6, none⟩ = some (.int .i64 x.m) := by have := HCX.out w7 H7.out 6 _ rfl; rwa [Nat.zero_add] at this
   have f7 : w7.cell? ⟨V3, 7, none⟩ = some (.int .i64 x.mode) := by have := HCX.out w7 H7.out 7 _ rfl; rwa [Nat.zero_add] at this
   have f8 : w7.cell? ⟨V3, 8, none⟩ = some (.string x.name) := by have := HCX.out w7 H7.out 8 _ rfl; rwa [Nat.zero_add] at this
   have f9 : w7.cell? ⟨V3, 9, none⟩ = some (.int .i64 x.on) := by have := HCX.out w7 H7.out 9 _ rfl; rwa [Nat.zero_add] at this
   have f10 : w7.cell? ⟨V3, 10, none⟩ = some (.int .i64 x.off) := by have := HCX.out w7 H7.out 10 _ rfl; rwa [Nat.zero_add] at this
   have f11 : w7.cell? ⟨V3, 11, none⟩ = some (x.kv) := by have := HCX.out w7 H7.out 11 _ rfl; rwa [Nat.zero_add] at this
   have g0 : w7.cell? ⟨V5, 0, none⟩ = some (.int .i64 y.kind) := by have := HCY.out w7 H7.out 0 _ rfl; rwa [Nat.zero_add] at this
   have g1 : w7.cell? ⟨V5, 1, none⟩ = some (.int .i64 y.at_) := by have := HCY.out w7 H7.out 1 _ rfl; rwa [Nat.zero_add] at this
   have g2 : w7.cell? ⟨V5, 2, none⟩ = some (.int .i64 y.c) := by have := HCY.out w7 H7.out 2 _ rfl; rwa [Nat.zero_add] at this
   have g3 : w7.cell? ⟨V5, 3, none⟩ = some (y.sv) := by have := HCY.out w7 H7.out 3 _ rfl; rwa [Nat.zero_add] at this
   have g4 : w7.cell? ⟨V5, 4, none⟩ = some (.bool y.neg) := by have := HCY.out w7 H7.out 4 _ rfl; rwa [Nat.zero_add] at this
   have g5 : w7.cell? ⟨V5, 5, none⟩ = some (.int .i64 y.n) := by have := HCY.out w7 H7.out 5 _ rfl; rwa [Nat.zero_add] at this
   have g6 : w7.cell? ⟨V5, 6, none⟩ = some (.int .i64 y.m) := by have := HCY.out w7 H7.out 6 _ rfl; rwa [Nat.zero_add] at this
   have g7 : w7.cell? ⟨V5, 7, none⟩ = some (.int .i64 y.mode) := by have := HCY.out w7 H7.out 7 _ rfl; rwa [Nat.zero_add] at this
   have g8 : w7.cell? ⟨V5, 8, none⟩ = some (.string y.name) := by have := HCY.out w7 H7.out 8 _ rfl; rwa [Nat.zero_add] at this
   have g9 : w7.cell? ⟨V5, 9, none⟩ = some (.int .i64 y.on) := by have := HCY.out w7 H7.out 9 _ rfl; rwa [Nat.zero_add] at this
   have g10 : w7.cell? ⟨V5, 10, none⟩ = some (.int .i64 y.off) := by have := HCY.out w7 H7.out 10 _ rfl; rwa [Nat.zero_add] at this
   have g11 : w7.cell? ⟨V5, 11, none⟩ = some (y.kv) := by have := HCY.out w7 H7.out 11 _ rfl; rwa [Nat.zero_add] at this
   go_wp2_with fail
   refine (HPL.out w7 H7.out).mono ?_;rintro e w8 ⟨rfl, hb8⟩;have HB8 := xH (trw.qi (trw.qi HB6.out H7.out) hb8);clear hb8;clear f0 f1 f2 f3 f4 f5 f6 f7 f8 f9 f10 f11;clear g0 g1 g2 g3 g4 g5 g6 g7 g8 g9 g10 g11;go_wp2_with fail
   go_ret
   exact ⟨rfl, HB8.out⟩
end Go.Proofs.YtnpcombfgdbhkaaDoor.psl
end
