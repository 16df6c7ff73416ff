/- T -/
import Derived.Laws.Closers25b
import Derived.Test.YtdgfclbajjjcgaaBWb15
set_option maxHeartbeats 16000000
set_option maxRecDepth 1000000
namespace Go.Proofs.Ytdgfclbajjjcgaa
section
namespace rpw
open sq
open Go.Sort Go Go.RowKit Go.Maps tkp trp trw rpp
open tkw (qO Kept Kept.refl Kept.trans Kept.mono Kept.then Kept.of_below Kept.below Kept.grown Kept.setCell)
variable {bl : Nat}
theorem thing_of {P : Nat} {v : Value} {L : List Tk} {n : Nat} (ht : ∀ m, m ≤ n → ThingC bl P v L m) (ha : ∀ m, m ≤ n → AltC bl P v L m) : ThingC bl P v L (n + 1) := by
 intro s w hok he hi hn;by_cases h10 : (L.getD s.i zeroT).kind = 10
 ·by_cases h40 : s.op = 40
  ·exact thing_leaf s w hok he hi (Or.inr h40)
  ·exact thing_group ht ha s w hok he hi hn ⟨h10, h40⟩
 ·exact thing_leaf s w hok he hi (Or.inl h10)
theorem run_all {P : Nat} {v : Value} {L : List Tk} : ∀ n, (∀ m, m ≤ n → ThingC bl P v L m) ∧ (∀ m, m ≤ n → SeqC bl P v L m) ∧ (∀ m, m ≤ n → AltC bl P v L m)
 | 0 => ⟨fun m h s w _ _ _ h1 => by omega, fun m h s w _ h1 => by omega, fun m h s w _ h1 => by omega⟩
 | n + 1 => by
  obtain ⟨a, b, c⟩ := run_all (P := P) (v := v) (L := L) n;refine ⟨fun m h => ?_, fun m h => ?_, fun m h => ?_⟩
  ·rcases Nat.lt_or_ge n m with h1 | h1
   ·obtain rfl : m = n + 1 := by omega
    exact thing_of a c
   ·exact a m h1
  ·rcases Nat.lt_or_ge n m with h1 | h1
   ·obtain rfl : m = n + 1 := by omega
    exact seq_of a
   ·exact b m h1
  ·rcases Nat.lt_or_ge n m with h1 | h1
   ·obtain rfl : m = n + 1 := by omega
    exact alt_of b
   ·exact c m h1
def ParB (bl : Nat) (w : World) (r : R F) (e : Ending) (w' : World) : Prop := Below w.heap.size w w' ∧ match r with
 | .error x => e = .returned (.tuple #[ndV (lab 0 0), .int .i64 x.1, .int .i64 x.2])
 | .ok f => ∃ x k, e = .returned (.tuple #[ndV x, .int .i64 0, .int .i64 0]) ∧ NdAt (sees (fun i => decide (i < bl)) w') (x, k) ∧ strip (F.one x k) = f
def par_end (L : List Tk) (r : F × Ps) (n : Int) : R F :=
 let s := if r.2.e = 0 ∧ r.2.i < L.length then failS r.2 31 (L.getD r.2.i zeroT).at_ else r.2
 if s.e = 20 then .error (20, n) else if s.e ≠ 0 then .error (s.e, s.at_) else .ok (oneF 13 r.1)
theorem par_20 {L : List Tk} {r : F × Ps} {n : Int} (he : r.2.e ≠ 0) (h : r.2.e = 20) : par_end L r n = .error (20, n) := by have e : (if r.2.e = 0 ∧ r.2.i < L.length then failS r.2 31 (L.getD r.2.i zeroT).at_ else r.2) = r.2 := if_neg (fun q => he q.1);unfold par_end;simp only [e];rw [if_pos h]
theorem par_e {L : List Tk} {r : F × Ps} {n : Int} (he : r.2.e ≠ 0) (h : ¬ r.2.e = 20) : par_end L r n = .error (r.2.e, r.2.at_) := by have e : (if r.2.e = 0 ∧ r.2.i < L.length then failS r.2 31 (L.getD r.2.i zeroT).at_ else r.2) = r.2 := if_neg (fun q => he q.1);unfold par_end;simp only [e];rw [if_neg h, if_pos he]
theorem par_31 {L : List Tk} {r : F × Ps} {n : Int} {tk : Tk} (he : r.2.e = 0) (h : r.2.i < L.length) (ht : L[r.2.i]? = some tk) : par_end L r n = .error (31, (tk.at_ : Int)) := by
 have e : (if r.2.e = 0 ∧ r.2.i < L.length then failS r.2 31 (L.getD r.2.i zeroT).at_ else r.2) = { r.2 with e := 31, at_ := (tk.at_ : Int) } := by rw [if_pos ⟨he, h⟩, show L.getD r.2.i zeroT = tk by rw [List.getD_eq_getElem?_getD, ht]; rfl];exact if_pos he
 unfold par_end;simp only [e];rw [if_neg (by decide), if_pos (by decide)]
theorem par_ok {L : List Tk} {r : F × Ps} {n : Int} (he : r.2.e = 0) (h : ¬ r.2.i < L.length) : par_end L r n = .ok (oneF 13 r.1) := by have e : (if r.2.e = 0 ∧ r.2.i < L.length then failS r.2 31 (L.getD r.2.i zeroT).at_ else r.2) = r.2 := if_neg (fun q => h q.2);unfold par_end;simp only [e];rw [if_neg (by rw [he]; decide), if_neg (by simp [he])]
theorem par_new {w : World} {v : Value} {L : List Tk} (hl : TkIn (sees (fun i => decide (i < bl)) w) v L) (hk : LOk L) : Ok bl ((w.alloc (.cells zC.toArray 27)).alloc (.cells (psC v { i := 0 }) 96)) (w.heap.size + 1) v L { i := 0 } ∧
 Below w.heap.size w ((w.alloc (.cells zC.toArray 27)).alloc (.cells (psC v { i := 0 }) 96)) ∧
 ((w.alloc (.cells zC.toArray 27)).alloc (.cells (psC v { i := 0 }) 96)).heap[w.heap.size]? = some (.cells (ndC (lab 0 0)).toArray 27 (0, 0)) ∧
 ((w.alloc (.cells zC.toArray 27)).alloc (.cells (psC v { i := 0 }) 96)).heap.size = w.heap.size + 2 := by
 have hz := World.size_alloc w (.cells zC.toArray 27);have hb := qg (w.alloc (.cells zC.toArray 27)) (.cells (psC v { i := 0 }) 96);have hp := heap_alloc_new (w.alloc (.cells zC.toArray 27)) (.cells (psC v { i := 0 }) 96);rw [hz] at hp;refine ⟨⟨hp, tkIn_mono (qU fun a u h1 hc => ⟨?_, trw.qf (qi (qg w _) hb) hc⟩) hl, hk, Nat.zero_le _, Nat.zero_le _⟩, qi (qg w _) hb, (hb.block _ (by omega)).trans (heap_alloc_new w _), ?_⟩
 ·have := cell_lt hc;simp only [mid, Bool.and_eq_false_iff, dE, dD] at h1 ⊢;omega
 ·rw [World.size_alloc, hz]
theorem par_row {w w' : World} {N n : Nat} {cs : Array Value} {t : Nd} (h : NdAt (vis bl (N + 1) n w) t) (hN : N < n) (hbl : bl ≤ n) (hb : ∀ a v, w.cell? a = some v → w'.cell? a = some v) : NdAt (sees (fun i => decide (i < bl)) (w'.setRow N cs)) t :=
 qY (qU fun a v h1 hc => by simp only [mid, Bool.and_eq_false_iff, dE, dD] at h1 ⊢;exact ⟨by omega, jI cs (hb a v hc) (by omega)⟩) h
theorem par_below {w w2 w3 : World} (h : Below w.heap.size w w2) (hk : Kept w2.heap.size (w.heap.size + 1) w2 w3) : Below w.heap.size w w3 :=
 h.trans ⟨hk.os, hk.tape, hk.output, hk.size, fun q hq => hk.block q (Nat.lt_of_lt_of_le hq h.size) (by omega)⟩
theorem qC {n g : Nat} {w w' : World} (h : Below n w w') (cs : Array Value) (hg : n ≤ g) : Below n w (w'.setRow g cs) :=
 h.trans ⟨rfl, rfl, rfl, by rw [tkw.setRow_size]; exact xL _, fun k hk => tkw.setRow_other _ _ k cs (by omega)⟩
theorem results_nd3 {fn : Func} {p q r : Tmp} (h : fn.results = #[.cell p 27, .tmp q, .tmp r]) (tmps : Array Value) (w : World) (g : Nat) (l : Lab) (hp : tmps.getD p undef = .pointer (some ⟨g, 0, none⟩)) (hg : w.heap[g]? = some (.cells (ndC l).toArray 27 (0, 0))) :
 (results fn tmps).run Try.prog w = .ok (.tuple #[ndV l, tmps.getD q undef, tmps.getD r undef]) w := by
 have hp' : tmps[p]?.getD undef = .pointer (some ⟨g, 0, none⟩) := by simpa using hp
 exact z133
theorem qI {o : Oper} {a : Act} {W : World} {K : Act → World → Prop} {Q : Exit → Act → World → Prop} {ys : Nat → Option Bool} (hgd : o.guard = none) (hd : o.dst = none) (x y : Operand) (ho : o.op = .store 27 x y)
 (g : Nat) (hx : a.eval x = .pointer (some ⟨g, 0, none⟩)) (old : Array Value) (l : Lab) (hg : W.heap[g]? = some (.cells old 27 (0, 0))) (hs : old.size = 12) (h1 : ∀ u ∈ ndC l, u.oneCell' = true) (hy : a.eval y = ndV l)
 (h : K a (W.setRow g (ndC l).toArray)) : if Region.wanted o ys = true then Oper.wp Try.prog o a W K Q else K (a.put o.dst undef) W := by
 rw [if_pos (by unfold Region.wanted; rw [hgd])];unfold Oper.wp execOp;simp only [ho, hx, hy, Instr.storeAt, Instr.sureAddr, Sem.run_bind, Sem.run_pure, Result.andThen_ok, run_store_nd W g old l hg hs h1];simpa [Oper.upon, hd, Act.put] using h
theorem rparse_any (v : Value) (L : List Tk) (n : Int) (w : World) (hbl : bl ≤ w.heap.size) (hl : TkIn (sees (fun i => decide (i < bl)) w) v L) (hk : LOk L) : Calls Try.prog 33 #[v, .int .i64 n] w (ParB bl w (parseP L n)) := by
 obtain ⟨R, hR⟩ : ∃ R, parseP L n = R := ⟨_, rfl⟩;rw [hR];have hok := par_new hl hk;have HC := xH ((run_all (bl := bl) (P := w.heap.size + 1) (v := v) (L := L) (3 * L.length + 3)).2.2 _ (xL _) { i := 0 } _ hok.1 (by unfold rem; simp));have HI := xH (zq L (3 * L.length + 3) (.alt .nil) { i := 0 } hok.1.i hok.1.op (fun h => by cases h)).1;have HR0 := xH (show par_end L (run L (3 * L.length + 3) (.alt .nil) { i := 0 }) n = R from hR);have HOK := xH hok.1;have HB2 := xH hok.2.1;have HN2 := xH hok.2.2.1;have HZ2 := xH hok.2.2.2;have HLK := xH hk;have HBL := xH hbl;obtain ⟨va, vc, rfl⟩ : ∃ a c, v = .slice a L.length c := by obtain ⟨a, c, h, _⟩ := hl;exact ⟨a, c, h⟩
 clear hR hok hk hl hbl;unfold psC at HOK HC HB2 HN2 HZ2;unfold zC at HOK HC HB2 HN2 HZ2;generalize run L (3 * L.length + 3) (.alt .nil) { i := 0 } = r at *;go_enter Try.func33, Try.ntmps33;go_wp2_with fail
 refine HC.out.mono ?_;rintro e w3 ⟨u, f, rfl, ho, hst, hp, hk⟩;have HO3 := xH ho;have HST := xH hst;have HOK3 := xH (HOK.out.step hp hk HI.out);have HB := xH (par_below HB2.out hk);have HN := xH ((hk.block w.heap.size (by have := HZ2.out; omega) (by omega)).trans HN2.out);have H1 := xH (qp (zero_at w3));have hin : r.2.i ≤ 50000 := by have := HOK3.out.i; have := HLK.out.n; omega
 have hln : L.length ≤ 50000 := HLK.out.n;obtain ⟨_, c1, _, c3, c4, _, _, _, _⟩ := ps_c hp;have HE3 := xH c3;have HE4 := xH c4;clear ho hst hp hk HC HB2 HN2 HOK HI;by_cases he : r.2.e = 0;case neg =>
  have b0 : (r.2.e == 0) = false := by simpa using he
  by_cases h20 : r.2.e = 20
  ·have b20 : (r.2.e == 20) = true := by simp [h20]
   have HR := xH (HR0.out.symm.trans (par_20 he h20));clear HR0;go_wp2_with fail
   refine wp_region_held_drew (S := fun w' => w'.cell? ⟨w.heap.size + 1, 3, none⟩ = some (.int .i64 r.2.e) ∧ w'.cell? ⟨w.heap.size + 1, 4, none⟩ = some (.int .i64 r.2.at_) ∧ w'.heap[w.heap.size]? = some (.cells (ndC (lab 0 0)).toArray 27 (0, 0))) (by kernel_rfl) ⟨trw.qf (qL _) HE3.out, trw.qf (qL _) HE4.out, HN.out⟩ (fun hHeld => ?_);refine yT 0 ?_;simp only [xS];refine yT 1 ?_;simp only [xS];refine yT 2 ?_;simp only [xS];refine yT 3 ?_;simp only [xS];refine xT 4 rfl ?_ ?_ ?_;rotate_left
   ·intro w' hSw;obtain ⟨q0, q1, q2⟩ := hSw;go_simp;try rfl
   simp only [xS];refine yT 5 ?_;simp only [xS];refine xD 6 rfl (fun K hK => ?_);refine qI rfl rfl _ _ rfl w.heap.size rfl _ (lab 0 0) hHeld.2.2 rfl H1.out rfl ?_;refine hK.out _ _ ⟨jI _ hHeld.1 (by show w.heap.size + 1 ≠ w.heap.size; omega), jI _ hHeld.2.1 (by show w.heap.size + 1 ≠ w.heap.size; omega), setRow_heap _ _ _ _ _ _ hHeld.2.2⟩ (fun _ => ?_);clear hK K;refine yT 7 ?_;simp only [xS];refine yT 8 ?_;exact z39
  ·have b20 : (r.2.e == 20) = false := by simp [h20]
   have b0 : (r.2.e != 0) = true := by simpa using he
   have HR := xH (HR0.out.symm.trans (par_e he h20));clear HR0;go_wp2_with fail
   refine wp_region_held_drew (S := fun w' => w'.cell? ⟨w.heap.size + 1, 3, none⟩ = some (.int .i64 r.2.e) ∧ w'.cell? ⟨w.heap.size + 1, 4, none⟩ = some (.int .i64 r.2.at_) ∧ w'.heap[w.heap.size]? = some (.cells (ndC (lab 0 0)).toArray 27 (0, 0))) (by kernel_rfl) ⟨trw.qf (qL _) HE3.out, trw.qf (qL _) HE4.out, HN.out⟩ (fun hHeld => ?_);refine yT 0 ?_;simp only [xS];refine yT 1 ?_;simp only [xS];refine yT 2 ?_;simp only [xS];refine yT 3 ?_;simp only [xS];refine xT 4 rfl ?_ ?_ ?_;rotate_left
   ·intro w' hSw;obtain ⟨q0, q1, q2⟩ := hSw;go_simp;try rfl
   simp only [xS];refine yT 5 ?_;simp only [xS];refine yT 6 ?_;simp only [xS];refine yT 7 ?_;simp only [xS];refine xT 8 rfl ?_ ?_ ?_;rotate_left
   ·intro w' hSw;obtain ⟨q0, q1, q2⟩ := hSw;go_simp;try rfl
   simp only [xS];refine xD 9 rfl (fun K hK => ?_);refine qI rfl rfl _ _ rfl w.heap.size rfl _ (lab 0 0) hHeld.2.2 rfl H1.out rfl ?_;refine hK.out _ _ ⟨jI _ hHeld.1 (by show w.heap.size + 1 ≠ w.heap.size; omega), jI _ hHeld.2.1 (by show w.heap.size + 1 ≠ w.heap.size; omega), setRow_heap _ _ _ _ _ _ hHeld.2.2⟩ (fun _ => ?_);clear hK K;refine yT 10 ?_;simp only [xS];refine yT 11 ?_;exact z39
 have b0 : (r.2.e == 0) = true := by simp [he]
 by_cases hi : r.2.i < L.length;case pos =>
  obtain ⟨tk, htk⟩ : ∃ tk, L[r.2.i]? = some tk := ⟨L[r.2.i], List.getElem?_eq_getElem hi⟩;have HR := xH (HR0.out.symm.trans (par_31 he hi htk));obtain ⟨g, oo, cap, sv, hv, hc1, hc2, hil, hgm, hrg, hcs⟩ := tk_at HOK3.out.l htk;cases hv;have k1 := hcs 1 _ rfl;have HP := xH HOK3.out.p;clear HR0 hgm hrg hcs htk;go_wp2_with fail
  refine (fail_any _ _ r.2 31 (tk.at_ : Int) w3 HP.out).mono ?_;rintro e w4 ⟨rfl, hp, hk⟩;rw [show failS r.2 31 (tk.at_ : Int) = { r.2 with e := 31, at_ := (tk.at_ : Int) } from if_pos he] at hp;have HB4 := xH (show Below w.heap.size w w4 from HB.out.trans ⟨hk.os, hk.tape, hk.output, hk.size, fun q hq => hk.block q (Nat.lt_of_lt_of_le hq HB.out.size) (by omega)⟩);have HN4 := xH ((hk.block w.heap.size (by have := HP.out; have := ps_lt this; omega) (by omega)).trans HN.out);obtain ⟨_, _, _, d3, d4, _, _, _, _⟩ := ps_c hp;have HE5 := xH (show w4.cell? ⟨w.heap.size + 1, 3, none⟩ = some (.int .i64 31) from d3);have HE6 := xH (show w4.cell? ⟨w.heap.size + 1, 4, none⟩ = some (.int .i64 (tk.at_ : Int)) from d4);clear hp hk HE3 HE4 HB HN d3 d4 c1 c3 c4 k1;have c3 := HE5.out;have c4 := HE6.out;dsimp only;go_wp2_with fail
  refine wp_region_held_drew (S := fun w' => w'.cell? ⟨w.heap.size + 1, 3, none⟩ = some (.int .i64 31) ∧ w'.cell? ⟨w.heap.size + 1, 4, none⟩ = some (.int .i64 (tk.at_ : Int)) ∧ w'.heap[w.heap.size]? = some (.cells (ndC (lab 0 0)).toArray 27 (0, 0))) (by kernel_rfl) ⟨trw.qf (qL _) HE5.out, trw.qf (qL _) HE6.out, HN4.out⟩ (fun hHeld => ?_);refine yT 0 ?_;simp only [xS];refine yT 1 ?_;simp only [xS];refine yT 2 ?_;simp only [xS];refine yT 3 ?_;simp only [xS];refine xT 4 rfl ?_ ?_ ?_;rotate_left
  ·intro w' hSw;obtain ⟨q0, q1, q2⟩ := hSw;go_simp;try rfl
  simp only [xS];refine yT 5 ?_;simp only [xS];refine yT 6 ?_;simp only [xS];refine yT 7 ?_;simp only [xS];refine xT 8 rfl ?_ ?_ ?_;rotate_left
  ·intro w' hSw;obtain ⟨q0, q1, q2⟩ := hSw;go_simp;try rfl
  simp only [xS];refine xD 9 rfl (fun K hK => ?_);refine qI rfl rfl _ _ rfl w.heap.size rfl _ (lab 0 0) hHeld.2.2 rfl H1.out rfl ?_;refine hK.out _ _ ⟨jI _ hHeld.1 (by show w.heap.size + 1 ≠ w.heap.size; omega), jI _ hHeld.2.1 (by show w.heap.size + 1 ≠ w.heap.size; omega), setRow_heap _ _ _ _ _ _ hHeld.2.2⟩ (fun _ => ?_);clear hK K;refine yT 10 ?_;simp only [xS];refine yT 11 ?_;simp only [xS];refine wpAnyH_done (by kernel_rfl) ?_ _;go_wp2_with fail
  refine xB (results_nd3 rfl _ _ w.heap.size (lab 0 0) rfl (setRow_heap _ _ _ _ _ _ HN4.out)) rfl ?_;refine ⟨qC (HB4.out.trans (Below.refl _ _).drew) _ (xL _), ?_⟩;rw [HR.out];rfl
 have bi : ¬ ((r.2.i : Int) < (L.length : Int)) := by omega
 have HR := xH (HR0.out.symm.trans (par_ok he hi));have HVT := xH (zk 13 (by unfold I64; omega) (zF HO3.out));have HKD := xH (jh (fun _ _ hc => vis_to hc) (zF HO3.out));have HOS := xH (jV 13 u f);have HON := xH (one_any 13 (by unfold I64; omega) u f w3 HKD.out);clear HR0;generalize oneR 13 u f = t at *;go_wp2_with fail
 refine HON.out.mono ?_;rintro e w4 ⟨rfl, hb⟩;have HN4 := xH ((hb.block w.heap.size (by have h := HN.out; apply dC; intro hn; rw [dH (by omega)] at h; cases h)).trans HN.out);have HB4 := xH (show Below w.heap.size w w4 from HB.out.trans (hb.mono HB.out.size));have HT4 := xH (fun cs => par_row (cs := cs) HVT.out (by rw [HZ2.out]; omega) (by rw [HZ2.out]; have := HBL.out; omega) (fun _ _ hc => trw.qf hb hc));have H2 := xH (qp HVT.out);clear hb HN HB;dsimp only;go_wp2_with (refine qh rfl rfl _ _ rfl w.heap.size rfl _ t.1 HN4.out rfl H2.out rfl ?_)
 refine xB (results_nd3 rfl _ _ w.heap.size t.1 rfl (setRow_heap _ _ _ _ _ _ HN4.out)) rfl ?_;refine ⟨qC HB4.out _ (xL _), ?_⟩;rw [HR.out];refine ⟨t.1, t.2, rfl, ?_, ?_⟩
 ·exact HT4.out _
 ·rw [HOS.out, HST.out]
end rpw
end
section
namespace rsw
open sq
open Go.Sort Go Go.RowKit Go.Maps tkp trp trw rpp rsp
open rpw (sees jB qU fC jP FSub vw jQ app_sub jH jm own_below qp)
def Old (h : Nat → Bool) (n : Nat) : Prop := ∀ i, h i = true → i < n
theorem Old.le {h : Nat → Bool} {n m : Nat} (H : Old h n) (hn : n ≤ m) : Old h m := fun i hi => Nat.lt_of_lt_of_le (H i hi) hn
def hx (h : Nat → Bool) (v : Value) (i : Nat) : Bool := h i || decide (v.ownBlock = some i)
theorem hx_old {h : Nat → Bool} {n m : Nat} {w : World} {v : Value} {e : TypeId} {s k : Nat} {xs : List Value} (H : Old h n) (hn : n ≤ m) (hr : w.ownsRow n e s v k xs) (hw : w.heap.size ≤ m) : Old (hx h v) m := fun i hi => by
 simp only [hx, Bool.or_eq_true, dF] at hi;rcases hi with hi | hi
 ·have := H i hi; omega
 ·have := own_below hr hi; omega
def OwnH (h : Nat → Bool) (n : Nat) (w : World) (v : Value) (f : F) : Prop := w.ownsRow n 27 12 v f.len (fC f) ∧ (f.len = 0 → v = nil3) ∧ FSub (sees (hx h v) w) f
theorem ownH_nil (h : Nat → Bool) (n : Nat) (w : World) : OwnH h n w nil3 .nil := ⟨World.ownsRow_nil w n _ 12, fun _ => rfl, trivial⟩
theorem sees_below {h : Nat → Bool} {w w' : World} (hb : Below w.heap.size w w') : ∀ a v, (sees h w).cell? a = some v → (sees h w').cell? a = some v := qU fun _ _ h1 hc => ⟨h1, trw.qf hb hc⟩
theorem qV {h : Nat → Bool} {w w' : World} (hb : Below w.heap.size w w') {t : Nd} (H : NdAt (sees h w) t) : NdAt (sees h w') t := qY (sees_below hb) H
theorem kidsH_below {h : Nat → Bool} {w w' : World} (hb : Below w.heap.size w w') {v : Value} {k : F} (H : jr (sees h w) v k) : jr (sees h w') v k := jh (sees_below hb) H
theorem sees_to {h : Nat → Bool} {w : World} {a : Addr} {v : Value} (hc : (sees h w).cell? a = some v) : w.cell? a = some v := (jB.1 hc).2
theorem zY {h : Nat → Bool} {w w' : World} {v : Value} {n : Nat} (hb : Below n w w') (hn : w.heap.size ≤ n) (hv : ∀ g, v.ownBlock = some g → n ≤ g) : ∀ a u, (sees h w).cell? a = some u → (sees (hx h v) w').cell? a = some u :=
 qU fun a u h1 hc => by have hl := cell_lt hc;refine ⟨?_, (World.cell?_of_block (hb.block a.block (by omega))).trans hc⟩;simp only [hx, h1, Bool.false_or, dD];intro e;have := hv _ e;omega
theorem fAt_C {w : World} {b : Nat} : ∀ {f : F} {o : Nat}, FAt w b o f → ∀ j u, (fC f)[j]? = some u → w.cell? ⟨b, o + j, none⟩ = some u
 | .nil, _, _, j, u, hj => by simp [fC] at hj
 | .cons x k r, o, H, j, u, hj => by
  by_cases h : j < 12
  ·exact H.1 j u (by rw [fC, List.getElem?_append_left (by simpa [ndC] using h)] at hj; exact hj)
  ·have := fAt_C (fAt_tail H) (j - 12) u (by rw [fC, List.getElem?_append_right (by simp [ndC]; omega)] at hj; simpa [ndC] using hj);rw [show o + j = o + 12 + (j - 12) by omega];exact this
theorem fAt_sub {w : World} {b : Nat} : ∀ {f : F} {o : Nat}, FAt w b o f → FSub w f
 | .nil, _, _ => trivial
 | .cons _ _ _, _, H => ⟨fAt_head H, fAt_sub (fAt_tail H)⟩
theorem fC_one {w : World} : ∀ {f : F}, FSub w f → ∀ u ∈ fC f, u.oneCell' = true
 | .nil, _, u, hu => by simp [fC] at hu
 | .cons x k r, H, u, hu => by
  rw [fC, List.mem_append] at hu;rcases hu with hu | hu
  ·exact qp H.1 u hu
  ·exact fC_one H.2 u hu
theorem own_fAtH {w w' : World} {g : Nat} : ∀ {f : F} {o : Nat}, FSub w f → (∀ a v, w.cell? a = some v → w'.cell? a = some v) → (∀ j v, (fC f)[j]? = some v → w'.cell? ⟨g, o + j, none⟩ = some v) → FAt w' g o f := fun h1 h2 h3 => rpw.vW h1 h2 h3
theorem ownH_kids {h : Nat → Bool} {n : Nat} {w : World} {v : Value} {f : F} (H : OwnH h n w v f) (ho : Old h n) : jr (sees h w) v f := by
 rcases H.1.2 with ⟨hv, h0⟩ | ⟨g, cap, cur, hv, hg, hh, h1, h2, _, _⟩
 ·exact ⟨none, 0, by rw [hv, h0], by omega, by decide, Or.inl h0⟩
 ·unfold maxLen at h2;refine ⟨_, cap, hv, h1, by omega, Or.inr ⟨g, 0, rfl, own_fAtH H.2.2 (qU fun a u k1 kc => ⟨?_, kc⟩) fun j u hj => jB.2 ⟨?_, ?_⟩⟩⟩
  ·simp only [hx, dE] at k1;exact k1.1
  ·cases e : h g with
   | false => rfl
   | true => have := ho g e; omega
  ·rw [Nat.zero_add, World.ownsRow.cellAt (hv ▸ H.1) j (by have := (List.getElem?_eq_some_iff.1 hj).1; rw [jP] at this; exact this)];exact hj
theorem ownH_below {h : Nat → Bool} {n : Nat} {w w' : World} {v : Value} {f : F} (H : OwnH h n w v f) (hb : Below w.heap.size w w') : OwnH h n w' v f :=
 ⟨tkw.jJ H.1 (fun k hk => hb.block k (own_below H.1 hk).2), H.2.1, vw (sees_below hb) H.2.2⟩
theorem wpList_append_h {ops : Array Oper} {rest : List Oper} {o : Oper} {a : Act} {w : World} {Q : Exit → Act → World → Prop} (hgd : o.guard = none) (s x : Operand)
 (ho : o.op = .call { callee := .builtin .append, args := #[s, x], argTypes := #[25, 25] }) (h : Nat → Bool) (n : Nat) (v : Value) (f : F) (hs : a.eval s = v) (hown : OwnH h n w v f) (_hold : Old h n)
 (vx : Value) (gf : F) (hx' : a.eval x = vx) (hgf : jr (sees (hx h v) w) vx gf) (hlen : f.len + gf.len ≤ 200000) (hbase : n ≤ w.heap.size)
 (hq : ∀ v' w', OwnH h n w' v' (F.app f gf) → Below n w w' → wpList Try.prog ops Q rest (a.put o.dst v') w') :
 wpList Try.prog ops Q (o :: rest) a w := by
 obtain ⟨i0, hi, hz0, hz1, hz2⟩ := info_parts infoNd;by_cases h0 : gf.len = 0
 ·obtain ⟨ga, gc, rfl, hgc1, hgc2, _⟩ := hgf;have hgn : gf = .nil := by
   cases gf with
   | nil => rfl
   | cons _ _ _ => simp [F.len] at h0
  subst hgn;refine wpList_plain hgd fun K hK => ?_
  have hrun := setw.run_append_zero (P := Try.prog) (w := w) 25 o.type i0 Try.underlying25 hi hown.1 ga gc;unfold Oper.wp;simp [execOp, ho, resolve, invoke, builtin, hs, hx', hrun, Result.andThen, F.len];exact hK _ _ (hq v w (by rw [app_nil]; exact hown) (Below.refl _ _))
 ·obtain ⟨ga, gc, rfl, hgc1, hgc2, h1 | ⟨b, go, rfl, hfa⟩⟩ := hgf
  ·exact absurd h1 h0
  refine wpList_plain hgd fun K hK => ?_
  obtain ⟨v', w', hr, h2, h3, _, h5⟩ := run_append_own_at (P := Try.prog) w n 25 o.type 27 i0 _ 12 136 Try.underlying25 hi hz0 hz1 hz2 rfl (by decide) v f.len (fC f) hown.1 ⟨b, go, none⟩ gf.len gc (fC gf) (jP gf)
   (fun j u hj => by rw [add_plain];exact sees_to (fAt_C hfa j u hj)) (fC_one (fAt_sub hfa)) (by unfold maxLen; omega) (by omega) hbase
  unfold Oper.wp execOp;simp only [ho, resolve, invoke, builtin, Sem.run_bind, Sem.run_pure, Result.andThen_ok, List.map_toArray, List.map_cons, List.map_nil, hs, hx', hr];have hlt := World.ownsRow.lt hown.1;have hblk : ∀ q, q < w.heap.size → v.ownBlock ≠ some q → w'.heap[q]? = w.heap[q]? := fun q hq hne => h3.block q hq (fun e => hne e.symm)
  have hbw : Below n w w' := (Below.refl n w).grown h3 hbase (fun k hk => (hlt k hk).1);have hv' : ∀ g, v'.ownBlock = some g → v.ownBlock = some g ∨ w.heap.size ≤ g := fun g hg' => by exact z131
  have hK2 := hK _ _ (hq v' w' ⟨by rw [jd, jQ]; exact h2, fun e => by rw [jd] at e;exact absurd (show gf.len = 0 by omega) h0, ?_⟩ hbw)
  ·simpa [Oper.upon] using hK2
  ·have key : ∀ a u, hx h v a.block = false → w.cell? a = some u → hx h v' a.block = false ∧ w'.cell? a = some u := fun a u k1 kc => by simp only [hx, dE, dD] at k1 ⊢;exact z106
   exact app_sub (vw (qU key) hown.2.2) (vw (qU key) (fAt_sub hfa))
end rsw
end
section
namespace rsw
open sq
open Go.Sort Go Go.RowKit Go.Maps setp setw tkp trp trw rpp rsp
open rpw (sees jB qU fC jP FSub vw jQ app_sub jH jm own_below qp oneR zk jV qA qh jU lab_ok rg_nil ql)
open tkw (qM)
def SetB (w : World) (S : List Rg) (e : Ending) (w' : World) : Prop := ∃ v, e = .returned v ∧ OwnR w' w.heap.size v S ∧ Below w.heap.size w w'
theorem rg_rs {h : Nat → Bool} {w : World} {v : Value} {l : List Rg} (H : RgAt (sees h w) v l) : RsAt w v l := by
 obtain ⟨a, cap, rfl, h1, h2, h3⟩ := H;by_cases hl : l = []
 ·subst hl;exact ⟨fun r hr => (by cases hr), Or.inl ⟨rfl, a, cap, rfl, h2⟩⟩
 ·rcases h3 with h3 | ⟨b, o, rfl, hc⟩
  ·exact absurd h3 hl
  ·refine ⟨fun r hr => ?_, Or.inr ⟨hl, b, o, cap, rfl, h1, h2, fun i hi => ?_⟩⟩
   ·obtain ⟨i, hi, rfl⟩ := List.getElem_of_mem hr;have := hc i _ (List.getElem?_eq_getElem hi);exact ⟨this.2.2.1, this.2.2.2⟩
   ·have := hc i _ (List.getElem?_eq_getElem hi);exact ⟨sees_to this.1, sees_to this.2.1⟩
theorem own_rg {h : Nat → Bool} {n : Nat} {w : World} {v : Value} {S : List Rg} (H : OwnR w n v S) (hS : Wf S) (ho : Old h n) : RgAt (sees h w) v S := by
 by_cases hl : S = []
 ·subst hl;exact ⟨none, 0, H.2 rfl, by simp, by decide, Or.inl rfl⟩
 ·obtain ⟨g, cap, hv, hg, h1, h2, hc⟩ := ownR_slice H hl;refine ⟨_, cap, hv, h1, h2, Or.inr ⟨g, 0, rfl, fun i r hr => ?_⟩⟩;have hi := (List.getElem?_eq_some_iff.1 hr).1;have he : S[i] = r := (List.getElem?_eq_some_iff.1 hr).2;have hh : h g = false := by
   cases e : h g with
   | false => rfl
   | true => have := ho g e; omega
  have hw := hS r (he ▸ dI hi);refine ⟨jB.2 ⟨hh, ?_⟩, jB.2 ⟨hh, ?_⟩, hw.1, hw.2⟩
  ·have := (hc i hi).1; rw [he] at this; simpa using this
  ·have := (hc i hi).2; rw [he] at this; simpa using this
theorem own_lit {R : List Rg} {n B : Nat} {cs : Array Value} {w : World} (hB : B = w.heap.size) (h : cs.toList = rcs R) (hn : n = R.length) (hR : R ≠ []) (hl : R.length ≤ 1000) : OwnR (w.alloc (.cells cs 69)) w.heap.size (.slice (some ⟨B, 0, none⟩) n n) R := by subst hB;subst hn;refine ⟨?_, fun e => absurd e hR⟩;have h2 := World.ownsRow_lit (base := w.heap.size) (e := 69) (size := 2) w cs R.length (xL _) (by unfold maxLen; omega) (by rw [← Array.length_toList, h, rcs_len]);rw [h] at h2;exact h2
theorem turn_any (f on off : Int) (w : World) : Calls Try.prog 77 #[.int .i64 f, .int .i64 on, .int .i64 off] w (trw.IntB (turnI f on off) w) := by
 go_enter Try.func77, Try.ntmps77;go_wp2_with fail
 go_ret
 exact ⟨rfl, Below.refl _ _⟩
theorem oneS_any (c : Int) (w : World) : Calls Try.prog 74 #[.int .i64 c] w (SetB w [(c, c)]) := by
 go_enter Try.func74, Try.ntmps74;go_wp2_with fail
 go_ret
 exact ⟨_, rfl, own_lit rfl rfl rfl (by simp) (by simp), qg _ _⟩
theorem seq_any (v : Value) (f : F) (w : World) (hk : jr w v f) : Calls Try.prog 76 #[v] w (fun e w' => e = .returned (ndV (oneR 12 v f).1) ∧ Below w.heap.size w w') := by
 have H1 := xH (qp (zk 12 (by unfold I64; omega) hk));obtain ⟨a, cap, rfl⟩ := kids_len hk;have HK := xH hk;have hg := heap_alloc_new w (.cells zC.toArray 27);have HG := xH hg;clear hk hg;unfold zC at HG;by_cases h1 : f.len = 1
 ·obtain ⟨x, k, rfl⟩ : ∃ x k, f = .cons x k .nil := by
   match f, h1 with
   | .nil, h => simp [F.len] at h
   | .cons x k .nil, _ => exact ⟨x, k, rfl⟩
   | .cons _ _ (.cons _ _ _), h => simp [F.len] at h
  obtain ⟨b, o, q, hv, _, _, _, hf⟩ := kid_at HK.out (i := 0) rfl;cases hv;have hcs := hf.1;have hbl := qg w (.cells zC.toArray 27);have HC := xH (fun j u hj => trw.qf hbl (hcs j u hj));simp only [zC] at HC;clear hf hcs hbl HK h1;go_enter Try.func76, Try.ntmps76;go_wp2_with (first
   | (refine jv rfl _ rfl b (o + 0 * 12) rfl x HC.out ?_)
   | (refine qh rfl rfl _ _ rfl w.heap.size rfl _ x HG.out rfl H1.out rfl ?_))
  refine xB (qA rfl _ _ w.heap.size x rfl (setRow_heap _ _ _ _ _ _ HG.out)) rfl ?_;exact ⟨rfl, jU _ _ _ _⟩
 ·have h1i : ¬ (f.len : Int) = 1 := by omega
  have hR : oneR 12 (.slice a f.len cap) f = ({ lab 12 0 with kv := .slice a f.len cap }, f) := by
   match f, h1 with
   | .nil, _ => rfl
   | .cons x k .nil, h => exact absurd rfl h
   | .cons _ _ (.cons _ _ _), _ => rfl
  rw [hR] at H1 ⊢;generalize f.len = n at *;clear HK hR;go_enter Try.func76, Try.ntmps76;go_wp2_with (refine qh rfl rfl _ _ rfl w.heap.size rfl _ { lab 12 0 with kv := .slice a n cap } HG.out rfl H1.out rfl ?_)
  refine xB (qA rfl _ _ w.heap.size { lab 12 0 with kv := .slice a n cap } rfl (setRow_heap _ _ _ _ _ _ HG.out)) rfl ?_;exact ⟨rfl, jU _ _ _ _⟩
def ListB (h : Nat → Bool) (r : F) (w : World) (e : Ending) (w' : World) : Prop := Below w.heap.size w w' ∧ ∃ v g, e = .returned v ∧ jr (sees h w') v g ∧ strip g = r
theorem row1_kids {h : Nat → Bool} {w : World} {x : Lab} {k : F} (hn : NdAt (sees h w) (x, k)) (ho : Old h w.heap.size) : jr (sees h (w.alloc (.cells (ndC x).toArray 27))) (.slice (some ⟨w.heap.size, 0, none⟩) 1 1) (F.one x k) := by
 have hn' := qV (qg w (.cells (ndC x).toArray 27)) hn;refine ⟨_, 1, rfl, xL _, by decide, Or.inr ⟨w.heap.size, 0, rfl, fun j u hj => jB.2 ⟨?_, ?_⟩, ⟨hn'.1, hn'.2.1⟩, hn'.2.2, trivial⟩⟩
 ·show h w.heap.size = false;cases e : h w.heap.size with
  | false => rfl
  | true => have := ho _ e; omega
 ·rw [Nat.zero_add, World.cell?_alloc_new];simpa using hj
theorem list_any (h : Nat → Bool) (x : Lab) (k : F) (w : World) (ho : Old h w.heap.size) (hn : NdAt (sees h w) (x, k)) : Calls Try.prog 78 #[ndV x] w (ListB h (listF (bare x) (strip k)) w) := by
 have HN := xH hn;have HO := xH ho;have H0 := xH (row1_kids (qV (qg w (.cells (ndC x).toArray 27)) hn) (ho.le (qg w _).size));have HB := xH (qi (qg w (.cells (ndC x).toArray 27)) (qg _ (.cells (ndC x).toArray 27)));have HG := xH (heap_alloc_new w (.cells (ndC x).toArray 27));have HZ := xH (World.size_alloc w (.cells (ndC x).toArray 27));have HK := xH (kidsH_below (qg w (.cells (ndC x).toArray 27)) hn.2.2);clear hn ho;by_cases h12 : x.kind = 12
 ·have hl : listF (bare x) (strip k) = strip k := if_pos h12;rw [hl];have b12 : (x.kind == 12) = true := by simp [h12]
  clear hl h12;unfold ndV;unfold ndC at HG HK;go_enter Try.func78, Try.ntmps78;go_wp2_with fail
  go_ret
  exact ⟨qg _ _, _, k, rfl, HK.out, rfl⟩
 ·have hl : listF (bare x) (strip k) = F.one (bare x) (strip k) := if_neg h12;rw [hl];have b12 : (x.kind == 12) = false := by simp [h12]
  clear hl h12;unfold ndV;unfold ndC at HG H0 HB HZ;go_enter Try.func78, Try.ntmps78;go_wp2_with (refine ql rfl _ rfl w.heap.size rfl x HG.out ?_)
  go_ret
  refine ⟨HB.out, _, F.one x k, rfl, ?_, rfl⟩;have := H0.out;rw [HZ.out] at this;exact this
theorem canon_half_from : ∀ {S : List Rg} {lo : Int}, Canon S → (∀ r ∈ S, lo ≤ r.1) → lo ≤ 1114113 → lo + 2 * S.length ≤ 1114113
 | [], lo, _, _, h => by simpa using h
 | r :: S, lo, h, hl, _ => by have hr := h.2 r (dJ ..);have h1 := hl r (dJ ..);have := canon_half_from (lo := r.2 + 2) (canon_tail h) (fun x hx => by have := (List.pairwise_cons.1 h.1).1 x hx; omega) (by omega);simp only [dB];omega
theorem canon_half {S : List Rg} (h : Canon S) : S.length ≤ 590000 := by have := canon_half_from (lo := 0) h (fun r hr => (h.2 r hr).1) (by omega);omega
def ctxV (u : Bool) (m : Int) : Value := .agg #[.bool u, .int .i64 m]
theorem set_len (m : Int) (l : List Rg) (u : Bool) (hl : l.length ≤ 90000) : (normR m (caseM (normR m l) u)).length ≤ 100000 := by have a := tkw.yg m (caseM (normR m l) u);have b := caseM_len (normR m l) u;have c := tkw.yg m l;omega
theorem set_any (u : Bool) (m : Int) (hm0 : 0 ≤ m) (hm : m ≤ 1114111) (v : Value) (l : List Rg) (cl neg : Bool) (w : World) (hv : RsAt w v l) (hl : l.length ≤ 90000) : Calls Try.prog 73 #[ctxV u m, v, .bool cl, .bool neg] w (SetB w (setP u m l cl neg)) := by
 have hmin : min m 1114111 = m := by omega
 have HM := xH hmin;have HV := xH (jl hv (qg w (.cells #[.bool u, .int .i64 m] 101)));have HB0 := xH (qg w (.cells #[.bool u, .int .i64 m] 101));have c0 : (w.alloc (.cells #[.bool u, .int .i64 m] 101)).cell? ⟨w.heap.size, 0, none⟩ = some (.bool u) := by unfold World.cell?; rw [heap_alloc_new]; rfl
 have c1 : (w.alloc (.cells #[.bool u, .int .i64 m] 101)).cell? ⟨w.heap.size, 1, none⟩ = some (.int .i64 m) := by unfold World.cell?; rw [heap_alloc_new]; rfl
 obtain ⟨y1, y2, rfl⟩ := jg hv;clear hv hmin;unfold ctxV;go_enter Try.func73, Try.ntmps73;go_wp2_with fail
 generalize w.alloc _ = w0 at *;refine (rnew_any _ l m w0 HV.out (by omega) (by omega) (by omega)).mono ?_;rintro e w1 ⟨v1, Z, rfl, hS, hh, ho, hb⟩;have hZ := normR_only (l := l) hm hS (fun c => by rw [hh, HM.out]);rw [hZ] at hS ho;have HO1 := xH ho;have HC1 := xH hS;have HL1 := xH (show (normR m l).length ≤ 590000 by have := tkw.yg m l; omega);have HV1 := xH (vP ho (setw.jX hS.2));have HB1 := xH (qi HB0.out hb);have HZ1 := xH (show w.heap.size ≤ w0.heap.size from HB0.out.size)
 replace c0 := trw.qf hb c0
 replace c1 := trw.qf hb c1
 obtain ⟨z1, z2, rfl⟩ := qN ho;clear hS hh ho hb hZ HV HB0;cases cl with
 | false =>
  have HLY := xH (show (normR m l).length ≤ 100000 from (by have := tkw.yg m l; omega));cases neg with
  | true =>
   have hset : setP u m l false true = notR m (normR m (normR m l)) := rfl;go_wp2_with fail
   refine (join2_any _ (.slice none 0 0) (normR m l) [] m w1 HV1.out (rs_nil _) HLY.out (by decide) (by omega) (by omega)).mono ?_;rintro e w4 ⟨v4, Z4, rfl, hS, hh, ho, hb⟩;have hZ4 := notR_only hm hS (ja hm (normR m l)) (fun c => by
    rw [hh, HM.out, qB_not, normR_has hm (normR m l) c];constructor
    ·rintro ⟨a, b, d⟩;exact ⟨a, b, fun e => d e.1⟩
    ·rintro ⟨a, b, d⟩;exact ⟨a, b, fun e => d ⟨e, a, b⟩⟩)
   rw [hZ4] at ho;obtain ⟨r1, r2, rfl⟩ := qN ho;have HO4 := xH (qM ho (show w.heap.size ≤ w1.heap.size from HB1.out.size));have HB4 := xH (qi HB1.out hb);clear hS hh ho hb hZ4;go_wp2_with fail
   go_ret
   exact ⟨_, rfl, HO4.out, HB4.out⟩
  | false =>
   have hset : setP u m l false false = normR m l := rfl;go_wp2_with fail
   go_ret
   exact ⟨_, rfl, qM HO1.out HZ1.out, HB1.out⟩
 | true =>
  go_wp2_with fail
  refine wp_region_held_drew (S := fun w' => Below w1.heap.size w1 w') (by kernel_rfl) (Below.refl _ w1).drew (fun hHeld => ?_);refine yT 0 ?_;simp only [xS];refine yT 1 ?_;simp only [xS];refine yG 2 (fun w' hSw => trw.qf hSw c0) (fun w' hSw => trw.qf hSw c1) ?_;simp only [xS];refine yT 4 ?_;simp only [xS];refine yG 5 (fun w' hSw => trw.qf hSw c0) (fun w' hSw => trw.qf hSw c1) ?_;simp only [xS];refine xD 3 rfl (fun K hK => ?_);go_simp;refine (rcase_any _ _ u _ (jl HV1.out hHeld) HC1.out.2 HL1.out).mono ?_;rintro e w2 ⟨v2, Z2, rfl, hS2, hh2, ho2, hb2⟩;have HW2 := xH (vP ho2 (setw.jX hS2.2));have HS2 := xH hS2;have HH2 := xH hh2;have HB2 := xH (hHeld.trans (hb2.mono hHeld.size));clear ho2 hS2 hh2 hb2;refine hK.out _ _ HB2.out (fun hHeld => ?_);clear hK K;try simp only [xS]
  refine xD 6 rfl (fun K hK => ?_);obtain ⟨q1, q2, rfl⟩ := jg HW2.out;go_simp;refine (zZ _ Z2 m w2 HW2.out (by have := canon_half HS2.out; omega) (by omega) (by omega)).mono ?_;rintro e w3 ⟨v3, Z3, rfl, hS3, hh3, ho3, hb3⟩;have hZ3 := normR_only (l := caseM (normR m l) u) hm hS3 (fun c => by
   have e1 : Has Z2 c ↔ (Has (normR m l) c ∨ ∃ d, Has (normR m l) d ∧ c ∈ ucdp.jy d u) := HH2.out c;have e2 := caseM_has (u := u) HC1.out.2 c;refine (hh3 c).trans ?_;show (Has Z2 c ∧ 0 ≤ c ∧ c ≤ min m 1114111) ↔ _;rw [e1, ← e2, HM.out];constructor
   ·rintro ⟨⟨a, _⟩, b⟩;exact ⟨a, b⟩
   ·rintro ⟨a, b, d⟩;exact ⟨⟨a, b, by omega⟩, b, d⟩)
  rw [hZ3] at hS3 ho3;have HB3 := xH (HB2.out.trans (hb3.mono HB2.out.size));have HO3 := xH (qM ho3 (show w1.heap.size ≤ w2.heap.size from HB2.out.size));have HV3 := xH (vP ho3 (setw.jX hS3.2));clear hS3 hh3 ho3 hb3 hZ3;refine hK.out _ _ HB3.out (fun _ => ?_);clear hK K;try simp only [xS]
  refine yT 7 ?_;simp only [xS];refine wpAnyH_done (by kernel_rfl) ?_ _;have HB5 := xH (qi HB1.out HB3.out);obtain ⟨t1, t2, rfl⟩ := qN HO3.out;have d0 := trw.qf HB3.out c0;have d1 := trw.qf HB3.out c1;have HLY := xH (show (normR m (caseM (normR m l) u)).length ≤ 100000 from set_len m l u hl);cases neg with
  | true =>
   have hset : setP u m l true true = notR m (normR m (normR m (caseM (normR m l) u))) := rfl;go_wp2_with fail
   refine (join2_any _ (.slice none 0 0) (normR m (caseM (normR m l) u)) [] m w3 HV3.out (rs_nil _) HLY.out (by decide) (by omega) (by omega)).mono ?_;rintro e w4 ⟨v4, Z4, rfl, hS, hh, ho, hb⟩;have hZ4 := notR_only hm hS (ja hm (normR m (caseM (normR m l) u))) (fun c => by
    rw [hh, HM.out, qB_not, normR_has hm (normR m (caseM (normR m l) u)) c];constructor
    ·rintro ⟨a, b, d⟩;exact ⟨a, b, fun e => d e.1⟩
    ·rintro ⟨a, b, d⟩;exact ⟨a, b, fun e => d ⟨e, a, b⟩⟩)
   rw [hZ4] at ho;obtain ⟨r1, r2, rfl⟩ := qN ho;have HO4 := xH (qM ho (show w.heap.size ≤ w3.heap.size from HB5.out.size));have HB4 := xH (qi HB5.out hb);clear hS hh ho hb hZ4;go_wp2_with fail
   go_ret
   exact ⟨_, rfl, HO4.out, HB4.out⟩
  | false =>
   have hset : setP u m l true false = normR m (caseM (normR m l) u) := rfl;go_wp2_with fail
   go_ret
   exact ⟨_, rfl, qM HO3.out HB1.out.size, HB5.out⟩
end rsw
end
section
namespace rsw
open sq
open Go Go.RowKit tkp trp trw rpp rtp setw
open rtw (TkB Bd)
open rpw (TkIn LOk sees jB)
open tkw (qO yw)
theorem lok_of {n : Nat} {L : List Tk} (h : ∀ t ∈ L, TkB t ∧ t.at_ ≤ n) (hn : n ≤ 1000) (hl : L.length ≤ n) : LOk L :=
 ⟨by omega, fun t ht => by obtain ⟨b, ha⟩ := h t ht;obtain ⟨k, c, n', m, mode, on, off, _, _⟩ := b;unfold Bd at *;unfold I64;refine ⟨by omega, by omega, by omega, by omega, by omega, by omega, by omega, by omega⟩⟩
theorem flat12 {α : Type} (f : α → List Value) (hf : ∀ a, (f a).length = 12) : ∀ (l : List α) (i j : Nat), j < 12 → (l.flatMap f)[i * 12 + j]? = (l[i]?).bind fun a => (f a)[j]?
 | [], i, j, _ => by simp
 | a :: l, 0, j, hj => by rw [List.flatMap_cons, List.getElem?_append_left (by rw [hf]; omega)];simp
 | a :: l, i + 1, j, hj => by rw [List.flatMap_cons, List.getElem?_append_right (by rw [hf]; omega), hf, show (i + 1) * 12 + j - 12 = i * 12 + j by omega, flat12 f hf l i j hj];simp
theorem tkC12 (p : Tk × Value) : (qO p.2 p.1).length = 12 := rfl
theorem tkIn_of {w : World} {base : Nat} {v : Value} {T : List Tk} (h : yw w base v T) (hb : ∀ t ∈ T, Wf t.set) (hl : T.length ≤ 50000) : TkIn (sees (fun i => decide (i < base)) w) v T := by
 obtain ⟨l, h1, h2, h3⟩ := h;have hlen : l.length = T.length := by rw [← h1]; simp
 rw [hlen] at h3;rcases h3.2 with ⟨rfl, h0⟩ | ⟨g, cap, cur, hv, hgb, _, hc1, hc2, _, _⟩
 ·have : T = [] := List.length_eq_zero_iff.1 h0;subst this;exact ⟨none, 0, rfl, by simp, by decide, by simp, Or.inl rfl⟩
 ·subst hv;unfold maxLen at hc2;refine ⟨_, cap, rfl, hc1, by omega, by omega, Or.inr ⟨g, 0, rfl, fun i t hi => ?_⟩⟩;have hlt : i < l.length := by rw [hlen];exact (List.getElem?_eq_some_iff.1 hi).1
  obtain ⟨p, hp⟩ : ∃ p, l[i]? = some p := ⟨_, List.getElem?_eq_getElem hlt⟩;have ht : p.1 = t := by rw [← h1, List.getElem?_map, hp] at hi;exact Option.some.inj hi
  subst ht;have hmem : p ∈ l := List.mem_of_getElem? hp;have hmt : p.1 ∈ T := List.mem_of_getElem? hi;refine ⟨p.2, own_rg (h2 p hmem) (hb p.1 hmt) (fun i hi => by simpa using hi), fun j u hj => ?_⟩;have hj12 : j < 12 := by have := (List.getElem?_eq_some_iff.1 hj).1;rw [tkC12] at this;exact this
  refine jB.2 ⟨by simp only [dD]; omega, ?_⟩;rw [Nat.zero_add, World.ownsRow.cellAt h3 (i * 12 + j) (by rw [hlen] at hlt; omega), flat12 _ tkC12 l i j hj12, hp];exact hj
end rsw
end
section
namespace rsw
open sq
open Go.Sort Go Go.RowKit Go.Maps setp setw tkp trp trw rpp rsp
open rpw (sees jB qU fC jP FSub vw jQ app_sub jH jm own_below qp oneR zk jV qA qh jU lab_ok rg_nil ql)
open rpw (jc qI)
open tkw (qM)
def NodB (h : Nat → Bool) (r : F × Int) (w : World) (e : Ending) (w' : World) : Prop := Below w.heap.size w w' ∧ ∃ y j, e = .returned (.tuple #[ndV y, .int .i64 r.2]) ∧ NdAt (sees h w') (y, j) ∧ strip (F.one y j) = r.1
def RowB (h : Nat → Bool) (r : F × Int) (w : World) (e : Ending) (w' : World) : Prop := Below w.heap.size w w' ∧ ∃ v g, e = .returned (.tuple #[v, .int .i64 r.2]) ∧ OwnH h w.heap.size w' v g ∧ strip g = r.1
def NodeC (u : Bool) (m : Int) (k : F) : Prop := ∀ (x : Lab) (f : Int) (w : World) (h : Nat → Bool), Old h w.heap.size → NdAt (sees h w) (x, k) → OkF (F.one x k) → k.size ≤ 30000 → Calls Try.prog 53 #[ctxV u m, ndV x, .int .i64 f] w (NodB h (nodeP u m (fun g => rowP u m k g) x k f) w)
def RowC (u : Bool) (m : Int) (k : F) : Prop := ∀ (v : Value) (f : Int) (w : World) (h : Nat → Bool), Old h w.heap.size → jr (sees h w) v k → OkF k → k.size ≤ 30000 → Calls Try.prog 79 #[ctxV u m, v, .int .i64 f] w (RowB h (rowP u m k f) w)
theorem ownH_base {h : Nat → Bool} {n n' : Nat} {w : World} {v : Value} {f : F} (H : OwnH h n w v f) (hn : n' ≤ n) : OwnH h n' w v f := ⟨World.ownsRow.mono H.1 hn, H.2.1, H.2.2⟩
theorem okF_at {f : F} {i : Nat} {x : Lab} {k r : F} (h : OkF f) (hd : f.drop i = .cons x k r) : OkF (F.one x k) := by have := okF_drop i h;rw [hd] at this;exact ⟨this.1, this.2.1, this.2.2.1, trivial⟩
theorem old_add {h : Nat → Bool} {n q : Nat} (H : Old h n) (hq : q < n) : Old (hx h (.slice (some ⟨q, 0, none⟩) 1 1)) n := fun i hi => by
 simp only [hx, Value.ownBlock, Bool.or_eq_true, dF, dG] at hi;rcases hi with hi | hi
 ·exact H i hi
 ·omega
theorem vG {h : Nat → Bool} {q : Nat} {w : World} {cs : Array Value} {t : Nd} (H : NdAt (sees (hx h (.slice (some ⟨q, 0, none⟩) 1 1)) w) t) : NdAt (sees h (w.setRow q cs)) t :=
 qY (qU fun a v h1 hc => by simp only [hx, Value.ownBlock, dE, dD, dG] at h1;exact ⟨h1.1, rpw.jI cs hc (fun e => h1.2 e.symm)⟩) H
def RowRel (h : Nat → Bool) (u : Bool) (m : Int) (k : F) (R : F × Int) (w0 : World) (vf vo vi : Value) (wr : World) : Prop :=
 ∃ (i : Nat) (f : Int) (g : F), vf = .int .i64 f ∧ vi = .int .i64 i ∧ i ≤ k.len ∧ g.len = i ∧ Hid (OwnH h w0.heap.size wr vo g) ∧ Hid (Below w0.heap.size w0 wr) ∧ Hid ((F.app (strip g) (rowP u m (k.drop i) f).1, (rowP u m (k.drop i) f).2) = R)
theorem row_of {u : Bool} {m : Int} {k : F} (hN : ∀ k' : F, k'.size < k.size → NodeC u m k') : RowC u m k := by
 intro v f w h hold hkv hok hsz;have HN := xH hN;have HOLD := xH hold;have HKV := xH (kidsH_below (qg w (.cells #[.bool u, .int .i64 m] 101)) hkv);have HOK := xH hok;have HB0 := xH (qg w (.cells #[.bool u, .int .i64 m] 101));have c0 : (w.alloc (.cells #[.bool u, .int .i64 m] 101)).cell? ⟨w.heap.size, 0, none⟩ = some (.bool u) := by unfold World.cell?; rw [heap_alloc_new]; rfl
 have c1 : (w.alloc (.cells #[.bool u, .int .i64 m] 101)).cell? ⟨w.heap.size, 1, none⟩ = some (.int .i64 m) := by unfold World.cell?; rw [heap_alloc_new]; rfl
 have HZ := xH (World.size_alloc w (.cells #[.bool u, .int .i64 m] 101));obtain ⟨R, hR⟩ : ∃ R, rowP u m k f = R := ⟨_, rfl⟩;rw [hR];have HR0 := xH (show (F.app (strip F.nil) (rowP u m (k.drop 0) f).1, (rowP u m (k.drop 0) f).2) = R by rw [drop_zero, ← hR]; rfl);have hlen : k.len ≤ 30000 := by have := rsp.len_size k; omega
 obtain ⟨a, cap, rfl⟩ := kids_len hkv;clear hN hold hkv hok hR;unfold ctxV;go_enter Try.func79, Try.ntmps79;go_wp2_with fail
 generalize w.alloc _ = w0 at *
 go_loopw [2, 8, 9] (fun vf vo vi wr => RowRel h u m k R w0 vf vo vi wr) (fun _ _ vi _ => k.len - (intOf vi).toNat)
 case atStart => exact ⟨0, f, F.nil, rfl, rfl, Nat.zero_le _, rfl, xH (ownH_nil _ _ _), xH (Below.refl _ _), HR0⟩
 case round =>
  obtain ⟨i, f, g, rfl, rfl, hi, hg, hO, hB, hR⟩ := hrel;have HO := xH hO.out;have HB := xH hB.out;have HR := xH hR.out;have HG := xH hg;clear hO hB hR hg HR0;have d0 := trw.qf HB.out c0;have d1 := trw.qf HB.out c1;by_cases hlt : i < k.len
  ·obtain ⟨x, k', r, hd⟩ := drop_lt hlt;obtain ⟨b, o, cap', hv, hc1, hc2, hil, hfa⟩ := kid_at HKV.out hd;cases hv;have HS := xH (size_lt hd);have HE := xH (fun j v hj => trw.qf HB.out (sees_to (hfa.1 j v hj)));have HX := xH (qY (zY HB.out (xL _) (fun q hq => (own_below HO.out.1 hq).1)) (fAt_head hfa));have HOXX := xH (fun (W : World) (hw : Below wr.heap.size wr W) => hx_old (v := u8) (m := W.heap.size) (HOLD.out.le HB0.out.size) (Nat.le_trans HB.out.size hw.size) HO.out.1 hw.size);have HCall := xH (fun W (h2 : Nat → Bool) (ho2 : Old h2 W.heap.size) (hn2 : NdAt (sees h2 W) (x, k')) => HN.out k' HS.out x f W h2 ho2 hn2 (okF_at HOK.out hd) (by have := HS.out; omega));have HD := xH hd;have a1 := add_row b o i 12;clear hd hfa;have i1 : (i : Int) < (k.len : Int) := by omega
   obtain ⟨t, ht⟩ : ∃ t, nodeP u m (fun g => rowP u m k' g) x k' f = t := ⟨_, rfl⟩;rw [ht] at HCall;have HT := xH ht;clear ht;go_upto_region 5 with (fail)
   go_cut [10, 11] (fun v10 v11 wx => ∃ B y j, v10 = .pointer (some ⟨B, 0, none⟩) ∧ v11 = .int .i64 t.2 ∧ Hid (wx.heap[B]? = some (.cells (ndC y).toArray 27 (0, 0))) ∧ Hid (Below wr.heap.size wr wx) ∧ Hid (NdAt (sees (hx h u8) wx) (y, j)) ∧ Hid (strip (F.one y j) = t.1))
   case first =>
    go_wp2_with fail
    refine wp_region_held_drew (S := fun w' => Below wr.heap.size wr w') (by kernel_rfl) (qL wr) (fun hHeld => ?_);refine yG 0 (fun w' hSw => trw.qf hSw d0) (fun w' hSw => trw.qf hSw d1) ?_;simp only [xS];refine yT 1 ?_;simp only [xS];refine yT 2 ?_;simp only [xS];refine yT 3 ?_;simp only [xS];refine xT 4 rfl ?_ ?_ ?_;rotate_left
    ·intro w' hSw;refine jT (x := .tmp 22) (b := b) (off := o + i * 12) (l := x) ?_ ?_ (fun j v hj => trw.qf hSw (HE.out j v hj)) <;> rfl
    simp only [xS];refine yT 5 ?_;simp only [xS];refine wpAnyH_ready (rs := [6, 10]) (by kernel_rfl) (by simp) ?_;refine AllReadyH.cons rfl (fun K hK => ?_) (AllReadyH.cons rfl (fun K hK => ?_) AllReadyH.nil)
    ·go_simp;refine (HCall.out _ (hx h u8) (HOXX.out _ hHeld) (qV hHeld HX.out)).mono ?_;rintro e w2 ⟨hb2, y, j, rfl, hn2, hst2⟩;dsimp only;have HN2 := xH hn2;have HT2 := xH hst2;have HB2 := xH (hHeld.trans (hb2.mono hHeld.size));clear hb2 hn2 hst2;refine hK.out _ _ HB2.out (fun hHeld => ?_);clear hK K;try simp only [xS]
     refine yT 7 ?_;simp only [xS];refine yT 8 ?_;simp only [xS];refine yT 9 ?_;simp only [xS];refine xD 10 rfl (fun K hK => ?_);go_simp;have HB3 := xH (HB2.out.trans ((qg w2 (.cells #[.int .i64 0, .int .i64 0, .int .i64 0, .slice none 0 0, .bool false, .int .i64 0, .int .i64 0, .int .i64 0, .string ⟨#[]⟩, .int .i64 0, .int .i64 0, .slice none 0 0] 27)).mono HB2.out.size));refine hK.out _ _ HB3.out (fun hHeld => ?_);clear hK K;try simp only [xS]
     refine xD 11 rfl (fun K hK => ?_);refine qI rfl rfl _ _ rfl w2.heap.size rfl #[.int .i64 0, .int .i64 0, .int .i64 0, .slice none 0 0, .bool false, .int .i64 0, .int .i64 0, .int .i64 0, .string ⟨#[]⟩, .int .i64 0, .int .i64 0, .slice none 0 0] y (heap_alloc_new w2 _) rfl (qp HN2.out) rfl ?_;have HB4 := xH (rpw.qC HB3.out (ndC y).toArray HB2.out.size);have HG4 := xH (setRow_heap _ _ _ (ndC y).toArray _ _ (heap_alloc_new w2 (.cells #[.int .i64 0, .int .i64 0, .int .i64 0, .slice none 0 0, .bool false, .int .i64 0, .int .i64 0, .int .i64 0, .string ⟨#[]⟩, .int .i64 0, .int .i64 0, .slice none 0 0] 27)));refine hK.out _ _ HB4.out (fun hHeld => ?_);clear hK K;try simp only [xS]
     refine yT 12 ?_;simp only [xS];refine wpAnyH_done (by kernel_rfl) ?_ _;have HN4 := xH (qV (rpw.qC (qg w2 (.cells #[.int .i64 0, .int .i64 0, .int .i64 0, .slice none 0 0, .bool false, .int .i64 0, .int .i64 0, .int .i64 0, .string ⟨#[]⟩, .int .i64 0, .int .i64 0, .slice none 0 0] 27)) (ndC y).toArray (xL _)) HN2.out);go_wp2_with fail
     go_meet
     exact ⟨w2.heap.size, y, j, rfl, rfl, HG4, HB4, HN4, HT2⟩
    ·go_simp;have HB1 := xH (show Below wr.heap.size wr (wr.alloc (.cells #[.int .i64 0, .int .i64 0, .int .i64 0, .slice none 0 0, .bool false, .int .i64 0, .int .i64 0, .int .i64 0, .string ⟨#[]⟩, .int .i64 0, .int .i64 0, .slice none 0 0] 27)).drew from (qg wr (.cells #[.int .i64 0, .int .i64 0, .int .i64 0, .slice none 0 0, .bool false, .int .i64 0, .int .i64 0, .int .i64 0, .string ⟨#[]⟩, .int .i64 0, .int .i64 0, .slice none 0 0] 27)).drew);have HG1 := xH (show (wr.alloc (.cells #[.int .i64 0, .int .i64 0, .int .i64 0, .slice none 0 0, .bool false, .int .i64 0, .int .i64 0, .int .i64 0, .string ⟨#[]⟩, .int .i64 0, .int .i64 0, .slice none 0 0] 27)).drew.heap[wr.heap.size]? = _ from heap_alloc_new wr (.cells #[.int .i64 0, .int .i64 0, .int .i64 0, .slice none 0 0, .bool false, .int .i64 0, .int .i64 0, .int .i64 0, .string ⟨#[]⟩, .int .i64 0, .int .i64 0, .slice none 0 0] 27));have HZ1 := xH (show (wr.alloc (.cells #[.int .i64 0, .int .i64 0, .int .i64 0, .slice none 0 0, .bool false, .int .i64 0, .int .i64 0, .int .i64 0, .string ⟨#[]⟩, .int .i64 0, .int .i64 0, .slice none 0 0] 27)).drew.heap.size = wr.heap.size + 1 from World.size_alloc wr (.cells #[.int .i64 0, .int .i64 0, .int .i64 0, .slice none 0 0, .bool false, .int .i64 0, .int .i64 0, .int .i64 0, .string ⟨#[]⟩, .int .i64 0, .int .i64 0, .slice none 0 0] 27));refine hK.out _ _ HB1.out (fun hHeld => ?_);clear hK K;try simp only [xS]
     refine xD 6 rfl (fun K hK => ?_);go_simp;refine (HCall.out _ (hx (hx h u8) (.slice (some ⟨wr.heap.size, 0, none⟩) 1 1)) (old_add (HOXX.out _ hHeld) (by rw [HZ1.out]; exact Nat.lt_succ_self _)) (qY (zY hHeld (xL _) (fun q hq => by cases hq; exact xL _)) HX.out)).mono ?_;rintro e w2 ⟨hb2, y, j, rfl, hn2, hst2⟩;dsimp only;have HN2 := xH hn2;have HT2 := xH hst2;have HB2 := xH (hHeld.trans (hb2.mono hHeld.size));have HG2 := xH ((hb2.block _ (by rw [HZ1.out]; exact Nat.lt_succ_self _)).trans HG1.out);clear hb2 hn2 hst2;refine hK.out _ _ HB2.out (fun hHeld => ?_);clear hK K;try simp only [xS]
     refine yT 7 ?_;simp only [xS];refine yT 8 ?_;simp only [xS];refine yT 9 ?_;simp only [xS];refine xD 11 rfl (fun K hK => ?_);refine qI rfl rfl _ _ rfl wr.heap.size rfl #[.int .i64 0, .int .i64 0, .int .i64 0, .slice none 0 0, .bool false, .int .i64 0, .int .i64 0, .int .i64 0, .string ⟨#[]⟩, .int .i64 0, .int .i64 0, .slice none 0 0] y HG2.out rfl (qp HN2.out) rfl ?_;have HB4 := xH (rpw.qC HB2.out (ndC y).toArray (xL _));have HG4 := xH (setRow_heap _ _ _ (ndC y).toArray _ _ HG2.out);refine hK.out _ _ HB4.out (fun hHeld => ?_);clear hK K;try simp only [xS]
     refine yT 12 ?_;simp only [xS];refine wpAnyH_done (by kernel_rfl) ?_ _;have HN4 := xH (vG (cs := (ndC y).toArray) HN2.out);go_wp2_with fail
     go_meet
     exact ⟨wr.heap.size, y, j, rfl, rfl, HG4, HB4, HN4, HT2⟩
   case rest =>
    obtain ⟨B, y, j, rfl, rfl, HG4, HB4, HN4, HT4⟩ := hcut;have HO4 := xH (ownH_below HO.out HB4.out);have HB5 := xH (HB.out.trans (HB4.out.mono HB.out.size));have HOX4 := xH (HOXX.out wc HB4.out);have H1 := xH (qp HN4.out);have HLN := xH (show g.len + (F.one y j).len ≤ 200000 by rw [HG.out]; simp only [F.one, F.len]; omega);obtain ⟨Z, hZ⟩ : ∃ Z, wc.heap.size = Z := ⟨_, rfl⟩;have HZZ := xH hZ;have HKD := xH (show ∀ w17, w17 = wc.alloc (.cells (ndC y).toArray 27) → jr (sees (hx h u8) w17) (.slice (some ⟨Z, 0, none⟩) 1 1) (F.one y j) from fun w17 h17 => by subst h17;have := row1_kids HN4.out HOX4.out;rw [hZ] at this;exact this)
    clear hZ HCall HOXX HX HE HKV HO HB HB4 HOX4 HN4 d0 d1;go_wp2_with (first
     | (refine ql rfl _ rfl B rfl y HG4.out ?_)
     | (refine jc rfl _ rfl y rfl Z HZZ.out ?_; intro w17 h17; have HO17 := xH (ownH_below HO4.out (h17.out ▸ qg wc _)); have HK17 := xH (HKD.out w17 h17.out); have HB17 := xH (HB5.out.trans ((show Below wc.heap.size wc w17 from h17.out ▸ qg wc _).mono HB5.out.size)); have HS17 := xH (show w0.heap.size ≤ w17.heap.size from HB17.out.size); clear h17)
     | (at_builtin; refine wpList_append_h rfl _ _ rfl h w0.heap.size u8 g rfl HO17.out (HOLD.out.le HB0.out.size) _ (F.one y j) rfl HK17.out HLN.out HS17.out ?_; intro v18 w18 h18 hb18; have HO18 := xH h18; have HB18 := xH (HB17.out.trans hb18); clear h18 hb18))
    have hi1 : i + 1 ≤ k.len := by omega
    refine ⟨⟨i + 1, t.2, F.app g (F.one y j), rfl, ?_, hi1, ?_, HO18, HB18, xH ?_⟩, ?_⟩
    ·rfl
    ·rw [rsp.jd, HG.out]; rfl
    ·rw [← HR.out, jH, HT4.out, HD.out, rowP, HT.out, drop_succ HD.out];simp only;rw [app_assoc]
    ·simp only [intOf];omega
  ·have HR3 := xH hlt;have hge : ¬ ((i : Int) < (k.len : Int)) := by omega
   obtain ⟨qa, qc, rfl⟩ : ∃ a c, u8 = .slice a g.len c := zJ HO.out.1;have hend : k.drop i = .nil := drop_end (by omega);have HE := xH hend;clear hlt hend;go_wp2_with fail
   go_ret2
   refine ⟨qi HB0.out HB.out, _, g, ?_, ownH_base HO.out HB0.out.size, ?_⟩
   ·rw [← HR.out, HE.out]; rfl
   ·rw [← HR.out, HE.out];show strip g = F.app (strip g) .nil;rw [app_nil]
end rsw
end
end Go.Proofs.Ytdgfclbajjjcgaa
