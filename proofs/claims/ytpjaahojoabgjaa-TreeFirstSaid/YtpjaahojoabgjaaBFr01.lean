/- Texts that TreeFirstLaw leans on, merged: what the functions of the program answer. -/
import Derived.BigQuiet
import Derived.ChangeSame
import Derived.Deep.Cut
import Derived.Deep.RegionHeld3
import Derived.Deep.SlicePairs
import Derived.Laws.BytesArg
import Derived.Laws.CopyRow
import Derived.Laws.OwnMore
import Derived.Laws.Rows
import Derived.Lib.Hide
import Derived.Lib.QuietBelow
import Derived.Lib.SmallJoins
import Derived.Maps.AppendAt
import Derived.OwnWalk
import Derived.Shelf.Abstract
import Derived.SizedLaws
import Derived.Test.YtpjaahojoabgjaaRows
import Derived.WalkKit
import Derived.WalkMore
import Derived.Test.YtpjaahojoabgjaaBTr01
import Derived.Test.YtpjaahojoabgjaaBTr02
import Derived.Test.YtpjaahojoabgjaaBTr03
import Derived.Test.YtpjaahojoabgjaaBTr04
import Derived.Test.YtpjaahojoabgjaaBTr05
import Derived.Test.YtpjaahojoabgjaaBTr06
import Derived.Test.YtpjaahojoabgjaaBTr07
namespace Go.Proofs.Ytpjaahojoabgjaa.lawTreeFirst
end Go.Proofs.Ytpjaahojoabgjaa.lawTreeFirst
namespace Go.Proofs.Ytpjaahojoabgjaa.trp
end Go.Proofs.Ytpjaahojoabgjaa.trp
namespace Go.Proofs.Ytpjaahojoabgjaa.trw
end Go.Proofs.Ytpjaahojoabgjaa.trw
section
namespace Go.Proofs.Ytpjaahojoabgjaa.trp
open Go
theorem findK_cons (kd : Int) (i : Nat) (x : Lab) (k r : F) : findK kd i (.cons x k r) = match findT kd (x, k) with
   | some l => some (i :: l)
   | none => findK kd (i + 1) r := by
 rw [findK]
 unfold findT
 by_cases h : x.kind = kd
 · simp [h]
 · simp only [h, if_false]
   cases findK kd 0 k <;> rfl
theorem findT_here {kd : Int} {t : Nd} (h : findT kd t = some []) : t.1.kind = kd := by
 unfold findT at h
 by_cases hk : t.1.kind = kd
 · exact hk
 · rw [if_neg hk] at h
   obtain ⟨x, f⟩ := t
   have : ∀ (f : F) (i : Nat), findK kd i f ≠ some [] := by
     intro f
     induction f with
     | nil => intro i; simp [findK]
     | cons x k r _ ih =>
       intro i
       rw [findK_cons]
       split
       · simp
       · exact ih _
   exact absurd h (this f 0)
theorem findT_down {kd : Int} {t : Nd} {j : Nat} {l : List Nat} (h : findT kd t = some (j :: l)) : t.1.kind ≠ kd ∧ findK kd 0 t.2 = some (j :: l) := by
 unfold findT at h
 by_cases hk : t.1.kind = kd
 · rw [if_pos hk] at h
   simp at h
 · rw [if_neg hk] at h
   exact ⟨hk, h⟩
theorem findK_down {kd : Int} : ∀ {f : F} {i j : Nat} {l : List Nat}, findK kd i f = some (j :: l) → ∃ m y k r, j = i + m ∧ f.drop m = .cons y k r ∧ findT kd (y, k) = some l ∧ ∀ m' y' k' r', m' < m → f.drop m' = .cons y' k' r' → findT kd (y', k') = none
 | .nil, _, _, _, h => by simp [findK] at h
 | .cons x k r, i, j, l, h => by
   rw [findK_cons] at h
   cases hf : findT kd (x, k) with
   | some l' =>
     rw [hf] at h
     simp only [Option.some.injEq, List.cons.injEq] at h
     obtain ⟨rfl, rfl⟩ := h
     exact ⟨0, x, k, r, rfl, by simp [F.drop], hf, fun m' _ _ _ hm => absurd hm (Nat.not_lt_zero _)⟩
   | none =>
     rw [hf] at h
     obtain ⟨m, y, k', r', h1, h2, h3, h4⟩ := findK_down (f := r) h
     refine ⟨m + 1, y, k', r', by omega, h2, h3, fun m' y' k'' r'' hm hd => ?_⟩
     cases m' with
     | zero =>
       simp only [F.drop, F.cons.injEq] at hd
       obtain ⟨rfl, rfl, _⟩ := hd
       exact hf
     | succ m' => exact h4 m' y' k'' r'' (by omega) hd
theorem findK_none {kd : Int} : ∀ {f : F} {i : Nat}, findK kd i f = none → ∀ m y k r, f.drop m = .cons y k r → findT kd (y, k) = none
 | .nil, _, _, m, _, _, _, hd => by cases m <;> simp [F.drop] at hd
 | .cons x k r, i, h, m, y, k', r', hd => by
   rw [findK_cons] at h
   cases hf : findT kd (x, k) with
   | some l' => rw [hf] at h; simp at h
   | none =>
     rw [hf] at h
     cases m with
     | zero =>
       simp only [F.drop, F.cons.injEq] at hd
       obtain ⟨rfl, rfl, _⟩ := hd
       exact hf
     | succ m => exact findK_none (f := r) h m y k' r' hd
theorem findT_none {kd : Int} {t : Nd} (h : findT kd t = none) : t.1.kind ≠ kd ∧ findK kd 0 t.2 = none := by
 unfold findT at h
 by_cases hk : t.1.kind = kd
 · rw [if_pos hk] at h
   simp at h
 · rw [if_neg hk] at h
   exact ⟨hk, h⟩
end Go.Proofs.Ytpjaahojoabgjaa.trp
end
section
namespace Go.Proofs.Ytpjaahojoabgjaa.trw
open Go.Sort Go Go.RowKit trp
theorem held_store_old {o : Oper} {a : Act} {W : World} {K : Act → World → Prop} {Q : Exit → Act → World → Prop} {ys : Nat → Option Bool} (hgd : o.guard = none) (hd : o.dst = none) (x y : Operand) (ho : o.op = .store 25 x y) {B : Nat} {old : Array Value}
   (hW : W.heap[B]? = some (.cells old 25)) (hs : old.size = 12) (hx : a.eval x = .pointer (some ⟨B, 0, none⟩)) (l : Lab) (h1 : ∀ u ∈ ndC l, u.oneCell' = true) (hy : a.eval y = ndV l)
   (h : ∀ W2, W2.heap[B]? = some (.cells (ndC l).toArray 25) → (∀ b, b ≤ B → Below b W W2) → K a W2) :
   if Region.wanted o ys = true then Oper.wp Try.prog o a W K Q else K (a.put o.dst undef) W := by
 rw [if_pos (by unfold Region.wanted; rw [hgd])]
 have hr := run_store_nd W B old (ndC l).toArray hW hs rfl (by simpa using h1)
 have hy' : a.eval y = .agg (ndC l).toArray := hy
 unfold Oper.wp execOp
 simp only [ho, hx, hy', Instr.storeAt, Instr.sureAddr, Sem.run_bind, Sem.run_pure, Result.andThen_ok, hr]
 have := h (W.setRow B (ndC l).toArray) (setRow_heap _ _ _ _ _ _ hW) (fun b hb => ⟨rfl, rfl, rfl, by simp [World.setRow], fun k hk => setRow_other _ _ _ _ (by omega)⟩)
 simpa [Oper.upon, hd, Act.put] using this
theorem wpList_store_new {ops : Array Oper} {rest : List Oper} {o : Oper} {a : Act} {W : World} {Q : Exit → Act → World → Prop} (hgd : o.guard = none) (hd : o.dst = none) (x y : Operand) (ho : o.op = .store 25 x y) {w : World} {old : Array Value}
   (hW : W = w.alloc (.cells old 25)) (hs : old.size = 12) (hx : a.eval x = .pointer (some ⟨w.heap.size, 0, none⟩)) (l : Lab) (h1 : ∀ u ∈ ndC l, u.oneCell' = true) (hy : a.eval y = ndV l)
   (h : ∀ W2, Below w.heap.size w W2 → W2.heap[w.heap.size]? = some (.cells (ndC l).toArray 25) → wpList Try.prog ops Q rest a W2) : wpList Try.prog ops Q (o :: rest) a W :=
 wpList_plain hgd fun K hK => by
   subst hW
   have hn := heap_alloc_new w (.cells old 25)
   have hr := run_store_nd (w.alloc (.cells old 25)) w.heap.size old (ndC l).toArray hn hs rfl (by simpa using h1)
   have hy' : a.eval y = .agg (ndC l).toArray := hy
   unfold Oper.wp execOp
   simp only [ho, hx, hy', Instr.storeAt, Instr.sureAddr, Sem.run_bind, Sem.run_pure, Result.andThen_ok, hr]
   have hb := below_alloc w (.cells old 25)
   have := hK _ _ (h ((w.alloc (.cells old 25)).setRow w.heap.size (ndC l).toArray) ⟨rfl, rfl, rfl, by simp [World.setRow], fun k hk => (setRow_other _ _ _ _ (by omega)).trans (hb.block k hk)⟩ (setRow_heap _ _ _ _ _ _ hn))
   simpa [Oper.upon, hd, Act.put] using this
theorem kid_find {W w1 : World} {t : Nd} {kd : Int} {i : Nat} {y : Lab} {k r : F} (h : NdAt W t) (hs : t.2.size + 1 ≤ 4000) (hd : t.2.drop i = .cons y k r) (hb : Below W.heap.size W w1) : k.size + 1 ≤ 4000 ∧ Calls Try.prog 18 #[ndV y, .int .i64 kd] w1 (FindB (findT kd (y, k)) w1) := by
 obtain ⟨b, o, cap, _, _, _, _, hf⟩ := kid_at h.2.2 hd
 have hz := size_lt hd
 exact ⟨by omega, pfind_any y k kd w1 (below_nd hb (fAt_head hf)) (by omega)⟩
set_option maxRecDepth 100000 in
set_option maxHeartbeats 4000000 in
theorem first_law (x : Lab) (k : F) (kd : Int) (w : World) (hn : NdAt w (x, k)) (_hk : I64 kd) : Calls Try.prog 7 #[ndV x, .int .i64 kd] w (BoolB true w) := by
 by_cases h4 : k.size + 1 ≤ 4000
 rotate_left
 · go_enter Try.func7, Try.ntmps7
   go_upto_region 1 with (refine wpList_box_nd rfl _ rfl x rfl ?_)
   generalize hg : w.alloc _ = W
   have HB : Hid (Below w.heap.size w W) := Lib.hid (by rw [← hg]; exact below_alloc _ _)
   have hr : W.heap[w.heap.size]? = some (.cells (ndC x).toArray 25) := by rw [← hg]; exact heap_alloc_new _ _
   have hlt := (Array.getElem?_eq_some_iff.1 hr).1
   have R0 := Lib.hid (fun w1 (hb : Below W.heap.size W w1) => cells0 ((hb.block _ hlt).trans hr))
   have HN := Lib.hid (fun w1 (hb : Below W.heap.size W w1) => below_nd hb (below_nd HB.out hn))
   clear hg hr hlt hn
   obtain ⟨B0, hB0⟩ : ∃ B0, w.heap.size = B0 := ⟨_, rfl⟩
   rw [hB0] at R0 ⊢
   go_wp2_with fail
   refine (awake_any W).mono ?_
   rintro e w1 ⟨rfl, hb⟩
   have H1 := Lib.hid hb
   clear hb
   have HS : Hid (∀ w1, Below W.heap.size W w1 → Calls Try.prog 12 #[ndV x] w1 (BoolB false w1)) := Lib.hid (fun w1 hb => by have := small_any x k w1 (HN.out w1 hb); rw [decide_eq_false h4] at this; exact this)
   clear HN h4
   go_wp2_with (first | (refine wpList_load_nd rfl _ rfl B0 0 rfl x (R0.out w1 H1.out) ?_))
   refine (HS.out w1 H1.out).mono ?_
   rintro e w2 ⟨rfl, hb⟩
   have H2 := Lib.hid (H1.out.trans (hb.mono H1.out.size))
   clear hb
   go_wp2_with fail
   go_ret
   exact ⟨rfl, HB.out.trans (H2.out.mono HB.out.size)⟩
 cases hc : checkP (x, k) with
 | false =>
   go_enter Try.func7, Try.ntmps7
   go_upto_region 1 with (refine wpList_box_nd rfl _ rfl x rfl ?_)
   generalize hg : w.alloc _ = W
   have HB : Hid (Below w.heap.size w W) := Lib.hid (by rw [← hg]; exact below_alloc _ _)
   have hr : W.heap[w.heap.size]? = some (.cells (ndC x).toArray 25) := by rw [← hg]; exact heap_alloc_new _ _
   have hlt := (Array.getElem?_eq_some_iff.1 hr).1
   have R0 := Lib.hid (fun w1 (hb : Below W.heap.size W w1) => cells0 ((hb.block _ hlt).trans hr))
   have HN := Lib.hid (fun w1 (hb : Below W.heap.size W w1) => below_nd hb (below_nd HB.out hn))
   clear hg hr hlt hn
   obtain ⟨B0, hB0⟩ : ∃ B0, w.heap.size = B0 := ⟨_, rfl⟩
   rw [hB0] at R0 ⊢
   go_wp2_with fail
   refine (awake_any W).mono ?_
   rintro e w1 ⟨rfl, hb⟩
   have H1 := Lib.hid hb
   clear hb
   have HS : Hid (∀ w1, Below W.heap.size W w1 → Calls Try.prog 12 #[ndV x] w1 (BoolB true w1)) := Lib.hid (fun w1 hb => by have := small_any x k w1 (HN.out w1 hb); rw [decide_eq_true h4] at this; exact this)
   have HC : Hid (∀ w1, Below W.heap.size W w1 → Calls Try.prog 23 #[ndV x] w1 (BoolB false w1)) := Lib.hid (fun w1 hb => by have := pcheck_any x k w1 (HN.out w1 hb); rw [hc] at this; exact this)
   clear HN h4 hc
   go_wp2_with (first | (refine wpList_load_nd rfl _ rfl B0 0 rfl x (R0.out w1 H1.out) ?_))
   refine (HS.out w1 H1.out).mono ?_
   rintro e w2 ⟨rfl, hb⟩
   have H2 := Lib.hid (H1.out.trans (hb.mono H1.out.size))
   clear hb
   have f0 : w2.cell? ⟨B0, 0, none⟩ = some (.int .i64 x.kind) := by have := R0.out w2 H2.out 0 _ rfl; rwa [Nat.zero_add] at this
   have f1 : w2.cell? ⟨B0, 1, none⟩ = some (.int .i64 x.at_) := by have := R0.out w2 H2.out 1 _ rfl; rwa [Nat.zero_add] at this
   have f2 : w2.cell? ⟨B0, 2, none⟩ = some (.int .i64 x.c) := by have := R0.out w2 H2.out 2 _ rfl; rwa [Nat.zero_add] at this
   have f3 : w2.cell? ⟨B0, 3, none⟩ = some (x.sv) := by have := R0.out w2 H2.out 3 _ rfl; rwa [Nat.zero_add] at this
   have f4 : w2.cell? ⟨B0, 4, none⟩ = some (.bool x.neg) := by have := R0.out w2 H2.out 4 _ rfl; rwa [Nat.zero_add] at this
   have f5 : w2.cell? ⟨B0, 5, none⟩ = some (.int .i64 x.n) := by have := R0.out w2 H2.out 5 _ rfl; rwa [Nat.zero_add] at this
   have f6 : w2.cell? ⟨B0, 6, none⟩ = some (.int .i64 x.m) := by have := R0.out w2 H2.out 6 _ rfl; rwa [Nat.zero_add] at this
   have f7 : w2.cell? ⟨B0, 7, none⟩ = some (.int .i64 x.mode) := by have := R0.out w2 H2.out 7 _ rfl; rwa [Nat.zero_add] at this
   have f8 : w2.cell? ⟨B0, 8, none⟩ = some (.string x.name) := by have := R0.out w2 H2.out 8 _ rfl; rwa [Nat.zero_add] at this
   have f9 : w2.cell? ⟨B0, 9, none⟩ = some (.int .i64 x.on) := by have := R0.out w2 H2.out 9 _ rfl; rwa [Nat.zero_add] at this
   have f10 : w2.cell? ⟨B0, 10, none⟩ = some (.int .i64 x.off) := by have := R0.out w2 H2.out 10 _ rfl; rwa [Nat.zero_add] at this
   have f11 : w2.cell? ⟨B0, 11, none⟩ = some (x.kv) := by have := R0.out w2 H2.out 11 _ rfl; rwa [Nat.zero_add] at this
   go_wp2_with fail
   refine (HC.out w2 H2.out).mono ?_
   rintro e w3 ⟨rfl, hb⟩
   have H3 := Lib.hid (H2.out.trans (hb.mono H2.out.size))
   clear hb
   clear f0 f1 f2 f3 f4 f5 f6 f7 f8 f9 f10 f11
   go_wp2_with fail
   go_ret
   exact ⟨rfl, HB.out.trans (H3.out.mono HB.out.size)⟩
 | true =>
   go_enter Try.func7, Try.ntmps7
   go_upto_region 1 with (refine wpList_box_nd rfl _ rfl x rfl ?_)
   generalize hg : w.alloc _ = W
   have HB : Hid (Below w.heap.size w W) := Lib.hid (by rw [← hg]; exact below_alloc _ _)
   have hr : W.heap[w.heap.size]? = some (.cells (ndC x).toArray 25) := by rw [← hg]; exact heap_alloc_new _ _
   have hlt := (Array.getElem?_eq_some_iff.1 hr).1
   have R0 := Lib.hid (fun w1 (hb : Below W.heap.size W w1) => cells0 ((hb.block _ hlt).trans hr))
   have HN := Lib.hid (fun w1 (hb : Below W.heap.size W w1) => below_nd hb (below_nd HB.out hn))
   clear hg hr hlt hn
   obtain ⟨B0, hB0⟩ : ∃ B0, w.heap.size = B0 := ⟨_, rfl⟩
   rw [hB0] at R0 ⊢
   go_wp2_with fail
   refine (awake_any W).mono ?_
   rintro e w1 ⟨rfl, hb⟩
   have H1 := Lib.hid hb
   clear hb
   have HS : Hid (∀ w1, Below W.heap.size W w1 → Calls Try.prog 12 #[ndV x] w1 (BoolB true w1)) := Lib.hid (fun w1 hb => by have := small_any x k w1 (HN.out w1 hb); rw [decide_eq_true h4] at this; exact this)
   have HC : Hid (∀ w1, Below W.heap.size W w1 → Calls Try.prog 23 #[ndV x] w1 (BoolB true w1)) := Lib.hid (fun w1 hb => by have := pcheck_any x k w1 (HN.out w1 hb); rw [hc] at this; exact this)
   have HO := Lib.hid (node_one (HN.out W (Below.refl _ _)))
   have HF := Lib.hid (fun w1 (hb : Below W.heap.size W w1) => pfind_any x k kd w1 (HN.out w1 hb) h4)
   clear hc
   go_wp2_with (first | (refine wpList_load_nd rfl _ rfl B0 0 rfl x (R0.out w1 H1.out) ?_))
   refine (HS.out w1 H1.out).mono ?_
   rintro e w2 ⟨rfl, hb⟩
   have H2 := Lib.hid (H1.out.trans (hb.mono H1.out.size))
   clear hb
   have f0 : w2.cell? ⟨B0, 0, none⟩ = some (.int .i64 x.kind) := by have := R0.out w2 H2.out 0 _ rfl; rwa [Nat.zero_add] at this
   have f1 : w2.cell? ⟨B0, 1, none⟩ = some (.int .i64 x.at_) := by have := R0.out w2 H2.out 1 _ rfl; rwa [Nat.zero_add] at this
   have f2 : w2.cell? ⟨B0, 2, none⟩ = some (.int .i64 x.c) := by have := R0.out w2 H2.out 2 _ rfl; rwa [Nat.zero_add] at this
   have f3 : w2.cell? ⟨B0, 3, none⟩ = some (x.sv) := by have := R0.out w2 H2.out 3 _ rfl; rwa [Nat.zero_add] at this
   have f4 : w2.cell? ⟨B0, 4, none⟩ = some (.bool x.neg) := by have := R0.out w2 H2.out 4 _ rfl; rwa [Nat.zero_add] at this
   have f5 : w2.cell? ⟨B0, 5, none⟩ = some (.int .i64 x.n) := by have := R0.out w2 H2.out 5 _ rfl; rwa [Nat.zero_add] at this
   have f6 : w2.cell? ⟨B0, 6, none⟩ = some (.int .i64 x.m) := by have := R0.out w2 H2.out 6 _ rfl; rwa [Nat.zero_add] at this
   have f7 : w2.cell? ⟨B0, 7, none⟩ = some (.int .i64 x.mode) := by have := R0.out w2 H2.out 7 _ rfl; rwa [Nat.zero_add] at this
   have f8 : w2.cell? ⟨B0, 8, none⟩ = some (.string x.name) := by have := R0.out w2 H2.out 8 _ rfl; rwa [Nat.zero_add] at this
   have f9 : w2.cell? ⟨B0, 9, none⟩ = some (.int .i64 x.on) := by have := R0.out w2 H2.out 9 _ rfl; rwa [Nat.zero_add] at this
   have f10 : w2.cell? ⟨B0, 10, none⟩ = some (.int .i64 x.off) := by have := R0.out w2 H2.out 10 _ rfl; rwa [Nat.zero_add] at this
   have f11 : w2.cell? ⟨B0, 11, none⟩ = some (x.kv) := by have := R0.out w2 H2.out 11 _ rfl; rwa [Nat.zero_add] at this
   go_wp2_with fail
   refine (HC.out w2 H2.out).mono ?_
   rintro e w3 ⟨rfl, hb⟩
   have H3 := Lib.hid (H2.out.trans (hb.mono H2.out.size))
   clear hb
   clear f0 f1 f2 f3 f4 f5 f6 f7 f8 f9 f10 f11
   go_wp2_with (first | (refine wpList_load_nd rfl _ rfl B0 0 rfl x (R0.out w3 H3.out) ?_))
   refine (HF.out w3 H3.out).mono ?_
   rintro e w4 ⟨v1, rfl, hp, hb⟩
   have H4 := Lib.hid (H3.out.trans (hb.mono H3.out.size))
   clear hb
   obtain ⟨pa, pc, rfl, hp1, hp2, hp3⟩ := hp
   have HP := Lib.hid hp3
   clear hp3
   have NA := Lib.hid (HN.out w4 H4.out)
   cases hL : findT kd (x, k) with
   | none =>
     have HL := Lib.hid hL

     rw [hL] at HP hp1
     simp only [Option.getD_none, List.length_nil, Option.isSome_none] at HP hp1 ⊢
     clear hL
     obtain ⟨hkd, hkn⟩ := findT_none HL.out
     have HKN := Lib.hid (findK_none hkn)
     have e1 : (x.kind == kd) = false := by simp; exact hkd
     have e2 : (x.kind != kd) = true := by simp [bne, e1]
     clear hkn hkd
     go_wp2_with (first | (refine wpList_load_nd rfl _ rfl B0 0 rfl x (R0.out w4 H4.out) ?_) | (refine wpList_store_new rfl rfl _ _ rfl (w := w4) rfl rfl rfl x HO.out rfl ?_))
     intro W2 hb2 hr2
     have H5 := Lib.hid (H4.out.trans (hb2.mono H4.out.size))
     clear hb2 hr2
     obtain ⟨ka, kc, hkv⟩ := kids_len NA.out.2.2
     simp only at hkv
     have HKV := Lib.hid hkv
     clear hkv
     go_wp2_with fail
     go_loopw [10] (fun iv wr => iv = .int .i64 0 ∧ Below W.heap.size W wr) (fun _ _ => 0)
     case atStart => exact ⟨rfl, H5.out⟩
     case round =>
       obtain ⟨rfl, hb5⟩ := hrel
       have f11 : wr.cell? ⟨B0, 11, none⟩ = some (.slice ka k.len kc) := by have := R0.out wr hb5 11 _ rfl; rw [Nat.zero_add] at this; rw [this]; exact congrArg some HKV.out
       go_wp2_with fail
       clear f11
       go_loopw [14] (fun iv wr => ∃ i : Nat, iv = .int .i64 i ∧ i ≤ k.len ∧ Below W.heap.size W wr) (fun iv _ => k.len - (intOf iv).toNat)
       case atStart => exact ⟨0, rfl, Nat.zero_le _, hb5⟩
       case round =>
         obtain ⟨i, rfl, hi, hb⟩ := hrel
         have f11 : wr.cell? ⟨B0, 11, none⟩ = some (.slice ka k.len kc) := by have := R0.out wr hb 11 _ rfl; rw [Nat.zero_add] at this; rw [this]; exact congrArg some HKV.out
         have f0 : wr.cell? ⟨B0, 0, none⟩ = some (.int .i64 x.kind) := by have := R0.out wr hb 0 _ rfl; rwa [Nat.zero_add] at this
         by_cases hend : i = k.len
         · subst hend
           go_wp2_with fail
           go_ret
           exact ⟨rfl, HB.out.trans (hb.mono HB.out.size)⟩
         · have hlt : i < k.len := by omega
           obtain ⟨y, k', r, hdr⟩ := drop_lt (f := k) (i := i) hlt
           have hbw := HB.out.trans (hb.mono HB.out.size)
           obtain ⟨b, o, cap', hv2, _, _, _, hf⟩ := kid_at (HN.out wr hb).2.2 hdr
           obtain ⟨rfl, rfl⟩ : ka = some ⟨b, o, none⟩ ∧ kc = cap' := by
             have := HKV.out.symm.trans hv2
             simp only [Value.slice.injEq] at this
             exact ⟨this.1, this.2.2⟩
           have hcs := Lib.hid hf.1
           have hadd := add_row b o i 12
           have i1 : (i : Int) < (k.len : Int) := by omega
           have HI := Lib.hid (kid_find (kd := kd) (HN.out wr hb) h4 hdr (Below.refl _ _)).2
           rw [HKN.out i y k' r hdr] at HI
           clear hv2 hf hdr
           go_wp2_with (refine wpList_load_nd rfl _ rfl b (o + i * 12) rfl y hcs.out ?_)
           refine HI.out.mono ?_
           rintro e w6 ⟨v6, rfl, _, hb6⟩
           simp only [Option.isSome_none]
           go_wp2_with fail
           go_roundw
           case rel => exact ⟨i + 1, by go_num, hlt, hb.trans (hb6.mono hb.size)⟩
           case measure => simp [intOf]; omega
   | some M =>
     have HL := Lib.hid hL

     rw [hL] at HP hp1
     simp only [Option.getD_some, Option.isSome_some] at HP hp1 ⊢
     clear hL
     go_wp2_with (first | (refine wpList_load_nd rfl _ rfl B0 0 rfl x (R0.out w4 H4.out) ?_) | (refine wpList_store_new rfl rfl _ _ rfl (w := w4) rfl rfl rfl x HO.out rfl ?_))
     intro W2 hb2 hr2
     have HPc := Lib.hid (show ∀ b o, pa = some ⟨b, o, none⟩ → M ≠ [] → b < w4.heap.size from fun b o e hne => by
       rcases HP.out with h0 | ⟨b', o', h0, hc⟩
       · exact absurd h0 hne
       · rw [e] at h0
         cases h0
         cases M with
         | nil => exact absurd rfl hne
         | cons m l => exact cell_lt (hc 0 m rfl))
     obtain ⟨B9, hB9⟩ : ∃ B9, w4.heap.size = B9 := ⟨_, rfl⟩
     rw [hB9] at hr2 ⊢
     have HR2 := Lib.hid hr2
     have HB2 := Lib.hid hb2
     clear hr2 hb2 R0
     go_wp2_with fail
     go_loopw [10] (fun iv wr => ∃ (i : Nat) (t : Nd), iv = .int .i64 i ∧ i ≤ M.length ∧ Hid (findT kd t = some (M.drop i)) ∧ Hid (NdAt w4 t) ∧ t.2.size + 1 ≤ 4000 ∧ Hid (wr.heap[B9]? = some (.cells (ndC t.1).toArray 25)) ∧ Below w4.heap.size w4 wr) (fun iv _ => M.length - (intOf iv).toNat)
     case atStart => exact ⟨0, (x, k), rfl, Nat.zero_le _, HL, NA, h4, HR2, HB2.out⟩
     case round =>
       clear HL NA HR2 HB2 HO HF HS HC
       obtain ⟨i, ⟨x, k⟩, rfl, hi, HT, HNt, hsz, HRt, hb⟩ := hrel
       simp only at HRt hsz
       obtain ⟨ka, kc, hkv⟩ := kids_len HNt.out.2.2
       simp only at hkv
       have HKV := Lib.hid hkv
       clear hkv
       have f11 : wr.cell? ⟨B9, 11, none⟩ = some (.slice ka k.len kc) := by rw [cells12 HRt.out 11 _ rfl]; exact congrArg some HKV.out
       have f0 : wr.cell? ⟨B9, 0, none⟩ = some (.int .i64 x.kind) := cells12 HRt.out 0 _ rfl
       by_cases hend : i = M.length
       · have hT := HT.out
         rw [hend, List.drop_eq_nil_of_le (Nat.le_refl _)] at hT
         have e1 : (x.kind == kd) = true := by simp; exact findT_here hT
         subst hend
         clear hT
         go_wp2_with fail
         go_ret
         exact ⟨rfl, HB.out.trans ((H4.out.trans (hb.mono H4.out.size)).mono HB.out.size)⟩
       · have hlt : i < M.length := by omega
         have hdm := List.drop_eq_getElem_cons hlt
         have hMi := List.getElem?_eq_getElem hlt
         obtain ⟨j, hj⟩ : ∃ j, M[i]'hlt = j := ⟨_, rfl⟩
         rw [hj] at hdm hMi
         have hT := HT.out
         rw [hdm] at hT
         obtain ⟨hkd, hK⟩ := findT_down hT
         obtain ⟨m, y, k', r, hjm, hdr, hfy, hno⟩ := findK_down hK
         obtain rfl : j = m := by omega
         have hdr : k.drop j = .cons y k' r := hdr
         have hKA : x.kv = .slice ka k.len kc := HKV.out
         obtain ⟨b, o, cap', hv2, _, _, hjl, hf⟩ := kid_at (f := k) HNt.out.2.2 hdr
         have hjl : j < k.len := hjl
         obtain ⟨rfl, rfl⟩ : ka = some ⟨b, o, none⟩ ∧ kc = cap' := by
           have := hKA.symm.trans hv2
           simp only [Value.slice.injEq] at this
           exact ⟨this.1, this.2.2⟩
         rcases HP.out with h0 | ⟨pb, po, rfl, hpc⟩
         · rw [h0] at hlt
           simp at hlt
         have hne : M ≠ [] := fun e => by
           rw [e] at hlt
           simp at hlt
         have hpb := HPc.out pb po rfl hne
         have hbb : b < B9 := by rw [← hB9]; exact cell_lt (hf.1 0 _ rfl)
         rw [hB9] at hpb
         have hcj := hpc i j hMi
         have CJ := Lib.hid (below_cell hb hcj)
         have CJ4 := Lib.hid hcj
         have EY := Lib.hid (fun q v (hq : (ndC y)[q]? = some v) => below_cell hb (hf.1 q v hq))
         have EY4 := Lib.hid (fun q v (hq : (ndC y)[q]? = some v) => hf.1 q v hq)
         have NY := Lib.hid (fAt_head hf)
         have HFY := Lib.hid (show findT kd (y, k') = some (M.drop (i + 1)) from hfy)
         have HNO := Lib.hid hno
         have hsy : k'.size + 1 ≤ 4000 := by have := size_lt (f := k) hdr; omega
         have F11 := Lib.hid f11
         have F0 := Lib.hid f0
         have e1 : (x.kind == kd) = false := by simp; exact hkd
         have d1 : decide ((j : Int) < 0) = false := decide_eq_false (by omega)
         have d2 : decide (k.len ≤ j) = false := decide_eq_false (by omega)
         have i1 : (i : Int) < (M.length : Int) := by omega
         have i2 : (j : Int) < (k.len : Int) := by omega
         have a1 := add_plain pb po i
         have a2 := add_row b o j 12
         clear hdm hMi hj hT hK hjm hdr hfy hno hKA hv2 hf hcj hpc hne hkd HT
         go_wp2_with fail
         refine wp_region_held_drew (S := fun w' => Below wr.heap.size wr w') (by kernel_rfl) (below_drew wr) (fun hHeld => ?_)
         first
           | (refine wpAnyH_take (i := 0) (v := ?_) rfl (by kernel_rfl) (by kernel_rfl) (by kernel_rfl) (fun _ _ _ h => h) (Or.inl ⟨by rfl, ?_⟩) (by assumption) ?_; rotate_left; · (intro w' hSw; have cj := below_cell hSw CJ.out; have f11 := below_cell hSw F11.out; have f0 := below_cell hSw F0.out; go_simp; try rfl))
           | (refine wpAnyH_take (i := 0) rfl (by kernel_rfl) (by kernel_rfl) (by kernel_rfl) (fun _ _ _ h => h) (Or.inr ⟨by rfl, rfl⟩) (by assumption) ?_)
         simp only [Act.put, List.setIfInBounds_toArray, List.set_cons_zero, List.set_cons_succ, List.getElem_toArray, List.getElem_cons_zero]
         first
           | (refine wpAnyH_take (i := 1) (v := ?_) rfl (by kernel_rfl) (by kernel_rfl) (by kernel_rfl) (fun _ _ _ h => h) (Or.inl ⟨by rfl, ?_⟩) (by assumption) ?_; rotate_left; · (intro w' hSw; have cj := below_cell hSw CJ.out; have f11 := below_cell hSw F11.out; have f0 := below_cell hSw F0.out; go_simp; try rfl))
           | (refine wpAnyH_take (i := 1) rfl (by kernel_rfl) (by kernel_rfl) (by kernel_rfl) (fun _ _ _ h => h) (Or.inr ⟨by rfl, rfl⟩) (by assumption) ?_)
         simp only [Act.put, List.setIfInBounds_toArray, List.set_cons_zero, List.set_cons_succ, List.getElem_toArray, List.getElem_cons_succ, List.getElem_cons_zero]
         first
           | (refine wpAnyH_take (i := 2) (v := ?_) rfl (by kernel_rfl) (by kernel_rfl) (by kernel_rfl) (fun _ _ _ h => h) (Or.inl ⟨by rfl, ?_⟩) (by assumption) ?_; rotate_left; · (intro w' hSw; have cj := below_cell hSw CJ.out; have f11 := below_cell hSw F11.out; have f0 := below_cell hSw F0.out; go_simp; try rfl))
           | (refine wpAnyH_take (i := 2) rfl (by kernel_rfl) (by kernel_rfl) (by kernel_rfl) (fun _ _ _ h => h) (Or.inr ⟨by rfl, rfl⟩) (by assumption) ?_)
         simp only [Act.put, List.setIfInBounds_toArray, List.set_cons_zero, List.set_cons_succ, List.getElem_toArray, List.getElem_cons_succ, List.getElem_cons_zero]
         first
           | (refine wpAnyH_take (i := 3) (v := ?_) rfl (by kernel_rfl) (by kernel_rfl) (by kernel_rfl) (fun _ _ _ h => h) (Or.inl ⟨by rfl, ?_⟩) (by assumption) ?_; rotate_left; · (intro w' hSw; have cj := below_cell hSw CJ.out; have f11 := below_cell hSw F11.out; have f0 := below_cell hSw F0.out; go_simp; try rfl))
           | (refine wpAnyH_take (i := 3) rfl (by kernel_rfl) (by kernel_rfl) (by kernel_rfl) (fun _ _ _ h => h) (Or.inr ⟨by rfl, rfl⟩) (by assumption) ?_)
         simp only [Act.put, List.setIfInBounds_toArray, List.set_cons_zero, List.set_cons_succ, List.getElem_toArray, List.getElem_cons_succ, List.getElem_cons_zero]
         first
           | (refine wpAnyH_take (i := 4) (v := ?_) rfl (by kernel_rfl) (by kernel_rfl) (by kernel_rfl) (fun _ _ _ h => h) (Or.inl ⟨by rfl, ?_⟩) (by assumption) ?_; rotate_left; · (intro w' hSw; have cj := below_cell hSw CJ.out; have f11 := below_cell hSw F11.out; have f0 := below_cell hSw F0.out; go_simp; try rfl))
           | (refine wpAnyH_take (i := 4) rfl (by kernel_rfl) (by kernel_rfl) (by kernel_rfl) (fun _ _ _ h => h) (Or.inr ⟨by rfl, rfl⟩) (by assumption) ?_)
         simp only [Act.put, List.setIfInBounds_toArray, List.set_cons_zero, List.set_cons_succ, List.getElem_toArray, List.getElem_cons_succ, List.getElem_cons_zero]
         first
           | (refine wpAnyH_take (i := 5) (v := ?_) rfl (by kernel_rfl) (by kernel_rfl) (by kernel_rfl) (fun _ _ _ h => h) (Or.inl ⟨by rfl, ?_⟩) (by assumption) ?_; rotate_left; · (intro w' hSw; have cj := below_cell hSw CJ.out; have f11 := below_cell hSw F11.out; have f0 := below_cell hSw F0.out; go_simp; try rfl))
           | (refine wpAnyH_take (i := 5) rfl (by kernel_rfl) (by kernel_rfl) (by kernel_rfl) (fun _ _ _ h => h) (Or.inr ⟨by rfl, rfl⟩) (by assumption) ?_)
         simp only [Act.put, List.setIfInBounds_toArray, List.set_cons_zero, List.set_cons_succ, List.getElem_toArray, List.getElem_cons_succ, List.getElem_cons_zero]
         first
           | (refine wpAnyH_take (i := 6) (v := ?_) rfl (by kernel_rfl) (by kernel_rfl) (by kernel_rfl) (fun _ _ _ h => h) (Or.inl ⟨by rfl, ?_⟩) (by assumption) ?_; rotate_left; · (intro w' hSw; have cj := below_cell hSw CJ.out; have f11 := below_cell hSw F11.out; have f0 := below_cell hSw F0.out; go_simp; try rfl))
           | (refine wpAnyH_take (i := 6) rfl (by kernel_rfl) (by kernel_rfl) (by kernel_rfl) (fun _ _ _ h => h) (Or.inr ⟨by rfl, rfl⟩) (by assumption) ?_)
         simp only [Act.put, List.setIfInBounds_toArray, List.set_cons_zero, List.set_cons_succ, List.getElem_toArray, List.getElem_cons_succ, List.getElem_cons_zero]
         first
           | (refine wpAnyH_take (i := 7) (v := ?_) rfl (by kernel_rfl) (by kernel_rfl) (by kernel_rfl) (fun _ _ _ h => h) (Or.inl ⟨by rfl, ?_⟩) (by assumption) ?_; rotate_left; · (intro w' hSw; have cj := below_cell hSw CJ.out; have f11 := below_cell hSw F11.out; have f0 := below_cell hSw F0.out; go_simp; try rfl))
           | (refine wpAnyH_take (i := 7) rfl (by kernel_rfl) (by kernel_rfl) (by kernel_rfl) (fun _ _ _ h => h) (Or.inr ⟨by rfl, rfl⟩) (by assumption) ?_)
         simp only [Act.put, List.setIfInBounds_toArray, List.set_cons_zero, List.set_cons_succ, List.getElem_toArray, List.getElem_cons_succ, List.getElem_cons_zero]
         first
           | (refine wpAnyH_take (i := 8) (v := ?_) rfl (by kernel_rfl) (by kernel_rfl) (by kernel_rfl) (fun _ _ _ h => h) (Or.inl ⟨by rfl, ?_⟩) (by assumption) ?_; rotate_left; · (intro w' hSw; have cj := below_cell hSw CJ.out; have f11 := below_cell hSw F11.out; have f0 := below_cell hSw F0.out; go_simp; try rfl))
           | (refine wpAnyH_take (i := 8) rfl (by kernel_rfl) (by kernel_rfl) (by kernel_rfl) (fun _ _ _ h => h) (Or.inr ⟨by rfl, rfl⟩) (by assumption) ?_)
         simp only [Act.put, List.setIfInBounds_toArray, List.set_cons_zero, List.set_cons_succ, List.getElem_toArray, List.getElem_cons_succ, List.getElem_cons_zero]
         first
           | (refine wpAnyH_take (i := 9) (v := ?_) rfl (by kernel_rfl) (by kernel_rfl) (by kernel_rfl) (fun _ _ _ h => h) (Or.inl ⟨by rfl, ?_⟩) (by assumption) ?_; rotate_left; · (intro w' hSw; have cj := below_cell hSw CJ.out; have f11 := below_cell hSw F11.out; have f0 := below_cell hSw F0.out; go_simp; try rfl))
           | (refine wpAnyH_take (i := 9) rfl (by kernel_rfl) (by kernel_rfl) (by kernel_rfl) (fun _ _ _ h => h) (Or.inr ⟨by rfl, rfl⟩) (by assumption) ?_)
         simp only [Act.put, List.setIfInBounds_toArray, List.set_cons_zero, List.set_cons_succ, List.getElem_toArray, List.getElem_cons_succ, List.getElem_cons_zero]
         first
           | (refine wpAnyH_take (i := 10) (v := ?_) rfl (by kernel_rfl) (by kernel_rfl) (by kernel_rfl) (fun _ _ _ h => h) (Or.inl ⟨by rfl, ?_⟩) (by assumption) ?_; rotate_left; · (intro w' hSw; have cj := below_cell hSw CJ.out; have f11 := below_cell hSw F11.out; have f0 := below_cell hSw F0.out; go_simp; try rfl))
           | (refine wpAnyH_take (i := 10) rfl (by kernel_rfl) (by kernel_rfl) (by kernel_rfl) (fun _ _ _ h => h) (Or.inr ⟨by rfl, rfl⟩) (by assumption) ?_)
         simp only [Act.put, List.setIfInBounds_toArray, List.set_cons_zero, List.set_cons_succ, List.getElem_toArray, List.getElem_cons_succ, List.getElem_cons_zero]
         first
           | (refine wpAnyH_take (i := 11) (v := ?_) rfl (by kernel_rfl) (by kernel_rfl) (by kernel_rfl) (fun _ _ _ h => h) (Or.inl ⟨by rfl, ?_⟩) (by assumption) ?_; rotate_left; · (intro w' hSw; have cj := below_cell hSw CJ.out; have f11 := below_cell hSw F11.out; have f0 := below_cell hSw F0.out; go_simp; try rfl))
           | (refine wpAnyH_take (i := 11) rfl (by kernel_rfl) (by kernel_rfl) (by kernel_rfl) (fun _ _ _ h => h) (Or.inr ⟨by rfl, rfl⟩) (by assumption) ?_)
         simp only [Act.put, List.setIfInBounds_toArray, List.set_cons_zero, List.set_cons_succ, List.getElem_toArray, List.getElem_cons_succ, List.getElem_cons_zero]
         first
           | (refine wpAnyH_take (i := 12) (v := ?_) rfl (by kernel_rfl) (by kernel_rfl) (by kernel_rfl) (fun _ _ _ h => h) (Or.inl ⟨by rfl, ?_⟩) (by assumption) ?_; rotate_left; · (intro w' hSw; have cj := below_cell hSw CJ.out; have f11 := below_cell hSw F11.out; have f0 := below_cell hSw F0.out; go_simp; try rfl))
           | (refine wpAnyH_take (i := 12) rfl (by kernel_rfl) (by kernel_rfl) (by kernel_rfl) (fun _ _ _ h => h) (Or.inr ⟨by rfl, rfl⟩) (by assumption) ?_)
         simp only [Act.put, List.setIfInBounds_toArray, List.set_cons_zero, List.set_cons_succ, List.getElem_toArray, List.getElem_cons_succ, List.getElem_cons_zero]
         first
           | (refine wpAnyH_take (i := 13) (v := ?_) rfl (by kernel_rfl) (by kernel_rfl) (by kernel_rfl) (fun _ _ _ h => h) (Or.inl ⟨by rfl, ?_⟩) (by assumption) ?_; rotate_left; · (intro w' hSw; have cj := below_cell hSw CJ.out; have f11 := below_cell hSw F11.out; have f0 := below_cell hSw F0.out; go_simp; try rfl))
           | (refine wpAnyH_take (i := 13) rfl (by kernel_rfl) (by kernel_rfl) (by kernel_rfl) (fun _ _ _ h => h) (Or.inr ⟨by rfl, rfl⟩) (by assumption) ?_)
         simp only [Act.put, List.setIfInBounds_toArray, List.set_cons_zero, List.set_cons_succ, List.getElem_toArray, List.getElem_cons_succ, List.getElem_cons_zero]
         first
           | (refine wpAnyH_take (i := 14) (v := ?_) rfl (by kernel_rfl) (by kernel_rfl) (by kernel_rfl) (fun _ _ _ h => h) (Or.inl ⟨by rfl, ?_⟩) (by assumption) ?_; rotate_left; · (intro w' hSw; have cj := below_cell hSw CJ.out; have f11 := below_cell hSw F11.out; have f0 := below_cell hSw F0.out; go_simp; try rfl))
           | (refine wpAnyH_take (i := 14) rfl (by kernel_rfl) (by kernel_rfl) (by kernel_rfl) (fun _ _ _ h => h) (Or.inr ⟨by rfl, rfl⟩) (by assumption) ?_)
         simp only [Act.put, List.setIfInBounds_toArray, List.set_cons_zero, List.set_cons_succ, List.getElem_toArray, List.getElem_cons_succ, List.getElem_cons_zero]
         first
           | (refine wpAnyH_take (i := 15) (v := ?_) rfl (by kernel_rfl) (by kernel_rfl) (by kernel_rfl) (fun _ _ _ h => h) (Or.inl ⟨by rfl, ?_⟩) (by assumption) ?_; rotate_left; · (intro w' hSw; have cj := below_cell hSw CJ.out; have f11 := below_cell hSw F11.out; have f0 := below_cell hSw F0.out; go_simp; try rfl))
           | (refine wpAnyH_take (i := 15) rfl (by kernel_rfl) (by kernel_rfl) (by kernel_rfl) (fun _ _ _ h => h) (Or.inr ⟨by rfl, rfl⟩) (by assumption) ?_)
         simp only [Act.put, List.setIfInBounds_toArray, List.set_cons_zero, List.set_cons_succ, List.getElem_toArray, List.getElem_cons_succ, List.getElem_cons_zero]
         first
           | (refine wpAnyH_take (i := 16) (v := ?_) rfl (by kernel_rfl) (by kernel_rfl) (by kernel_rfl) (fun _ _ _ h => h) (Or.inl ⟨by rfl, ?_⟩) (by assumption) ?_; rotate_left; · (intro w' hSw; have cj := below_cell hSw CJ.out; have f11 := below_cell hSw F11.out; have f0 := below_cell hSw F0.out; go_simp; try rfl))
           | (refine wpAnyH_take (i := 16) rfl (by kernel_rfl) (by kernel_rfl) (by kernel_rfl) (fun _ _ _ h => h) (Or.inr ⟨by rfl, rfl⟩) (by assumption) ?_)
         simp only [Act.put, List.setIfInBounds_toArray, List.set_cons_zero, List.set_cons_succ, List.getElem_toArray, List.getElem_cons_succ, List.getElem_cons_zero]
         first
           | (refine wpAnyH_take (i := 17) (v := ?_) rfl (by kernel_rfl) (by kernel_rfl) (by kernel_rfl) (fun _ _ _ h => h) (Or.inl ⟨by rfl, ?_⟩) (by assumption) ?_; rotate_left; · (intro w' hSw; have cj := below_cell hSw CJ.out; have f11 := below_cell hSw F11.out; have f0 := below_cell hSw F0.out; go_simp; try rfl))
           | (refine wpAnyH_take (i := 17) rfl (by kernel_rfl) (by kernel_rfl) (by kernel_rfl) (fun _ _ _ h => h) (Or.inr ⟨by rfl, rfl⟩) (by assumption) ?_)
         simp only [Act.put, List.setIfInBounds_toArray, List.set_cons_zero, List.set_cons_succ, List.getElem_toArray, List.getElem_cons_succ, List.getElem_cons_zero]
         first
           | (refine wpAnyH_take (i := 18) (v := ?_) rfl (by kernel_rfl) (by kernel_rfl) (by kernel_rfl) (fun _ _ _ h => h) (Or.inl ⟨by rfl, ?_⟩) (by assumption) ?_; rotate_left; · (intro w' hSw; have cj := below_cell hSw CJ.out; have f11 := below_cell hSw F11.out; have f0 := below_cell hSw F0.out; go_simp; try rfl))
           | (refine wpAnyH_take (i := 18) rfl (by kernel_rfl) (by kernel_rfl) (by kernel_rfl) (fun _ _ _ h => h) (Or.inr ⟨by rfl, rfl⟩) (by assumption) ?_)
         simp only [Act.put, List.setIfInBounds_toArray, List.set_cons_zero, List.set_cons_succ, List.getElem_toArray, List.getElem_cons_succ, List.getElem_cons_zero]
         first
           | (refine wpAnyH_take (i := 19) (v := ?_) rfl (by kernel_rfl) (by kernel_rfl) (by kernel_rfl) (fun _ _ _ h => h) (Or.inl ⟨by rfl, ?_⟩) (by assumption) ?_; rotate_left; · (intro w' hSw; have cj := below_cell hSw CJ.out; have f11 := below_cell hSw F11.out; have f0 := below_cell hSw F0.out; go_simp; try rfl))
           | (refine wpAnyH_take (i := 19) rfl (by kernel_rfl) (by kernel_rfl) (by kernel_rfl) (fun _ _ _ h => h) (Or.inr ⟨by rfl, rfl⟩) (by assumption) ?_)
         simp only [Act.put, List.setIfInBounds_toArray, List.set_cons_zero, List.set_cons_succ, List.getElem_toArray, List.getElem_cons_succ, List.getElem_cons_zero]
         first
           | (refine wpAnyH_take (i := 20) (v := ?_) rfl (by kernel_rfl) (by kernel_rfl) (by kernel_rfl) (fun _ _ _ h => h) (Or.inl ⟨by rfl, ?_⟩) (by assumption) ?_; rotate_left; · (intro w' hSw; have cj := below_cell hSw CJ.out; have f11 := below_cell hSw F11.out; have f0 := below_cell hSw F0.out; go_simp; try rfl))
           | (refine wpAnyH_take (i := 20) rfl (by kernel_rfl) (by kernel_rfl) (by kernel_rfl) (fun _ _ _ h => h) (Or.inr ⟨by rfl, rfl⟩) (by assumption) ?_)
         simp only [Act.put, List.setIfInBounds_toArray, List.set_cons_zero, List.set_cons_succ, List.getElem_toArray, List.getElem_cons_succ, List.getElem_cons_zero]
         first
           | (refine wpAnyH_take (i := 21) (v := ?_) rfl (by kernel_rfl) (by kernel_rfl) (by kernel_rfl) (fun _ _ _ h => h) (Or.inl ⟨by rfl, ?_⟩) (by assumption) ?_; rotate_left; · (intro w' hSw; have cj := below_cell hSw CJ.out; have f11 := below_cell hSw F11.out; have f0 := below_cell hSw F0.out; go_simp; try rfl))
           | (refine wpAnyH_take (i := 21) rfl (by kernel_rfl) (by kernel_rfl) (by kernel_rfl) (fun _ _ _ h => h) (Or.inr ⟨by rfl, rfl⟩) (by assumption) ?_)
         simp only [Act.put, List.setIfInBounds_toArray, List.set_cons_zero, List.set_cons_succ, List.getElem_toArray, List.getElem_cons_succ, List.getElem_cons_zero]
         first
           | (refine wpAnyH_take (i := 22) (v := ?_) rfl (by kernel_rfl) (by kernel_rfl) (by kernel_rfl) (fun _ _ _ h => h) (Or.inl ⟨by rfl, ?_⟩) (by assumption) ?_; rotate_left; · (intro w' hSw; have cj := below_cell hSw CJ.out; have f11 := below_cell hSw F11.out; have f0 := below_cell hSw F0.out; go_simp; try rfl))
           | (refine wpAnyH_take (i := 22) rfl (by kernel_rfl) (by kernel_rfl) (by kernel_rfl) (fun _ _ _ h => h) (Or.inr ⟨by rfl, rfl⟩) (by assumption) ?_)
         simp only [Act.put, List.setIfInBounds_toArray, List.set_cons_zero, List.set_cons_succ, List.getElem_toArray, List.getElem_cons_succ, List.getElem_cons_zero]
         first
           | (refine wpAnyH_take (i := 23) (v := ?_) rfl (by kernel_rfl) (by kernel_rfl) (by kernel_rfl) (fun _ _ _ h => h) (Or.inl ⟨by rfl, ?_⟩) (by assumption) ?_; rotate_left; · (intro w' hSw; have cj := below_cell hSw CJ.out; have f11 := below_cell hSw F11.out; have f0 := below_cell hSw F0.out; go_simp; try rfl))
           | (refine wpAnyH_take (i := 23) rfl (by kernel_rfl) (by kernel_rfl) (by kernel_rfl) (fun _ _ _ h => h) (Or.inr ⟨by rfl, rfl⟩) (by assumption) ?_)
         simp only [Act.put, List.setIfInBounds_toArray, List.set_cons_zero, List.set_cons_succ, List.getElem_toArray, List.getElem_cons_succ, List.getElem_cons_zero]
         first
           | (refine wpAnyH_take (i := 24) (v := ?_) rfl (by kernel_rfl) (by kernel_rfl) (by kernel_rfl) (fun _ _ _ h => h) (Or.inl ⟨by rfl, ?_⟩) (by assumption) ?_; rotate_left; · (intro w' hSw; have cj := below_cell hSw CJ.out; have f11 := below_cell hSw F11.out; have f0 := below_cell hSw F0.out; go_simp; try rfl))
           | (refine wpAnyH_take (i := 24) rfl (by kernel_rfl) (by kernel_rfl) (by kernel_rfl) (fun _ _ _ h => h) (Or.inr ⟨by rfl, rfl⟩) (by assumption) ?_)
         simp only [Act.put, List.setIfInBounds_toArray, List.set_cons_zero, List.set_cons_succ, List.getElem_toArray, List.getElem_cons_succ, List.getElem_cons_zero]
         refine wpAnyH_done (by kernel_rfl) ?_ _
         have hb5 := hb.trans ((below_drew wr).mono hb.size)
         have HR5 := Lib.hid (show wr.drew.heap[B9]? = some (.cells (ndC x).toArray 25) from HRt.out)
         generalize wr.drew = w5 at *
         clear f11 f0 F11 F0 CJ d1 d2 e1 hb HRt EY
         go_wp2_with fail
         go_loopw [11] (fun kv wz => ∃ q : Nat, kv = .int .i64 q ∧ q ≤ j ∧ Hid (wz.heap[B9]? = some (.cells (ndC x).toArray 25)) ∧ Below w4.heap.size w4 wz) (fun kv _ => j - (intOf kv).toNat)
         case atStart => exact ⟨0, rfl, Nat.zero_le _, HR5, hb5⟩
         case round =>
           clear HR5 hb5
           obtain ⟨q, rfl, hq, HRq, hb⟩ := hrel
           have cj := below_cell hb CJ4.out
           have f11 : wr.cell? ⟨B9, 11, none⟩ = some (.slice (some ⟨b, o, none⟩) k.len kc) := by rw [cells12 HRq.out 11 _ rfl]; exact congrArg some HKV.out
           by_cases hqe : q = j
           · subst hqe
             have F11 := Lib.hid f11
             have CJ := Lib.hid cj
             have EYq := Lib.hid (fun u v (hu : (ndC y)[u]? = some v) => below_cell hb (EY4.out u v hu))
             go_wp2_with fail
             refine wp_region_held_drew (S := fun w' => Below B9 wr w') (by kernel_rfl) (by have := (below_drew wr); exact ⟨this.os, this.tape, this.output, this.size, fun k _ => rfl⟩) (fun hHeld => ?_)
             first
               | (refine wpAnyH_take (i := 0) (v := ?_) rfl (by kernel_rfl) (by kernel_rfl) (by kernel_rfl) (fun _ _ _ h => h) (Or.inl ⟨by rfl, ?_⟩) (by assumption) ?_; rotate_left; · (intro w' hSw; go_simp; try rfl))
               | (refine wpAnyH_take (i := 0) rfl (by kernel_rfl) (by kernel_rfl) (by kernel_rfl) (fun _ _ _ h => h) (Or.inr ⟨by rfl, rfl⟩) (by assumption) ?_)
             simp only [Act.put, List.setIfInBounds_toArray, List.set_cons_zero, List.set_cons_succ, List.getElem_toArray, List.getElem_cons_zero]
             first
               | (refine wpAnyH_take (i := 2) (v := ?_) rfl (by kernel_rfl) (by kernel_rfl) (by kernel_rfl) (fun _ _ _ h => h) (Or.inl ⟨by rfl, ?_⟩) (by assumption) ?_; rotate_left; · (intro w' hSw; go_simp; try rfl))
               | (refine wpAnyH_take (i := 2) rfl (by kernel_rfl) (by kernel_rfl) (by kernel_rfl) (fun _ _ _ h => h) (Or.inr ⟨by rfl, rfl⟩) (by assumption) ?_)
             simp only [Act.put, List.setIfInBounds_toArray, List.set_cons_zero, List.set_cons_succ, List.getElem_toArray, List.getElem_cons_succ, List.getElem_cons_zero]
             first
               | (refine wpAnyH_take (i := 3) (v := ?_) rfl (by kernel_rfl) (by kernel_rfl) (by kernel_rfl) (fun _ _ _ h => h) (Or.inl ⟨by rfl, ?_⟩) (by assumption) ?_; rotate_left; · (intro w' hSw; go_simp; try rfl))
               | (refine wpAnyH_take (i := 3) rfl (by kernel_rfl) (by kernel_rfl) (by kernel_rfl) (fun _ _ _ h => h) (Or.inr ⟨by rfl, rfl⟩) (by assumption) ?_)
             simp only [Act.put, List.setIfInBounds_toArray, List.set_cons_zero, List.set_cons_succ, List.getElem_toArray, List.getElem_cons_succ, List.getElem_cons_zero]
             first
               | (refine wpAnyH_take (i := 4) (v := ?_) rfl (by kernel_rfl) (by kernel_rfl) (by kernel_rfl) (fun _ _ _ h => h) (Or.inl ⟨by rfl, ?_⟩) (by assumption) ?_; rotate_left; · (intro w' hSw; have cj := (World.cell?_of_block (a := ⟨pb, po + i, none⟩) (hSw.block pb hpb)).trans CJ.out; go_simp; try rfl))
               | (refine wpAnyH_take (i := 4) rfl (by kernel_rfl) (by kernel_rfl) (by kernel_rfl) (fun _ _ _ h => h) (Or.inr ⟨by rfl, rfl⟩) (by assumption) ?_)
             simp only [Act.put, List.setIfInBounds_toArray, List.set_cons_zero, List.set_cons_succ, List.getElem_toArray, List.getElem_cons_succ, List.getElem_cons_zero]
             first
               | (refine wpAnyH_take (i := 5) (v := ?_) rfl (by kernel_rfl) (by kernel_rfl) (by kernel_rfl) (fun _ _ _ h => h) (Or.inl ⟨by rfl, ?_⟩) (by assumption) ?_; rotate_left; · (intro w' hSw; have cj := (World.cell?_of_block (a := ⟨pb, po + i, none⟩) (hSw.block pb hpb)).trans CJ.out; go_simp; try rfl))
               | (refine wpAnyH_take (i := 5) rfl (by kernel_rfl) (by kernel_rfl) (by kernel_rfl) (fun _ _ _ h => h) (Or.inr ⟨by rfl, rfl⟩) (by assumption) ?_)
             simp only [Act.put, List.setIfInBounds_toArray, List.set_cons_zero, List.set_cons_succ, List.getElem_toArray, List.getElem_cons_succ, List.getElem_cons_zero]
             refine wpAnyH_ready (rs := [1]) (by kernel_rfl) (by simp) ?_
             refine AllReadyH.cons rfl (fun K hK => ?_) AllReadyH.nil
             have f11d : wr.drew.cell? ⟨B9, 11, none⟩ = some (.slice (some ⟨b, o, none⟩) k.len kc) := F11.out
             go_simp
             clear f11d
             refine hK.out _ _ hHeld (fun hHeld => ?_)
             clear hK K
             try simp only [Act.put, List.setIfInBounds_toArray, List.set_cons_zero, List.set_cons_succ, List.getElem_toArray, List.getElem_cons_succ, List.getElem_cons_zero]
             first
               | (refine wpAnyH_take (i := 6) (v := ?_) rfl (by kernel_rfl) (by kernel_rfl) (by kernel_rfl) (fun _ _ _ h => h) (Or.inl ⟨by rfl, ?_⟩) (by assumption) ?_; rotate_left; · (intro w' hSw; go_simp; try rfl))
               | (refine wpAnyH_take (i := 6) rfl (by kernel_rfl) (by kernel_rfl) (by kernel_rfl) (fun _ _ _ h => h) (Or.inr ⟨by rfl, rfl⟩) (by assumption) ?_)
             simp only [Act.put, List.setIfInBounds_toArray, List.set_cons_zero, List.set_cons_succ, List.getElem_toArray, List.getElem_cons_succ, List.getElem_cons_zero]
             first
               | (refine wpAnyH_take (i := 7) (v := ?_) rfl (by kernel_rfl) (by kernel_rfl) (by kernel_rfl) (fun _ _ _ h => h) (Or.inl ⟨by rfl, ?_⟩) (by assumption) ?_; rotate_left; · (intro w' hSw; refine exec_load_nd (x := .tmp 92) (b := b) (off := o + q * 12) (l := y) ?_ ?_ (fun u v hu => (World.cell?_of_block (a := ⟨b, o + q * 12 + u, none⟩) (hSw.block b hbb)).trans (EYq.out u v hu)) <;> rfl))
               | (refine wpAnyH_take (i := 7) rfl (by kernel_rfl) (by kernel_rfl) (by kernel_rfl) (fun _ _ _ h => h) (Or.inr ⟨by rfl, rfl⟩) (by assumption) ?_)
             simp only [Act.put, List.setIfInBounds_toArray, List.set_cons_zero, List.set_cons_succ, List.getElem_toArray, List.getElem_cons_succ, List.getElem_cons_zero]
             refine wpAnyH_ready (rs := [8]) (by kernel_rfl) (by simp) ?_
             refine AllReadyH.cons rfl (fun K hK => ?_) AllReadyH.nil
             refine held_store_old rfl rfl _ _ rfl (B := B9) (old := (ndC x).toArray) HRq.out rfl rfl y (node_one NY.out) rfl ?_
             intro W6 hr6 hb6
             have hb6' : Below B9 wr W6 := ⟨(hb6 B9 (Nat.le_refl _)).os, (hb6 B9 (Nat.le_refl _)).tape, (hb6 B9 (Nat.le_refl _)).output, (hb6 B9 (Nat.le_refl _)).size, (hb6 B9 (Nat.le_refl _)).block⟩
             refine hK.out _ _ hb6' (fun hHeld => ?_)
             clear hK K hb6
             try simp only [Act.put, List.setIfInBounds_toArray, List.set_cons_zero, List.set_cons_succ, List.getElem_toArray, List.getElem_cons_succ, List.getElem_cons_zero]
             refine wpAnyH_done (by kernel_rfl) ?_ _
             have HR6 := Lib.hid hr6
             have hb7 : Below w4.heap.size w4 W6 := hb.trans (by rw [hB9]; exact hb6')
             clear f11 cj
             go_wp2_with fail
             go_roundw
             case rel => exact ⟨i + 1, (y, k'), by go_num, by omega, HFY, NY, hsy, HR6, hb7⟩
             case measure => simp [intOf]; omega
           · have hlq : q < j := by omega
             obtain ⟨z, kz, rz, hdz⟩ := drop_lt (f := k) (i := q) (by omega)
             obtain ⟨b', o', cap2, hvz, _, _, _, hfz⟩ := kid_at (below_nd hb HNt.out).2.2 hdz
             obtain ⟨e3, e4, e5⟩ : b = b' ∧ o = o' ∧ kc = cap2 := by
               have := HKV.out.symm.trans hvz
               simp only [Value.slice.injEq, Option.some.injEq, Addr.mk.injEq, and_true] at this
               exact ⟨this.1.1, this.1.2, this.2.2⟩
             subst e3 e4 e5
             have hcs := Lib.hid hfz.1
             have hadd := add_row b o q 12
             have i3 : (q : Int) < (k.len : Int) := by omega
             have i4 : (q : Int) < (j : Int) := by omega
             have HI := Lib.hid (kid_find (kd := kd) (below_nd hb HNt.out) hsz hdz (Below.refl _ _)).2
             rw [HNO.out q z kz rz hlq hdz] at HI
             clear hvz hfz hdz
             go_wp2_with (refine wpList_load_nd rfl _ rfl b (o + q * 12) rfl z hcs.out ?_)
             refine HI.out.mono ?_
             rintro e w6 ⟨v6, rfl, _, hb6⟩
             simp only [Option.isSome_none]
             have HR6 := Lib.hid ((hb6.block B9 (Array.getElem?_eq_some_iff.1 HRq.out).1).trans HRq.out)
             go_wp2_with fail
             go_roundw
             case rel => exact ⟨q + 1, by go_num, by omega, HR6, hb.trans (hb6.mono hb.size)⟩
             case measure => simp [intOf]; omega
end Go.Proofs.Ytpjaahojoabgjaa.trw
end
section
namespace Go.Proofs.Ytpjaahojoabgjaa.trw
open Go Go.RowKit Go.ChangeShapes Go.WideShapes trp
instance : Inhabited Lab := ⟨⟨0, 0, 0, .bool false, [], false, 0, 0, 0, ⟨#[]⟩, 0, 0, .bool false⟩⟩
instance : Inhabited F := ⟨.nil⟩
section
variable {H : Type} {enc : TypeId × Value → H} {W : World}
end
end Go.Proofs.Ytpjaahojoabgjaa.trw
end
