/- T -/
import Derived.BigQuiet
import Derived.Carry
import Derived.ChangeMaps5
import Derived.Deep.DeepHandedRow
import Derived.KernelRfl
import Derived.Lib.LaidTab
import Derived.Lib.QuietBelow
import Derived.Lib.SlBytesConst
import Derived.SizedLaws
import Derived.Stop.LaidErr
import Derived.Test.YtkcmjcgjfjfimaaGreatDoorCards
import Derived.Test.YtkcmjcgjfjfimaaGreatDoorTie
import Derived.Test.YtkcmjcgjfjfimaaGreatDoorBBl06
section
namespace Go.Proofs.YtkcmjcgjfjfimaaGreatDoor.tkw
open Go Go.RowKit Go.Maps utfp utfw ucdp setp setw prp tkp
theorem sl_form {w : World} {v : Value} {n : Nat} {g : Nat → Int} (h : Sl w v n g) : ∃ a c, v = .slice a n c := by
 obtain ⟨_, _, ⟨rfl, a, c, hv, _⟩ | ⟨b, off, cap, hv, _⟩⟩ := h
 ·exact ⟨_, _, hv⟩
 ·exact ⟨_, _, hv⟩
theorem globAt_below {w w' : World} {g : Nat} {cs : List Value} (h : GlobAt w g cs) (hb : Below w.heap.size w w') : GlobAt w' g cs := fun i v hi => below_cell hb (h i v hi)
theorem tokRow_form {w : World} {b : Nat} {v : Value} {T : List Tk} (h : TokRow w b v T) : ∃ a n c, v = .slice a n c := by
 obtain ⟨l0, _, _, hl3⟩ := h
 rcases hl3.2 with ⟨h, _⟩ | ⟨g, cap, cur, h, _⟩ <;> exact ⟨_, _, _, h⟩
theorem read_lex {w : World} {a : Option Addr} {n cap : Nat} {g : Nat → Int} {o : Int} (hv : Sl w (.slice a n cap) n g) (hG : Glo w) (hn : n ≤ 1000) {w1 : World} (hb : Below w.heap.size w w1) (hr : lexP g n o = (ptOf g n o).read ((ptOf g n o).n + 1) [] 0)
   (L m1 m2 m3 : Nat) (w2 : World) (hf : Fresh w1 w2 L m1 m2 m3 (.slice a n cap) (ptOf g n o)) (hb2 : Below w1.heap.size w1 w2) : Calls Tryz.prog 12 #[.pointer (some ⟨L, 0, none⟩)] w2 (ReadB w (lexP g n o)) := by
 have hs := hb.size
 rw [hr]
 refine read_any (w0 := w) (p := ptOf g n o) (pv := .slice a n cap) ⟨hf.lx, hf.e1, hf.e2, hf.e3, ?_, ?_, ?_, ?_, hf.ne⟩ (hb.trans (hb2.mono hs)) hv hn hG
 · have := hf.b1; omega
 · have := hf.b2; omega
 · have := hf.b3; omega
 · have := hf.bL; omega
set_option maxRecDepth 100000 in
set_option maxHeartbeats 4000000 in
theorem lex_any (v : Value) (n : Nat) (g : Nat → Int) (o : Int) (w : World) (hv : Sl w v n g) (hG : Glo w) : Calls Tryz.prog 7 #[v, .int .i64 o] w (ReadB w (lexP g n o)) := by
 obtain ⟨a, cap, rfl⟩ := sl_form hv
 by_cases h0 : o < 0 ∨ 65535 < o
 ·have HR := Lib.hid (lex_arg (g := g) (n := n) h0)
  rcases (show o < 0 ∨ (0 ≤ o ∧ 65535 < o) by omega) with h | ⟨h, h2⟩
  all_goals
   clear h0 hv hG
   go_enter Tryz.func7, Tryz.ntmps7
   go_wp2_with fail
   go_ret3
   rw [HR.out]
   exact ⟨Below.refl _ _, rfl⟩
 have ho0 : 0 ≤ o := by omega
 have ho1 : o ≤ 65535 := by omega
 by_cases h1 : 1000 < n
 ·have HR := Lib.hid (show lexP g n o = .error (10, 1000) by unfold lexP; rw [if_neg h0, if_pos h1])
  have hn1 : (1000 : Int) < (n : Int) := by omega
  clear h0 hv hG
  go_enter Tryz.func7, Tryz.ntmps7
  go_wp2_with fail
  go_ret3
  rw [HR.out]
  exact ⟨Below.refl _ _, rfl⟩
 have hn1 : (n : Int) ≤ 1000 := by omega
 have hu := opt_bit o ho0 ho1 5 (by decide)
 have e5 : (((2 ^ 5 : Nat) : Int)) = 32 := by decide
 rw [e5] at hu
 clear e5
 have RD := Lib.hid (fun (w1 : World) (hb : Below w.heap.size w w1) (hr : lexP g n o = (ptOf g n o).read ((ptOf g n o).n + 1) [] 0) => read_lex (a := a) (n := n) (cap := cap) (g := g) (o := o) hv hG (by omega) hb hr)
 have NW := Lib.hid (fun w1 => newLexer_any a n cap g o w1 ho0 ho1)
 cases hub : o.toNat.testBit 5 with
 | false =>
  rw [hub] at hu
  have hr : lexP g n o = (ptOf g n o).read ((ptOf g n o).n + 1) [] 0 := lexP_run ho0 ho1 (by omega) (by rw [hub]; intro h; cases h)
  have HR := Lib.hid hr
  clear hr h0 hv hG hub h1
  go_enter Tryz.func7, Tryz.ntmps7
  go_wp2_with fail
  refine (NW.out w).mono ?_
  rintro e w2 ⟨L, m1, m2, m3, rfl, hf, hb2⟩
  have HC := Lib.hid (RD.out w (Below.refl _ _) HR.out L m1 m2 m3 w2 hf hb2)
  clear hf hb2
  go_wp2_with fail
  refine HC.out.mono ?_
  intro e w3 hr3
  obtain ⟨R, hR⟩ : ∃ R, lexP g n o = R := ⟨_, rfl⟩
  rw [hR] at hr3
  obtain ⟨hb3, hr3⟩ := hr3
  cases R with
  | error x =>
   obtain rfl := hr3
   have HRR := Lib.hid hR
   clear hR
   go_wp2_with fail
   go_ret3
   rw [HRR.out]
   exact ⟨hb3, rfl⟩
  | ok T =>
   obtain ⟨v, rfl, ht⟩ := hr3
   obtain ⟨va, vn, vc, rfl⟩ := tokRow_form ht
   have HT := Lib.hid ht
   have HRR := Lib.hid hR
   clear hR ht
   go_wp2_with fail
   go_ret3
   rw [HRR.out]
   exact ⟨hb3, _, rfl, HT.out⟩
 | true =>
  rw [hub] at hu
  have HV := Lib.hid (valid_any (.slice a n cap) n g w hv hG.tabs)
  cases hvb : (validP g n).2 with
  | false =>
   have HR := Lib.hid (show lexP g n o = .error (13, (validP g n).1) by unfold lexP; rw [if_neg h0, if_neg h1, if_pos ⟨hub, hvb⟩])
   generalize validP g n = q at *
   obtain ⟨q1, q2⟩ := q
   simp only at hvb
   subst hvb
   clear h0 hv hG hub h1
   go_enter Tryz.func7, Tryz.ntmps7
   go_wp2_with fail
   refine HV.out.mono ?_
   rintro e w2 ⟨rfl, hd2⟩
   go_wp2_with fail
   go_ret3
   rw [HR.out]
   exact ⟨drawn_below hd2, rfl⟩
  | true =>
   have hr : lexP g n o = (ptOf g n o).read ((ptOf g n o).n + 1) [] 0 := lexP_run ho0 ho1 (by omega) (fun _ => hvb)
   have HR := Lib.hid hr
   generalize validP g n = q at *
   obtain ⟨q1, q2⟩ := q
   simp only at hvb
   subst hvb
   clear hr h0 hv hG hub h1
   go_enter Tryz.func7, Tryz.ntmps7
   go_wp2_with fail
   refine HV.out.mono ?_
   rintro e w1 ⟨rfl, hd1⟩
   have hb1 := drawn_below hd1
   clear hd1
   go_wp2_with fail
   refine (NW.out w1).mono ?_
   rintro e w2 ⟨L, m1, m2, m3, rfl, hf, hb2⟩
   have HC := Lib.hid (RD.out w1 hb1 HR.out L m1 m2 m3 w2 hf hb2)
   clear hf hb2
   go_wp2_with fail
   refine HC.out.mono ?_
   intro e w3 hr3
   obtain ⟨R, hR⟩ : ∃ R, lexP g n o = R := ⟨_, rfl⟩
   rw [hR] at hr3
   obtain ⟨hb3, hr3⟩ := hr3
   cases R with
   | error x =>
    obtain rfl := hr3
    have HRR := Lib.hid hR
    clear hR
    go_wp2_with fail
    go_ret3
    rw [HRR.out]
    exact ⟨hb3, rfl⟩
   | ok T =>
    obtain ⟨v, rfl, ht⟩ := hr3
    obtain ⟨va, vn, vc, rfl⟩ := tokRow_form ht
    have HT := Lib.hid ht
    have HRR := Lib.hid hR
    clear hR ht
    go_wp2_with fail
    go_ret3
    rw [HRR.out]
    exact ⟨hb3, _, rfl, HT.out⟩
end Go.Proofs.YtkcmjcgjfjfimaaGreatDoor.tkw
end
section
namespace Go.Proofs.YtkcmjcgjfjfimaaGreatDoor.tkr
open Go Go.RowKit Go.ChangeShapes Go.WideShapes Go.ChangeAt utfp utfw prp tkp tkw
theorem own : ownKnob Tryz.prog.godebug = none := by kernel_rfl
theorem laidOut : laidOutB Tryz.prog = true := by kernel_rfl
theorem cellsInt : Tryz.prog.cellsOf 3 = 1 := by kernel_rfl
theorem recInts : Tryz.prog.readableRec 32 = true := by kernel_rfl
theorem rowInts : (32 : TypeId) < Tryz.prog.types.size := of_decide_eq_true (by kernel_rfl)
def valD {H : Type} : DataW H → Value
 | .lit (.int k z) => .int k z
 | .lit (.string s) => .string ⟨s.toArray⟩
 | _ => undef
def rowV {H : Type} : DataW H → List Value
 | .agg xs => xs.map valD
 | d => [valD d]
theorem flat_k {α : Type} (f : α → List Value) (k : Nat) : ∀ (l : List α) (i j : Nat), (∀ a ∈ l, (f a).length = k) → j < k → (l.flatMap f)[i * k + j]? = (l[i]?).bind fun a => (f a)[j]?
 | [], i, j, _, _ => by simp
 | a :: l, 0, j, h, hj => by
  rw [List.flatMap_cons, List.getElem?_append_left (by rw [h a (List.mem_cons_self ..)]; omega)]
  simp
 | a :: l, i + 1, j, h, hj => by
  have e : (i + 1) * k + j = k + (i * k + j) := by rw [Nat.add_mul, Nat.one_mul]; omega
  rw [List.flatMap_cons, List.getElem?_append_right (by rw [h a (List.mem_cons_self ..)]; omega), h a (List.mem_cons_self ..), e, Nat.add_sub_cancel_left, flat_k f k l i j (fun b hb => h b (List.mem_cons_of_mem _ hb)) hj]
  simp
section
variable {H : Type} {enc : TypeId × Value → H} {P : Program} {w : World} {base : Nat} {sp : Nat → Bool} {held : Bool}
theorem val_of {fuel : Nat} {t : TypeId} {v : Value} {x : DataW H × List MemPlace} (ht : P.underlying t = some .string ∨ P.underlying t = some (.int .i64)) (h : DataW.trod enc P w base sp held fuel t [v] = some x) : v = valD x.1 := by
 rcases ht with ht | ht
 ·obtain ⟨s, h1, rfl, _⟩ := DataW.trod_string ht h
  simp only [List.cons.injEq, and_true] at h1
  rw [h1]
  show Value.string s = .string ⟨s.data.toList.toArray⟩
  simp
 ·obtain ⟨z, h1, rfl, _⟩ := DataW.trod_int ht h
  simp only [List.cons.injEq, and_true] at h1
  exact h1
theorem struct_vals {fuel : Nat} {e : TypeId} {fs : Array Field} {cs : List Value} {D : DataW H} {p : List MemPlace} (he : P.underlying e = some (.struct fs)) (hce : P.cellsOf e = fs.size)
   (hf : ∀ (i : Nat) (f : Field), fs[i]? = some f → f.offset = i ∧ P.cellsOf f.type = 1 ∧ (P.underlying f.type = some .string ∨ P.underlying f.type = some (.int .i64))) (h : DataW.trod enc P w base sp held fuel e cs = some (D, p)) : cs = rowV D ∧ cs.length = fs.size := by
 obtain ⟨xs, n, _, hx, hl, hxl, hi⟩ := DataW.trod_struct he h
 rw [hce] at hl
 simp only [Prod.mk.injEq] at hx
 obtain ⟨rfl, rfl⟩ := hx
 refine ⟨?_, hl⟩
 show cs = (xs.map (·.1)).map valD
 apply List.ext_getElem?
 intro i
 by_cases hlt : i < fs.size
 · obtain ⟨f, hfi⟩ : ∃ f, fs[i]? = some f := ⟨fs[i], by simp [hlt]⟩
   obtain ⟨h1, h2, h3⟩ := hf i f hfi
   have ht := hi i f hfi
   rw [h1, h2] at ht
   have hc : (cs.drop i).take 1 = [cs[i]] := by
     rw [List.drop_eq_getElem_cons (by omega)]
     rfl
   rw [hc] at ht
   obtain ⟨x, hx⟩ : ∃ x, xs[i]? = some x := ⟨xs[i], by simp [hxl, hlt]⟩
   rw [hx] at ht
   have hv := val_of h3 ht
   rw [List.getElem?_map, List.getElem?_map, hx, List.getElem?_eq_getElem (by omega), hv]
   rfl
 · rw [List.getElem?_eq_none (by omega), List.getElem?_eq_none (by simp; omega)]
theorem array_vals {fuel : Nat} {t e : TypeId} {n k : Nat} {cs : List Value} {Ds : List (DataW H)} {p : List MemPlace} (ht : P.underlying t = some (.array n e)) (hce : P.cellsOf e = k) (hct : P.cellsOf t = n * k)
   (hel : ∀ (m : Nat) (c : List Value) (D : DataW H) (q : List MemPlace), DataW.trod enc P w base sp held m e c = some (D, q) → c = rowV D ∧ c.length = k) (h : DataW.trod enc P w base sp held fuel t cs = some (.agg Ds, p)) : cs = Ds.flatMap rowV := by
 cases fuel with
 | zero => simp [DataW.trod] at h
 | succ fuel =>
   simp only [DataW.trod, ht, hce, hct] at h
   split at h
   · rename_i hl
     obtain ⟨xs, hm, hx⟩ := Option.map_eq_some_iff.1 h
     have hxs : xs.map (·.1) = Ds := by
       have := congrArg Prod.fst hx
       simpa using this
     have hxl : xs.length = n := by simpa using Lib.mapM_length hm
     have hlen : ∀ D ∈ Ds, (rowV D).length = k := fun D hD => by
       rw [← hxs] at hD
       obtain ⟨x, hx1, rfl⟩ := List.mem_map.1 hD
       obtain ⟨i, hi, hix⟩ := List.getElem_of_mem hx1
       obtain ⟨y, hy, hf⟩ := Lib.mapM_at hm i i (by rw [List.getElem?_range (by omega)])
       rw [List.getElem?_eq_getElem hi, hix] at hy
       cases hy
       obtain ⟨h1, h2⟩ := hel _ _ _ _ hf
       rw [← h1, h2]
     apply List.ext_getElem?
     intro i
     by_cases hk : k = 0
     · subst hk
       rw [List.getElem?_eq_none (by omega), List.getElem?_eq_none]
       have : ∀ l : List (DataW H), (∀ D ∈ l, (rowV D).length = 0) → (l.flatMap rowV).length = 0 := fun l => by
         induction l with
         | nil => intro _; rfl
         | cons a l ih =>
           intro hh
           rw [List.flatMap_cons, List.length_append, hh a (List.mem_cons_self ..), ih fun D hD => hh D (List.mem_cons_of_mem _ hD)]
       rw [this Ds hlen]
       exact Nat.zero_le _
     · have hk0 : 0 < k := Nat.pos_of_ne_zero hk
       have hi2 : i = i / k * k + i % k := by rw [Nat.mul_comm]; exact (Nat.div_add_mod i k).symm
       have hmod := Nat.mod_lt i hk0
       have hflat := flat_k rowV k Ds (i / k) (i % k) hlen hmod
       rw [← hi2] at hflat
       rw [hflat]
       by_cases hlt : i / k < n
       · obtain ⟨y, hy, hf⟩ := Lib.mapM_at hm (i / k) (i / k) (by simp [hlt])
         have hD : Ds[i / k]? = some y.1 := by rw [← hxs, List.getElem?_map, hy]; rfl
         obtain ⟨h1, _⟩ := hel _ _ _ _ hf
         rw [hD, Option.bind_some, ← h1, List.getElem?_take, if_pos hmod, List.getElem?_drop, ← hi2]
       · have hD : Ds[i / k]? = none := List.getElem?_eq_none (by rw [← hxs]; simp; omega)
         rw [hD, Option.bind_none]
         refine List.getElem?_eq_none ?_
         rw [hl]
         have : n ≤ i / k := by omega
         calc n * k ≤ i / k * k := Nat.mul_le_mul_right k this
           _ ≤ i := Nat.div_mul_le_self i k
   · cases h
end
theorem elem_string {H : Type} {enc : TypeId × Value → H} {P : Program} {w : World} {base : Nat} {sp : Nat → Bool} {held : Bool} {e : TypeId} (he : P.underlying e = some .string) (m : Nat) (c : List Value) (D : DataW H) (q : List MemPlace) (h : DataW.trod enc P w base sp held m e c = some (D, q)) : c = rowV D ∧ c.length = 1 := by
 obtain ⟨s, rfl, hx, _⟩ := DataW.trod_string he h
 simp only [Prod.mk.injEq] at hx
 obtain ⟨rfl, rfl⟩ := hx
 refine ⟨?_, rfl⟩
 show [Value.string s] = [.string ⟨s.data.toList.toArray⟩]
 simp
theorem var_array {P : Program} {W : World} {name : String} {Ds : List (DataW Unit)} {r : List (String × DataW Unit)} {g : Nat} {t e : TypeId} {n k : Nat}
   (hg : P.globalNamed name = some g) (hty : (P.globals[g]?).map (·.type) = some t) (ht : P.underlying t = some (.array n e)) (hce : P.cellsOf e = k) (hct : P.cellsOf t = n * k)
   (hel : ∀ (enc : TypeId × Value → Unit) (base : Nat) (sp : Nat → Bool) (held : Bool) (m : Nat) (c : List Value) (D : DataW Unit) (q : List MemPlace), DataW.trod enc P W base sp held m e c = some (D, q) → c = rowV D ∧ c.length = k)
   (h : laidMet P ((name, .agg Ds) :: r) W) : ∃ ty fr, W.heap[g]? = some (.cells (Ds.flatMap rowV).toArray ty fr) := by
 obtain ⟨ps, ⟨g', t', cs, fuel, p, q, hg', ht', hvar, hd, _, _⟩, _⟩ := h
 obtain rfl := Option.some.inj (hg.symm.trans hg')
 obtain rfl := Option.some.inj (hty.symm.trans ht')
 have hc := array_vals ht hce hct (fun m c D q hh => hel _ _ _ _ m c D q hh) hd
 unfold World.var? at hvar
 rw [hg] at hvar
 simp only [Option.bind_some] at hvar
 split at hvar
 · rename_i c ty fr e
   simp only [Option.some.injEq] at hvar
   subst hvar
   refine ⟨ty, fr, ?_⟩
   rw [e, ← hc]
 · cases hvar
theorem var_iface {P : Program} {W : World} {name nm : String} {D : DataW Unit} {r : List (String × DataW Unit)} {g : Nat} {t : TypeId} {ms : Array (String × TypeId)}
   (hg : P.globalNamed name = some g) (hty : (P.globals[g]?).map (·.type) = some t) (ht : P.underlying t = some (.interface ms)) (h : laidMet P ((name, .iface nm D) :: r) W) : ∃ u x, W.cell? ⟨g, 0, none⟩ = some (.iface u x) := by
 obtain ⟨ps, ⟨g', t', cs, fuel, p, q, hg', ht', hvar, hd, _, _⟩, _⟩ := h
 obtain rfl := Option.some.inj (hg.symm.trans hg')
 obtain rfl := Option.some.inj (hty.symm.trans ht')
 have hc := World.var?_cell hg hvar 0
 obtain ⟨l⟩ := cs
 cases fuel with
 | zero => simp [DataW.trod] at hd
 | succ fuel =>
   unfold DataW.trod at hd
   rw [ht] at hd
   split at hd <;> simp_all
def lens : List Int := [1, 1, 1, 1, 1, 1, 1, 1, 1, 1, 1, 1, 1, 1, 1, 1, 0, 0, 0, 0, 0, 0, 0, 0, 2, 2, 2, 2, 3, 3, 4, 0]
theorem lens_at (i : Nat) (h : i < 32) : lens.getD i 0 = len0 (8 * i) := by
 have all : ∀ i : Fin 32, lens.getD i.val 0 = len0 (8 * (i.val : Nat)) := by decide +kernel
 exact all ⟨i, h⟩
theorem len0_eight {x : Int} (_h0 : 0 ≤ x) : len0 (8 * (x / 8)) = len0 x := by
 rcases len0_cases x with ⟨a, b⟩ | ⟨a, b⟩ | ⟨a, b⟩ | ⟨a, b⟩ | ⟨a, b⟩ <;>
 rcases len0_cases (8 * (x / 8)) with ⟨c, d⟩ | ⟨c, d⟩ | ⟨c, d⟩ | ⟨c, d⟩ | ⟨c, d⟩ <;> omega
def hds : List Int := [0, 0, 192, 224, 240]
theorem hds_at (s : Int) (h0 : 0 ≤ s) (h1 : s ≤ 4) : hds.getD s.toNat 0 = head0 s := by
 have hs : s = 0 ∨ s = 1 ∨ s = 2 ∨ s = 3 ∨ s = 4 := by omega
 rcases hs with rfl | rfl | rfl | rfl | rfl <;> rfl
def laidList : List (String × DataW Unit) := [("math/bits.deBruijn32tab", Rows.laid_math_bits_deBruijn32tab), ("math/bits.deBruijn64tab", Rows.laid_math_bits_deBruijn64tab), ("internal/strconv.uint64pow10", Rows.laid_internal_strconv_uint64pow10), ("strconv.ErrRange", Rows.laid_strconv_ErrRange), ("strconv.ErrSyntax", Rows.laid_strconv_ErrSyntax), ("lurcher/utf.lengths", Rows.laid_lurcher_utf_lengths), ("lurcher/utf.heads", Rows.laid_lurcher_utf_heads), ("lurcher/props.starts", Rows.laid_lurcher_props_starts), ("lurcher/tokens.groups", Rows.laid_lurcher_tokens_groups), ("lurcher/tokens.looks", Rows.laid_lurcher_tokens_looks), ("lurcher/tokens.namings", Rows.laid_lurcher_tokens_namings), ("lurcher/tokens.verbs", Rows.laid_lurcher_tokens_verbs)]
def datV {H : Type} : DataW H → List Value
 | .agg Ds => Ds.flatMap rowV
 | _ => []
def layV (l : List Value) : Obj → Obj
 | .cells _ t frozen => .cells l.toArray t frozen
 | o => o
noncomputable def low : Nat := (World.holding Tryz.prog default ⟨#[], #[], []⟩).heap.size
theorem wf_int {n : Int} (h : (Lit.int .i64 n).wf = true) : -9223372036854775808 ≤ n ∧ n ≤ 9223372036854775807 := by
 have h2 : IntKind.i64.min ≤ n ∧ n ≤ IntKind.i64.max := by simpa [Lit.wf] using h
 rw [show IntKind.i64.min = -9223372036854775808 by decide, show IntKind.i64.max = 9223372036854775807 by decide] at h2
 exact h2
theorem gEr : Tryz.prog.globalNamed "strconv.ErrSyntax" = some 8 := by kernel_rfl
theorem gErType : (Tryz.prog.globals[8]?).map (·.type) = some 148 := by kernel_rfl
theorem gLengths : Tryz.prog.globalNamed "lurcher/utf.lengths" = some 0 := by kernel_rfl
theorem gHeads : Tryz.prog.globalNamed "lurcher/utf.heads" = some 1 := by kernel_rfl
theorem gLengthsType : (Tryz.prog.globals[0]?).map (·.type) = some 65 := by kernel_rfl
theorem gHeadsType : (Tryz.prog.globals[1]?).map (·.type) = some 67 := by kernel_rfl
theorem cellsLengths : Tryz.prog.cellsOf 65 = 32 := by kernel_rfl
theorem cellsHeads : Tryz.prog.cellsOf 67 = 5 := by kernel_rfl
theorem gStarts : Tryz.prog.globalNamed "lurcher/props.starts" = some 7 := by kernel_rfl
theorem gStartsType : (Tryz.prog.globals[7]?).map (·.type) = some 168 := by kernel_rfl
theorem cellsStarts : Tryz.prog.cellsOf 168 = 94 := by kernel_rfl
theorem gGroups : Tryz.prog.globalNamed "lurcher/tokens.groups" = some 3 := by kernel_rfl
theorem gGroupsType : (Tryz.prog.globals[3]?).map (·.type) = some 140 := by kernel_rfl
theorem cellsGroups : Tryz.prog.cellsOf 140 = 6 * 2 := by kernel_rfl
theorem cellsGroup : Tryz.prog.cellsOf 139 = 2 := by kernel_rfl
theorem gLooks : Tryz.prog.globalNamed "lurcher/tokens.looks" = some 5 := by kernel_rfl
theorem gLooksType : (Tryz.prog.globals[5]?).map (·.type) = some 143 := by kernel_rfl
theorem cellsLooks : Tryz.prog.cellsOf 143 = 4 * 1 := by kernel_rfl
theorem cellsString : Tryz.prog.cellsOf 9 = 1 := by kernel_rfl
theorem gNamings : Tryz.prog.globalNamed "lurcher/tokens.namings" = some 4 := by kernel_rfl
theorem gNamingsType : (Tryz.prog.globals[4]?).map (·.type) = some 142 := by kernel_rfl
theorem cellsNamings : Tryz.prog.cellsOf 142 = 6 * 5 := by kernel_rfl
theorem cellsNaming : Tryz.prog.cellsOf 141 = 5 := by kernel_rfl
theorem gVerbs : Tryz.prog.globalNamed "lurcher/tokens.verbs" = some 2 := by kernel_rfl
theorem gVerbsType : (Tryz.prog.globals[2]?).map (·.type) = some 118 := by kernel_rfl
theorem cellsVerbs : Tryz.prog.cellsOf 118 = 9 * 3 := by kernel_rfl
theorem cellsVerb : Tryz.prog.cellsOf 117 = 3 := by kernel_rfl
theorem fields2 {P : Program} {f0 f1 : Field} (h0 : f0.offset = 0 ∧ P.cellsOf f0.type = 1 ∧ (P.underlying f0.type = some .string ∨ P.underlying f0.type = some (.int .i64))) (h1 : f1.offset = 1 ∧ P.cellsOf f1.type = 1 ∧ (P.underlying f1.type = some .string ∨ P.underlying f1.type = some (.int .i64))) :
   ∀ (i : Nat) (f : Field), (#[f0, f1] : Array Field)[i]? = some f → f.offset = i ∧ P.cellsOf f.type = 1 ∧ (P.underlying f.type = some .string ∨ P.underlying f.type = some (.int .i64))
 | 0, f, h => by cases h; exact h0
 | 1, f, h => by cases h; exact h1
 | i + 2, f, h => by simp at h
theorem fields3 {P : Program} {f0 f1 f2 : Field} (h0 : f0.offset = 0 ∧ P.cellsOf f0.type = 1 ∧ (P.underlying f0.type = some .string ∨ P.underlying f0.type = some (.int .i64))) (h1 : f1.offset = 1 ∧ P.cellsOf f1.type = 1 ∧ (P.underlying f1.type = some .string ∨ P.underlying f1.type = some (.int .i64))) (h2 : f2.offset = 2 ∧ P.cellsOf f2.type = 1 ∧ (P.underlying f2.type = some .string ∨ P.underlying f2.type = some (.int .i64))) :
   ∀ (i : Nat) (f : Field), (#[f0, f1, f2] : Array Field)[i]? = some f → f.offset = i ∧ P.cellsOf f.type = 1 ∧ (P.underlying f.type = some .string ∨ P.underlying f.type = some (.int .i64))
 | 0, f, h => by cases h; exact h0
 | 1, f, h => by cases h; exact h1
 | 2, f, h => by cases h; exact h2
 | i + 3, f, h => by simp at h
theorem fields5 {P : Program} {f0 f1 f2 f3 f4 : Field} (h0 : f0.offset = 0 ∧ P.cellsOf f0.type = 1 ∧ (P.underlying f0.type = some .string ∨ P.underlying f0.type = some (.int .i64))) (h1 : f1.offset = 1 ∧ P.cellsOf f1.type = 1 ∧ (P.underlying f1.type = some .string ∨ P.underlying f1.type = some (.int .i64))) (h2 : f2.offset = 2 ∧ P.cellsOf f2.type = 1 ∧ (P.underlying f2.type = some .string ∨ P.underlying f2.type = some (.int .i64))) (h3 : f3.offset = 3 ∧ P.cellsOf f3.type = 1 ∧ (P.underlying f3.type = some .string ∨ P.underlying f3.type = some (.int .i64))) (h4 : f4.offset = 4 ∧ P.cellsOf f4.type = 1 ∧ (P.underlying f4.type = some .string ∨ P.underlying f4.type = some (.int .i64))) :
   ∀ (i : Nat) (f : Field), (#[f0, f1, f2, f3, f4] : Array Field)[i]? = some f → f.offset = i ∧ P.cellsOf f.type = 1 ∧ (P.underlying f.type = some .string ∨ P.underlying f.type = some (.int .i64))
 | 0, f, h => by cases h; exact h0
 | 1, f, h => by cases h; exact h1
 | 2, f, h => by cases h; exact h2
 | 3, f, h => by cases h; exact h3
 | 4, f, h => by cases h; exact h4
 | i + 5, f, h => by simp at h
theorem glo_of {W : World} (h : laidMetH Tryz.prog laidList W) : Glo W := by
 have h1 : laidMet Tryz.prog laidList W := h
 have h5 := h1.tail.tail.tail.tail
 have h6 := h5.tail
 have h7 := h6.tail
 have h8 := h7.tail
 have h9 := h8.tail
 have h10 := h9.tail
 have h11 := h10.tail
 have h12 := h11.tail
 have T1 : Lib.TabIs Tryz.prog W "lurcher/utf.lengths" .i64 lens := Lib.tabIs_of_head gLengths gLengthsType Tryz.underlying65 Tryz.underlying3 cellsInt cellsLengths h6
 have T2 : Lib.TabIs Tryz.prog W "lurcher/utf.heads" .i64 hds := Lib.tabIs_of_head gHeads gHeadsType Tryz.underlying67 Tryz.underlying3 cellsInt cellsHeads h7
 have T3 : Lib.TabIs Tryz.prog W "lurcher/props.starts" .i64 starts := Lib.tabIs_of_head gStarts gStartsType Tryz.underlying168 Tryz.underlying3 cellsInt cellsStarts h8
 obtain ⟨gt, gf, gh⟩ := var_array gGroups gGroupsType Tryz.underlying140 cellsGroup cellsGroups (fun enc base sp held m c D q hh => struct_vals Tryz.underlying139 cellsGroup (fields2 ⟨rfl, cellsString, Or.inl Tryz.underlying9⟩ ⟨rfl, cellsInt, Or.inr Tryz.underlying3⟩) hh) h9
 obtain ⟨lt, lf, lh⟩ := var_array gLooks gLooksType Tryz.underlying143 cellsString cellsLooks (fun enc base sp held m c D q hh => elem_string Tryz.underlying9 m c D q hh) h10
 obtain ⟨nt, nf, nh⟩ := var_array gNamings gNamingsType Tryz.underlying142 cellsNaming cellsNamings (fun enc base sp held m c D q hh => struct_vals Tryz.underlying141 cellsNaming (fields5 ⟨rfl, cellsString, Or.inl Tryz.underlying9⟩ ⟨rfl, cellsString, Or.inl Tryz.underlying9⟩ ⟨rfl, cellsInt, Or.inr Tryz.underlying3⟩ ⟨rfl, cellsInt, Or.inr Tryz.underlying3⟩ ⟨rfl, cellsInt, Or.inr Tryz.underlying3⟩) hh) h11
 obtain ⟨vt, vf, vh⟩ := var_array gVerbs gVerbsType Tryz.underlying118 cellsVerb cellsVerbs (fun enc base sp held m c D q hh => struct_vals Tryz.underlying117 cellsVerb (fields3 ⟨rfl, cellsString, Or.inl Tryz.underlying9⟩ ⟨rfl, cellsInt, Or.inr Tryz.underlying3⟩ ⟨rfl, cellsInt, Or.inr Tryz.underlying3⟩) hh) h12
 refine ⟨⟨fun x a b => ?_, fun s a b => ?_⟩, ?_, fun i hi => ?_, fun i v hi => ?_, fun i v hi => ?_, ⟨nt, nf, nh⟩, ⟨vt, vf, vh⟩⟩
 ·have hi : (x / 8).toNat < 32 := by omega
  rw [T1.cell gLengths (x / 8).toNat (by simpa [lens] using hi), lens_at _ hi, show ((x / 8).toNat : Int) = x / 8 from by omega, len0_eight a]
 ·have hi : s.toNat < 5 := by omega
  rw [T2.cell gHeads s.toNat (by simpa [hds] using hi), hds_at s a b]
 ·exact var_iface gEr gErType Tryz.underlying148 h5
 ·rw [T3.cell gStarts i (by simpa [starts] using hi)]
  rfl
 ·rw [cell_of_row _ _ _ _ _ _ gh]
  show groupsC.toArray[i]? = some v
  simpa using hi
 ·rw [cell_of_row _ _ _ _ _ _ lh]
  show looksC.toArray[i]? = some v
  simpa using hi
end Go.Proofs.YtkcmjcgjfjfimaaGreatDoor.tkr
end
section
namespace Go.Proofs.YtkcmjcgjfjfimaaGreatDoor.tkp
open Go utfp ucdp setp prp tkw
theorem has_no {p : Pt} (c : UInt8) (k : Int) {l : List UInt8} {a : Nat} (h : p.g a ≠ k) (hk : (c.toNat : Int) = k := by decide) : p.has (c :: l) a = false := has_not (by rw [hk]; exact h)
def Reads (p : Pt) (f b : Nat) (ts : List Tk) : Prop := ∀ k T, p.n < f + k → ∃ k', p.n < b + k' ∧ p.read k T f = p.read k' (T ++ ts) b
theorem Reads.step {p : Pt} {f b : Nat} {ts : List Tk} (hf : f < p.n) (hb : f < b) (h : p.token f = .ok (ts, b)) : Reads p f b ts := fun k T hk => by
 obtain ⟨k, rfl⟩ : ∃ q, k = q + 1 := ⟨k - 1, by omega⟩
 exact ⟨k, by omega, by rw [read_succ, if_neg (by omega), h]⟩
theorem Reads.none (p : Pt) (f : Nat) : Reads p f f [] := fun k T hk => ⟨k, hk, by rw [List.append_nil]⟩
theorem Reads.trans {p : Pt} {f b c : Nat} {ts us : List Tk} (h : Reads p f b ts) (h' : Reads p b c us) : Reads p f c (ts ++ us) := fun k T hk => by
 obtain ⟨k1, h1, e1⟩ := h k T hk
 obtain ⟨k2, h2, e2⟩ := h' k1 (T ++ ts) h1
 exact ⟨k2, h2, by rw [e1, e2, List.append_assoc]⟩
theorem Reads.whole {p : Pt} {ts : List Tk} (h : Reads p 0 p.n ts) : p.read (p.n + 1) [] 0 = .ok ts := by
 obtain ⟨k, hk, e⟩ := h (p.n + 1) [] (by omega)
 obtain ⟨k, rfl⟩ : ∃ q, k = q + 1 := ⟨k - 1, by omega⟩
 rw [e, read_succ, if_pos rfl, List.nil_append]
def Stand (p : Pt) (f : Nat) (w : List Int) : Prop := f + w.length ≤ p.n ∧ ∀ i, i < w.length → p.g (f + i) = w.getD i 0
def sh (f : Nat) (t : Tk) : Tk := { t with at_ := f + t.at_, «to» := f + t.to }
def wordsB : List (List Int) := [[97], [46], [91, 120, 93], [40, 63, 58, 98, 41], [92, 100], [94], [99, 124, 100], [40, 63, 61, 101, 41], [92, 120, 123, 52, 49, 125], [40, 42, 70, 65, 73, 76, 41], [40, 63, 67, 55, 41]]
def litL (c : Int) (a : Nat) : Tk := { kind := 1, at_ := a, «to» := a + 1, c := c }
def toksW (most : Int) : Nat → List Tk
 | 0 => [litL 97 0]
 | 1 => [{ kind := 3, at_ := 0, «to» := 1 }]
 | 2 => [{ kind := 2, at_ := 0, «to» := 3, set := normR most [(120, 120)] }]
 | 3 => [{ kind := 10, at_ := 0, «to» := 3, n := 2 }, litL 98 3, { kind := 8, at_ := 4, «to» := 5 }]
 | 4 => [{ kind := 2, at_ := 0, «to» := 2, set := normR most (escP 100) }]
 | 5 => [{ kind := 4, at_ := 0, «to» := 1, n := 1 }]
 | 6 => [litL 99 0, { kind := 7, at_ := 1, «to» := 2 }, litL 100 2]
 | 7 => [{ kind := 10, at_ := 0, «to» := 3, n := 5 }, litL 101 3, { kind := 8, at_ := 4, «to» := 5 }]
 | 8 => [{ kind := 1, at_ := 0, «to» := 6, c := 65 }]
 | 9 => [{ kind := 13, at_ := 0, «to» := 7, n := 2 }]
 | 10 => [{ kind := 14, at_ := 0, «to» := 5, n := 7 }]
 | _ => []
section
variable {p : Pt} (hg : ∀ i, 0 ≤ p.g i ∧ p.g i ≤ 255)
theorem Stand.at_ {f : Nat} {w : List Int} (h : Stand p f w) (i : Nat) (hi : i < w.length) : f + i < p.n ∧ p.g (f + i) = w.getD i 0 := ⟨by have := h.1; omega, h.2 i hi⟩
include hg
theorem tok_lit (c : Int) {f : Nat} (hf : f < p.n) (h : p.g f = c) (hc : 97 ≤ c ∧ c ≤ 101) : p.token f = .ok ([litL c f], f + 1) := by
 rw [token_lit hg hf (Or.inr (by omega)) (by unfold Pt.ign; rw [h]; split; rfl; rw [if_neg (by omega), if_neg (by omega)]) (by rw [h]; unfold plainB; omega)]
 unfold litT litL
 rw [h]
theorem tok_one (c : Int) (t : Tk) {f : Nat} (hf : f < p.n) (h : p.g f = c) (hc : (c = 46 ∧ t = { kind := 3 }) ∨ (c = 94 ∧ t = { kind := 4, n := 1 }) ∨ (c = 41 ∧ t = { kind := 8 }) ∨ (c = 124 ∧ t = { kind := 7 })) : p.token f = .ok ([lay t f (f + 1)], f + 1) := by
 unfold Pt.token
 rw [quant_none (by omega) (by omega) (by omega) (by omega), char_byte hg hf (Or.inr (by omega)), h]
 dsimp only
 rcases hc with ⟨rfl, rfl⟩ | ⟨rfl, rfl⟩ | ⟨rfl, rfl⟩ | ⟨rfl, rfl⟩ <;> rfl
theorem tok_blank {f : Nat} (hx : p.x = true) (hf : f < p.n) (h : p.g f = 10 ∨ p.g f = 9 ∨ p.g f = 32) : p.token f = .ok ([], f + 1) := by
 unfold Pt.token
 rw [quant_none (by omega) (by omega) (by omega) (by omega), char_byte hg hf (Or.inr (by omega))]
 dsimp only
 rw [if_neg (by omega), if_neg (by omega), if_neg (by omega), if_neg (by omega), if_neg (by omega), if_neg (by omega), if_neg (by omega), if_neg (by omega)]
 have : p.ign (p.g f) (f + 1) = some (f + 1) := by
  unfold Pt.ign
  rw [if_neg (by simp [hx]), if_neg (by omega), if_pos (by omega)]
 rw [this]
omit hg in
theorem find_at {c : Int} : ∀ {k a j : Nat}, j < k → (∀ i, i < j → p.g (a + i) ≠ c) → p.g (a + j) = c → p.find c k a = some (a + j)
 | 0, _, _, h, _, _ => by omega
 | k + 1, a, 0, _, _, h => by unfold Pt.find; rw [if_pos (by simpa using h)]; rfl
 | k + 1, a, j + 1, hk, hn, h => by
  unfold Pt.find
  rw [if_neg (by simpa using hn 0 (by omega)), find_at (k := k) (a := a + 1) (j := j) (by omega) (fun i hi => by have := hn (i + 1) (by omega); rwa [show a + (i + 1) = a + 1 + i by omega] at this) (by rwa [show a + 1 + j = a + (j + 1) by omega])]
  congr 1
  omega
def commentB : List Int := [35, 32, 97, 32, 99, 111, 109, 109, 101, 110, 116, 10]
theorem tok_comment {f : Nat} (hx : p.x = true) (h : Stand p f commentB) : p.token f = .ok ([], f + 12) := by
 have h0 := h.at_ 0 (by decide)
 have hc : p.g f = 35 := h0.2
 have hf : f < p.n := h0.1
 have hl : f + 12 ≤ p.n := h.1
 unfold Pt.token
 rw [quant_none (by omega) (by omega) (by omega) (by omega), char_byte hg hf (Or.inr (by omega))]
 dsimp only
 rw [if_neg (by omega), if_neg (by omega), if_neg (by omega), if_neg (by omega), if_neg (by omega), if_neg (by omega), if_neg (by omega), if_neg (by omega)]
 have hu : p.until 10 (f + 1) = some (f + 1 + 10) := by
  unfold Pt.until
  refine find_at (by omega) (fun i hi => ?_) ?_
  ·rw [show f + 1 + i = f + (i + 1) by omega, h.2 (i + 1) (by simp [commentB]; omega)]
   have : ∀ j, j < 10 → commentB.getD (j + 1) 0 ≠ 10 := by decide
   exact this i hi
  ·rw [show f + 1 + 10 = f + 11 by omega, h.2 11 (by decide)]
   rfl
 have : p.ign (p.g f) (f + 1) = some (f + 12) := by
  unfold Pt.ign
  rw [if_neg (by simp [hx]), if_pos hc, hu]
 rw [this]
theorem tok_class {f : Nat} (h : Stand p f [91, 120, 93]) : p.token f = .ok ([lay { kind := 2, set := normR p.most [(120, 120)] } f (f + 3)], f + 3) := by
 obtain ⟨l0, g0⟩ := h.at_ 0 (by decide)
 have l0 : f < p.n := l0
 obtain ⟨l1, g1⟩ := h.at_ 1 (by decide)
 obtain ⟨l2, g2⟩ := h.at_ 2 (by decide)
 have g0 : p.g f = 91 := g0
 have g1 : p.g (f + 1) = 120 := g1
 have g2 : p.g (f + 2) = 93 := g2
 have hi : p.item (f + 1) = .ok ({ kind := 1, c := 120 }, f + 2) := by
  unfold Pt.item
  rw [if_neg (by omega)]
  have hp : p.posix (f + 1) = .ok none := by
   unfold Pt.posix
   rw [has_no 91 91 (by omega)]
   rfl
  rw [hp, char_byte hg l1 (Or.inr (by omega)), g1]
  rfl
 have his : p.items (f + 1) = .ok ([(120, 120)], f + 2) := by
  unfold Pt.items
  rw [hi]
  have hd : p.dash (f + 2) = false := by
   unfold Pt.dash
   rw [has_no 45 45 (l := []) (by omega), Bool.and_false]
  dsimp only
  rw [hd]
  rfl
 have hm : p.more (p.n + 1 - (f + 2)) [(120, 120)] (f + 2) = .ok ([(120, 120)], f + 3) := by
  obtain ⟨k, hk⟩ : ∃ k, p.n + 1 - (f + 2) = k + 1 := ⟨p.n - (f + 2), by omega⟩
  rw [hk]
  unfold Pt.more
  rw [if_pos (has_yes (c := 93) l2 g2)]
 have hc : p.cls (f + 1) = .ok ({ kind := 2, set := normR p.most [(120, 120)] }, f + 3) := by
  unfold Pt.cls
  rw [has_no 94 94 (l := []) (by omega), if_neg (by simp), his]
  dsimp only
  rw [hm]
 unfold Pt.token
 rw [quant_none (by omega) (by omega) (by omega) (by omega), char_byte hg l0 (Or.inr (by omega)), g0]
 dsimp only
 rw [if_neg (by omega), if_pos rfl, hc]
 rfl
theorem tok_esc {f : Nat} {r : R (List Tk × Nat)} (l0 : f + 1 < p.n) (g0 : p.g f = 92) (hr : p.escape f (f + 1) = r) : p.token f = r := by
 unfold Pt.token
 rw [quant_none (by omega) (by omega) (by omega) (by omega), char_byte hg (by omega) (Or.inr (by omega)), g0]
 dsimp only
 rw [if_pos rfl, hr]
theorem tok_digit {f : Nat} (h : Stand p f [92, 100]) : p.token f = .ok ([lay { kind := 2, set := normR p.most (escP 100) } f (f + 2)], f + 2) := by
 obtain ⟨l0, g0⟩ := h.at_ 0 (by decide)
 have l0 : f < p.n := l0
 obtain ⟨l1, g1⟩ := h.at_ 1 (by decide)
 have g0 : p.g f = 92 := g0
 have g1 : p.g (f + 1) = 100 := g1
 refine tok_esc hg l1 g0 ?_
 unfold Pt.escape
 rw [if_neg (by omega), char_byte hg l1 (Or.inr (by omega)), g1]
 dsimp only
 have hc : p.common f 100 (f + 1 + 1) = .ok (some ({ kind := 2, set := normR p.most (escP 100) }, f + 1 + 1)) := by
  unfold Pt.common
  rw [if_neg (by decide), if_neg (by decide), if_neg (by decide), if_pos (by decide)]
  rfl
 rw [hc]
 rfl
theorem tok_hex {f : Nat} (h : Stand p f [92, 120, 123, 52, 49, 125]) : p.token f = .ok ([lay { kind := 1, c := 65 } f (f + 6)], f + 6) := by
 obtain ⟨l0, g0⟩ := h.at_ 0 (by decide)
 have l0 : f < p.n := l0
 obtain ⟨l1, g1⟩ := h.at_ 1 (by decide)
 obtain ⟨l2, g2⟩ := h.at_ 2 (by decide)
 obtain ⟨l3, g3⟩ := h.at_ 3 (by decide)
 obtain ⟨l4, g4⟩ := h.at_ 4 (by decide)
 obtain ⟨l5, g5⟩ := h.at_ 5 (by decide)
 have g0 : p.g f = 92 := g0
 have g1 : p.g (f + 1) = 120 := g1
 have g2 : p.g (f + 2) = 123 := g2
 have g3 : p.g (f + 3) = 52 := g3
 have g4 : p.g (f + 4) = 49 := g4
 have g5 : p.g (f + 5) = 125 := g5
 refine tok_esc hg l1 g0 ?_
 unfold Pt.escape
 rw [if_neg (by omega), char_byte hg l1 (Or.inr (by omega)), g1]
 dsimp only
 have hd : p.hexd 6 (f + 2 + 1) = (65, f + 5) := by
  have hr : p.run isHexd 6 (f + 3) = f + 3 + 2 := run_stop (fun i hi => by
   rcases (show i = 0 ∨ i = 1 by omega) with rfl | rfl
   ·exact ⟨l3, by rw [show p.g (f + 3 + 0) = 52 from g3]; decide⟩
   ·exact ⟨l4, by rw [show p.g (f + 3 + 1) = 49 from g4]; decide⟩) (Or.inr (by rw [show p.g (f + 3 + 2) = 125 from g5]; decide)) (by omega)
  unfold Pt.hexd
  rw [show f + 2 + 1 = f + 3 by omega, hr, show f + 3 + 2 - (f + 3) = 2 by omega]
  unfold Pt.hexVal Pt.hexVal Pt.hexVal
  rw [show p.g (f + 3 + 0) = 52 from g3, show p.g (f + 3 + 1) = 49 from g4]
  rfl
 have hx : p.hexa f (f + 2) = .ok (65, f + 6) := by
  unfold Pt.hexa
  rw [if_pos (has_yes (c := 123) l2 g2), hd]
  dsimp only
  rw [if_neg]
  have := most_ge p
  rintro (h | h | h | h)
  ·omega
  ·rw [has_yes (c := 125) l5 g5] at h; cases h
  ·omega
  ·omega
 have hc : p.common f 120 (f + 1 + 1) = .ok (some ({ kind := 1, c := 65 }, f + 6)) := by
  unfold Pt.common
  rw [if_neg (by decide), if_pos rfl, show f + 1 + 1 = f + 2 by omega, hx]
 rw [hc]
 rfl
theorem tok_open {f : Nat} {r : R (List Tk × Nat)} (l0 : f < p.n) (g0 : p.g f = 40) (hr : p.group f (f + 1) = r) : p.token f = r := by
 unfold Pt.token
 rw [quant_none (by omega) (by omega) (by omega) (by omega), char_byte hg (by omega) (Or.inr (by omega)), g0]
 dsimp only
 rw [if_neg (by omega), if_neg (by omega), if_pos rfl, hr]
theorem tok_verb {f : Nat} (h : Stand p f [40, 42, 70, 65, 73, 76, 41]) : p.token f = .ok ([lay { kind := 13, n := 2 } f (f + 7)], f + 7) := by
 obtain ⟨l0, g0⟩ := h.at_ 0 (by decide)
 have l0 : f < p.n := l0
 obtain ⟨l1, g1⟩ := h.at_ 1 (by decide)
 have hl : f + 7 ≤ p.n := h.1
 have g0 : p.g f = 40 := g0
 have g1 : p.g (f + 1) = 42 := g1
 have g2 : p.g (f + 2) = 70 := (h.at_ 2 (by decide)).2
 have g3 : p.g (f + 3) = 65 := (h.at_ 3 (by decide)).2
 have g4 : p.g (f + 4) = 73 := (h.at_ 4 (by decide)).2
 have g5 : p.g (f + 5) = 76 := (h.at_ 5 (by decide)).2
 have g6 : p.g (f + 6) = 41 := (h.at_ 6 (by decide)).2
 have gs : ∀ i, i < 4 → p.g (f + 2 + i) ≠ 41 ∧ p.g (f + 2 + i) ≠ 58 := fun i hi => by
  rcases (show i = 0 ∨ i = 1 ∨ i = 2 ∨ i = 3 by omega) with rfl | rfl | rfl | rfl
  ·rw [show p.g (f + 2 + 0) = 70 from g2]; decide
  ·rw [show p.g (f + 2 + 1) = 65 from g3]; decide
  ·rw [show p.g (f + 2 + 2) = 73 from g4]; decide
  ·rw [show p.g (f + 2 + 3) = 76 from g5]; decide
 refine tok_open hg l0 g0 ?_
 unfold Pt.group
 rw [if_pos (has_yes (c := 42) l1 g1)]
 have hu : p.until 41 (f + 2) = some (f + 2 + 4) := by
  unfold Pt.until
  exact find_at (by omega) (fun i hi => (gs i hi).1) g6
 have hn : p.find 58 (f + 2 + 4 - (f + 2)) (f + 2) = none := by
  have key : ∀ k a, (∀ i, i < k → p.g (a + i) ≠ 58) → p.find 58 k a = none := by
   intro k
   induction k with
   | zero => intro _ _; rfl
   | succ k ih =>
    intro a ha
    unfold Pt.find
    rw [if_neg (by simpa using ha 0 (by omega)), ih (a + 1) fun i hi => by rw [show a + 1 + i = a + (i + 1) by omega]; exact ha (i + 1) (by omega)]
  rw [show f + 2 + 4 - (f + 2) = 4 by omega]
  exact key 4 (f + 2) fun i hi => (gs i hi).2
 have hs : p.sub (f + 2) (f + 2 + 4) = ⟨#[70, 65, 73, 76]⟩ := by
  unfold Pt.sub
  rw [show f + 2 + 4 - (f + 2) = 4 by omega, show List.range 4 = [0, 1, 2, 3] from rfl]
  simp only [List.map_cons, List.map_nil]
  rw [show p.g (f + 2 + 0) = 70 from g2, show p.g (f + 2 + 1) = 65 from g3, show p.g (f + 2 + 2) = 73 from g4, show p.g (f + 2 + 3) = 76 from g5]
  rfl
 have hv : p.verb f (f + 1 + 1) = .ok ({ kind := 13, n := 2 }, f + 7) := by
  unfold Pt.verb
  rw [show f + 1 + 1 = f + 2 by omega, hu]
  dsimp only
  rw [hn]
  dsimp only
  rw [hs, show verbF ⟨#[70, 65, 73, 76]⟩ ⟨#[]⟩ (none : Option Nat).isSome verbsT = some 2 by decide]
 rw [hv]
 rfl
theorem tok_spec {f : Nat} {r : R (List Tk × Nat)} (l1 : f + 1 < p.n) (g0 : p.g f = 40) (g1 : p.g (f + 1) = 63) (hr : p.special f (f + 2) = r) : p.token f = r := by
 refine tok_open hg (by omega) g0 ?_
 unfold Pt.group
 rw [has_no 42 42 (l := []) (by omega), if_neg (by simp), if_pos (has_yes (c := 63) l1 g1), show f + 1 + 1 = f + 2 by omega, hr]
theorem tok_ahead {f : Nat} (l2 : f + 2 < p.n) (g0 : p.g f = 40) (g1 : p.g (f + 1) = 63) (g2 : p.g (f + 2) = 61) : p.token f = .ok ([lay { kind := 10, n := 5 } f (f + 3)], f + 3) := by
 refine tok_spec hg (by omega) g0 g1 ?_
 unfold Pt.special
 have hk : p.plainK (f + 2) groupsT = some ({ kind := 10, n := 5 }, f + 3) := by
  unfold groupsT Pt.plainK
  rw [has_no 124 124 (l := []) (by omega), if_neg (by simp)]
  unfold Pt.plainK
  rw [has_no 62 62 (l := []) (by omega), if_neg (by simp)]
  unfold Pt.plainK
  rw [if_pos (has_yes (c := 61) l2 g2)]
  rfl
 rw [hk]
 rfl
omit hg in
theorem spec_other {f : Nat} {c : Int} (g2 : p.g (f + 2) = c) (hc : c = 58 ∨ c = 67) : p.plainK (f + 2) groupsT = none ∧ p.naming f (f + 2) namingsT = .ok none ∧ p.counted f (f + 2) = .ok none := by
 have nh : ∀ (d : UInt8) (l : List UInt8), (d.toNat : Int) ≠ 58 → (d.toNat : Int) ≠ 67 → p.has (d :: l) (f + 2) = false := fun d l h1 h2 => has_not (by omega)
 refine ⟨?_, ?_, ?_⟩
 · unfold groupsT
   simp only [Pt.plainK, nh 124 _ (by decide) (by decide), nh 62 _ (by decide) (by decide), nh 61 _ (by decide) (by decide), nh 33 _ (by decide) (by decide), nh 60 _ (by decide) (by decide)]
   rfl
 · unfold namingsT
   simp only [Pt.naming, nh 60 _ (by decide) (by decide), nh 80 _ (by decide) (by decide), nh 39 _ (by decide) (by decide), nh 38 _ (by decide) (by decide)]
   rfl
 · have hs : p.sign (f + 2) = (0, f + 2) := by
     unfold Pt.sign
     rw [nh 45 _ (by decide) (by decide), nh 43 _ (by decide) (by decide)]
     rfl
   have hd : p.digits (f + 2) = (0, f + 2) := digits_no (Or.inr (by omega))
   have hn : p.number f (f + 2) = .ok (0, f + 2) := by
     unfold Pt.number
     rw [hd]
     rfl
   unfold Pt.counted Pt.signed
   rw [hs]
   dsimp only
   rw [hn]
   dsimp only
   rw [if_pos rfl]
theorem tok_plain {f : Nat} (l2 : f + 2 < p.n) (g0 : p.g f = 40) (g1 : p.g (f + 1) = 63) (g2 : p.g (f + 2) = 58) : p.token f = .ok ([lay { kind := 10, n := 2 } f (f + 3)], f + 3) := by
 refine tok_spec hg (by omega) g0 g1 ?_
 obtain ⟨h1, h2, h3⟩ := spec_other (p := p) g2 (Or.inl rfl)
 unfold Pt.special
 rw [h1]
 dsimp only
 rw [h2]
 dsimp only
 rw [h3]
 dsimp only
 rw [has_no 35 35 (l := []) (by omega), has_no 40 40 (l := []) (by omega), has_no 82 82 (l := []) (by omega), has_no 67 67 (l := []) (by omega), has_no 43 43 (l := []) (by omega)]
 rw [if_neg (by simp), if_neg (by simp), if_neg (by simp), if_neg (by simp), if_neg (by simp)]
 have hr : p.run isOpt 1000 (f + 2) = f + 2 + 0 := run_stop (fun i hi => by omega) (Or.inr (by rw [show p.g (f + 2 + 0) = 58 from g2]; decide)) (by omega)
 have hl : p.letters (f + 2) = (0, f + 2) := by
  unfold Pt.letters
  rw [hr, show f + 2 + 0 - (f + 2) = 0 by omega]
  rfl
 have hm : p.minus (f + 2) = (0, f + 2) := by
  unfold Pt.minus
  rw [has_no 45 45 (l := []) (by omega)]
  rfl
 unfold Pt.settings
 rw [hl]
 dsimp only
 rw [hm]
 dsimp only
 rw [if_pos (has_yes (c := 58) l2 g2)]
 rfl
theorem tok_callout {f : Nat} (h : Stand p f [40, 63, 67, 55, 41]) : p.token f = .ok ([lay { kind := 14, n := 7 } f (f + 5)], f + 5) := by
 have hl : f + 5 ≤ p.n := h.1
 have g0 : p.g f = 40 := (h.at_ 0 (by decide)).2
 have g1 : p.g (f + 1) = 63 := (h.at_ 1 (by decide)).2
 have g2 : p.g (f + 2) = 67 := (h.at_ 2 (by decide)).2
 have g3 : p.g (f + 3) = 55 := (h.at_ 3 (by decide)).2
 have g4 : p.g (f + 4) = 41 := (h.at_ 4 (by decide)).2
 refine tok_spec hg (by omega) g0 g1 ?_
 obtain ⟨h1, h2, h3⟩ := spec_other (p := p) g2 (Or.inr rfl)
 unfold Pt.special
 rw [h1]
 dsimp only
 rw [h2]
 dsimp only
 rw [h3]
 dsimp only
 rw [has_no 35 35 (l := []) (by omega), has_no 40 40 (l := []) (by omega), has_no 82 82 (l := []) (by omega), if_neg (by simp), if_neg (by simp), if_neg (by simp), if_pos (has_yes (c := 67) (by omega) g2)]
 have hd : p.digits (f + 3) = (7, f + 3 + 1) := (Num.mk (by omega) (by omega) (fun i hi => by
     have : i = 0 := by omega
     subst this
     rw [show p.g (f + 3 + 0) = 55 from g3]
     omega) (by unfold Pt.val Pt.val; rw [show p.g (f + 3 + 0) = 55 from g3]; rfl) : Num p (f + 3) 1 7).digits (Or.inr (by rw [show p.g (f + 3 + 1) = 41 from g4]; omega))
 have hn : p.number f (f + 2 + 1) = .ok (7, f + 4) := by
   unfold Pt.number
   rw [show f + 2 + 1 = f + 3 by omega, hd]
   rfl
 rw [hn]
 dsimp only
 unfold Pt.close
 rw [if_pos (has_yes (c := 41) (by omega) g4)]
 rfl
theorem word_reads (i : Nat) (hi : i < 11) {f : Nat} (h : Stand p f (wordsB.getD i [])) : Reads p f (f + (wordsB.getD i []).length) ((toksW p.most i).map (sh f)) := by
 rcases (show i = 0 ∨ i = 1 ∨ i = 2 ∨ i = 3 ∨ i = 4 ∨ i = 5 ∨ i = 6 ∨ i = 7 ∨ i = 8 ∨ i = 9 ∨ i = 10 by omega) with rfl | rfl | rfl | rfl | rfl | rfl | rfl | rfl | rfl | rfl | rfl
 ·have h0 := h.at_ 0 (by decide)
  exact Reads.step h0.1 (by simp [wordsB]) (tok_lit hg 97 h0.1 h0.2 (by omega))
 ·have h0 := h.at_ 0 (by decide)
  exact Reads.step h0.1 (by simp [wordsB]) (tok_one hg 46 { kind := 3 } h0.1 h0.2 (Or.inl ⟨rfl, rfl⟩))
 ·exact Reads.step (h.at_ 0 (by decide)).1 (by simp [wordsB]) (tok_class hg h)
 ·have g3 := h.at_ 3 (by decide)
  have g4 := h.at_ 4 (by decide)
  have s1 := Reads.step (h.at_ 0 (by decide)).1 (by omega) (tok_plain hg (h.at_ 2 (by decide)).1 (h.at_ 0 (by decide)).2 (h.at_ 1 (by decide)).2 (h.at_ 2 (by decide)).2)
  have s2 := Reads.step g3.1 (by omega) (tok_lit hg 98 g3.1 g3.2 (by omega))
  have s3 := Reads.step g4.1 (by omega) (tok_one hg 41 _ g4.1 g4.2 (Or.inr (Or.inr (Or.inl ⟨rfl, rfl⟩))))
  exact (s1.trans s2).trans s3
 ·exact Reads.step (h.at_ 0 (by decide)).1 (by simp [wordsB]) (tok_digit hg h)
 ·have h0 := h.at_ 0 (by decide)
  exact Reads.step h0.1 (by simp [wordsB]) (tok_one hg 94 { kind := 4, n := 1 } h0.1 h0.2 (Or.inr (Or.inl ⟨rfl, rfl⟩)))
 ·have g0 := h.at_ 0 (by decide)
  have g1 := h.at_ 1 (by decide)
  have g2 := h.at_ 2 (by decide)
  have s1 := Reads.step g0.1 (by omega) (tok_lit hg 99 g0.1 g0.2 (by omega))
  have s2 := Reads.step g1.1 (by omega) (tok_one hg 124 _ g1.1 g1.2 (Or.inr (Or.inr (Or.inr ⟨rfl, rfl⟩))))
  have s3 := Reads.step g2.1 (by omega) (tok_lit hg 100 g2.1 g2.2 (by omega))
  exact (s1.trans s2).trans s3
 ·have g3 := h.at_ 3 (by decide)
  have g4 := h.at_ 4 (by decide)
  have s1 := Reads.step (h.at_ 0 (by decide)).1 (by omega) (tok_ahead hg (h.at_ 2 (by decide)).1 (h.at_ 0 (by decide)).2 (h.at_ 1 (by decide)).2 (h.at_ 2 (by decide)).2)
  have s2 := Reads.step g3.1 (by omega) (tok_lit hg 101 g3.1 g3.2 (by omega))
  have s3 := Reads.step g4.1 (by omega) (tok_one hg 41 _ g4.1 g4.2 (Or.inr (Or.inr (Or.inl ⟨rfl, rfl⟩))))
  exact (s1.trans s2).trans s3
 ·exact Reads.step (h.at_ 0 (by decide)).1 (by simp [wordsB]) (tok_hex hg h)
 ·exact Reads.step (h.at_ 0 (by decide)).1 (by simp [wordsB]) (tok_verb hg h)
 ·exact Reads.step (h.at_ 0 (by decide)).1 (by simp [wordsB]) (tok_callout hg h)
def blankB (k : Int) : List Int := if k = 0 then commentB else if k = 1 then [10] else if k = 2 then [9] else [32]
theorem blank_reads (hx : p.x = true) (k : Int) {f : Nat} (h : Stand p f (blankB k)) : Reads p f (f + (blankB k).length) [] := by
 unfold blankB at h ⊢
 by_cases h0 : k = 0
 ·rw [if_pos h0] at h ⊢
  exact Reads.step (h.at_ 0 (by decide)).1 (by simp [commentB]) (tok_comment hg hx h)
 ·rw [if_neg h0] at h ⊢
  by_cases h1 : k = 1
  ·rw [if_pos h1] at h ⊢
   have g := h.at_ 0 (by decide)
   exact Reads.step g.1 (by simp) (tok_blank hg hx g.1 (Or.inl g.2))
  ·rw [if_neg h1] at h ⊢
   by_cases h2 : k = 2
   ·rw [if_pos h2] at h ⊢
    have g := h.at_ 0 (by decide)
    exact Reads.step g.1 (by simp) (tok_blank hg hx g.1 (Or.inr (Or.inl g.2)))
   ·rw [if_neg h2] at h ⊢
    have g := h.at_ 0 (by decide)
    exact Reads.step g.1 (by simp) (tok_blank hg hx g.1 (Or.inr (Or.inr g.2)))
omit hg in
theorem Stand.left {f : Nat} {u v : List Int} (h : Stand p f (u ++ v)) : Stand p f u := ⟨by have := h.1; simp at this; omega, fun i hi => by
 rw [h.2 i (by simp; omega)]
 simp [List.getD, List.getElem?_append_left hi]⟩
omit hg in
theorem Stand.right {f : Nat} {u v : List Int} (h : Stand p f (u ++ v)) : Stand p (f + u.length) v := ⟨by have := h.1; simp at this; omega, fun i hi => by
 rw [Nat.add_assoc, h.2 (u.length + i) (by simp; omega)]
 simp [List.getD, List.getElem?_append_right]⟩
theorem blanks_read (hx : p.x = true) : ∀ (l : List Int) {f : Nat}, Stand p f (l.flatMap blankB) → Reads p f (f + (l.flatMap blankB).length) []
 | [], f, _ => Reads.none p f
 | k :: l, f, h => by
  rw [List.flatMap_cons] at h ⊢
  have a := blank_reads hg hx k h.left
  have b := blanks_read hx l h.right
  rw [List.length_append, ← Nat.add_assoc]
  exact a.trans b
theorem words_read (hx : p.x = true) {i j : Nat} (hi : i < 11) (hj : j < 11) (l : List Int) (h : Stand p 0 (wordsB.getD i [] ++ (l.flatMap blankB ++ wordsB.getD j []))) (hn : p.n = ((wordsB.getD i []).length + (l.flatMap blankB).length) + (wordsB.getD j []).length) :
   p.read (p.n + 1) [] 0 = .ok ((toksW p.most i).map (sh 0) ++ (toksW p.most j).map (sh ((wordsB.getD i []).length + (l.flatMap blankB).length))) := by
 have a := word_reads hg i hi h.left
 have b := blanks_read hg hx l h.right.left
 have c := word_reads hg j hj h.right.right
 rw [Nat.zero_add] at a b c
 have d := (a.trans b).trans c
 rw [List.append_nil, ← hn] at d
 exact d.whole
end
end Go.Proofs.YtkcmjcgjfjfimaaGreatDoor.tkp
end
section
namespace Go.Proofs.YtkcmjcgjfjfimaaGreatDoor.tkw
open Go Go.RowKit Go.Maps utfp utfw ucdp setp setw prp tkp
theorem flat_at {α : Type} (f : α → List Value) (h : ∀ a, (f a).length = 12) : ∀ (l : List α) (i j : Nat), j < 12 → (l.flatMap f)[i * 12 + j]? = (l[i]?).bind fun a => (f a)[j]?
 | [], i, j, _ => by simp
 | a :: l, 0, j, hj => by
  rw [List.flatMap_cons, List.getElem?_append_left (by rw [h]; omega)]
  simp
 | a :: l, i + 1, j, hj => by
  rw [List.flatMap_cons, List.getElem?_append_right (by rw [h]; omega), h, show (i + 1) * 12 + j - 12 = i * 12 + j by omega, flat_at f h l i j hj]
  simp
theorem tkCells_length (v : Value) (t : Tk) : (tkCells v t).length = 12 := rfl
theorem tok_cells {w : World} {base : Nat} {v : Value} {T : List Tk} (h : TokRow w base v T) : ∃ a cap, v = .slice a T.length cap ∧ T.length ≤ cap ∧ cap ≤ 9223372036854775807 ∧ (T = [] ∨ ∃ g, a = some ⟨g, 0, none⟩ ∧
   ∀ i t, T[i]? = some t → ∃ x y, ∀ j, j < 12 → w.cell? ⟨g, i * 12 + j, none⟩ = (tkCells (.slice x t.set.length y) t)[j]?) := by
 obtain ⟨l, h1, h2, h3⟩ := h
 have hl : l.length = T.length := by rw [← h1]; simp
 rw [hl] at h3
 rcases h3.2 with ⟨rfl, h0⟩ | ⟨g, cap, cur, hv, _, _, hc1, hc2, _, _⟩
 · have : T = [] := List.length_eq_zero_iff.1 h0
   subst this
   exact ⟨none, 0, rfl, Nat.le_refl _, by omega, Or.inl rfl⟩
 · subst hv
   unfold maxLen at hc2
   refine ⟨_, cap, rfl, hc1, by omega, Or.inr ⟨g, rfl, fun i t hi => ?_⟩⟩
   have hlt : i < l.length := by
     rw [hl]
     exact (List.getElem?_eq_some_iff.1 hi).1
   obtain ⟨p, hp⟩ : ∃ p, l[i]? = some p := ⟨_, List.getElem?_eq_getElem hlt⟩
   have ht : p.1 = t := by
     rw [← h1, List.getElem?_map, hp] at hi
     exact Option.some.inj hi
   subst ht
   have hmem : p ∈ l := List.mem_of_getElem? hp
   obtain ⟨x, y, hs⟩ := ownR_len (h2 p hmem)
   refine ⟨x, y, fun j hj => ?_⟩
   rw [World.ownsRow.cellAt h3 (i * 12 + j) (by omega), flat_at _ (fun _ => rfl) l i j hj, hp, ← hs]
   rfl
theorem awk_1 : (match lexP (at_ [97, 123, 50, 44, 125, 43, 91, 94, 93, 97, 45, 99, 91, 58, 100, 105, 103, 105, 116, 58, 93, 93]) 22 0 with
   | .ok [_, t, u] => decide (t.m = -1) && decide (t.mode = 2) && u.neg && decide (u.set.length = 3)
   | _ => false) = true := by decide +kernel
theorem awk_2 : lexP (at_ [120, 40, 63, 60, 110, 45]) 6 0 = .error (27, 1) := by kernel_rfl
theorem awk_3 : lexP (at_ [40, 63, 60, 110]) 4 0 = .error (20, 4) := by kernel_rfl
theorem glo_below {w w' : World} (h : Glo w) (hb : Below w.heap.size w w') : Glo w' := by
 obtain ⟨t, x, he⟩ := h.er
 obtain ⟨t1, f1, n1⟩ := h.na
 obtain ⟨t2, f2, n2⟩ := h.ve
 have lt : ∀ {g : Nat} {o : Obj}, w.heap[g]? = some o → g < w.heap.size := fun {g o} e => by
  apply Classical.byContradiction
  intro hn
  rw [Array.getElem?_eq_none (by omega)] at e
  cases e
 exact ⟨below_tabs hb h.tabs, ⟨t, x, below_cell hb he⟩, fun i hi => below_cell hb (h.tabS i hi), globAt_below h.gr hb, globAt_below h.lo hb, ⟨t1, f1, (hb.block _ (lt n1)).trans n1⟩, ⟨t2, f2, (hb.block _ (lt n2)).trans n2⟩⟩
theorem sl_lit (w : World) (t : TypeId) (fr : Nat × Nat) (l : List Int) (hl : ∀ x ∈ l, 0 ≤ x ∧ x ≤ 255) (hn : l.length ≤ 140737488355328) : Sl (w.alloc (.cells (l.map (Value.int .u8)).toArray t fr)) (.slice (some ⟨w.heap.size, 0, none⟩) l.length l.length) l.length (at_ l) := by
 refine ⟨fun i => ?_, hn, Or.inr ⟨w.heap.size, 0, l.length, rfl, ⟨Nat.le_refl _, by omega⟩, fun i hi => ?_⟩⟩
 · unfold at_
   by_cases hi : i < l.length
   · have : l.getD i 0 ∈ l := by
       rw [show l.getD i 0 = l[i] by simp [List.getD, hi]]
       exact List.getElem_mem hi
     exact hl _ this
   · rw [show l.getD i 0 = 0 by simp [List.getD, Nat.not_lt.1 hi]]
     omega
 · rw [cell_of_row _ _ _ _ _ _ (heap_alloc_new w _)]
   simp [at_, List.getD, hi]
theorem lex_lit (w : World) (l : List Int) (hl : ∀ x ∈ l, 0 ≤ x ∧ x ≤ 255) (hn : l.length ≤ 140737488355328) (o : Int) (hG : Glo w) : Calls Tryz.prog 7 #[.slice (some ⟨w.heap.size, 0, none⟩) l.length l.length, .int .i64 o] (w.alloc (.cells (l.map (Value.int .u8)).toArray 5 (l.length, l.length + 1)))
   fun e w' => ReadB w (lexP (at_ l) l.length o) e w' := by
 refine (lex_any _ l.length (at_ l) o _ (sl_lit w 5 _ l hl hn) (glo_below hG (below_al w _))).mono ?_
 intro e w' h
 obtain ⟨R, hR⟩ : ∃ R, lexP (at_ l) l.length o = R := ⟨_, rfl⟩
 rw [hR] at h ⊢
 obtain ⟨hb, h⟩ := h
 refine ⟨below_trans (below_al w _) hb, ?_⟩
 cases R with
 | error x => exact h
 | ok T =>
   obtain ⟨v, h1, h2⟩ := h
   exact ⟨v, h1, tokRow_base h2 (by simp)⟩
def BoolB (r : Bool) (w : World) (e : Ending) (w' : World) : Prop := e = .returned (.bool r) ∧ Below w.heap.size w w'
theorem awk_T : ∃ a t u, lexP (at_ [97, 123, 50, 44, 125, 43, 91, 94, 93, 97, 45, 99, 91, 58, 100, 105, 103, 105, 116, 58, 93, 93]) 22 0 = .ok [a, t, u] ∧ t.m = -1 ∧ t.mode = 2 ∧ u.neg = true ∧ u.set.length = 3 := by
 have h := awk_1
 split at h
 ·rename_i a t u e
  simp only [Bool.and_eq_true, decide_eq_true_eq] at h
  exact ⟨a, t, u, e, h.1.1.1, h.1.1.2, h.1.2, h.2⟩
 ·cases h
set_option maxRecDepth 100000 in
set_option maxHeartbeats 4000000 in
theorem awake_any (w : World) (hG : Glo w) : Calls Tryz.prog 6 #[] w (BoolB true w) := by
 obtain ⟨a, t, u, hT, t1, t2, t3, t4⟩ := awk_T
 have L1 := Lib.hid (lex_lit w [97, 123, 50, 44, 125, 43, 91, 94, 93, 97, 45, 99, 91, 58, 100, 105, 103, 105, 116, 58, 93, 93] (by decide) (by decide) 0 hG)
 have L2 := Lib.hid (fun w1 hG1 => lex_lit w1 [120, 40, 63, 60, 110, 45] (by decide) (by decide) 0 hG1)
 have L3 := Lib.hid (fun w1 hG1 => lex_lit w1 [40, 63, 60, 110] (by decide) (by decide) 0 hG1)
 have HT := Lib.hid hT
 have kc := fun (w : World) (C : Array Value) (n c : Nat) => Lib.run_convert_bytes_const (P := Tryz.prog) w 22 5 C n c Tryz.underlying22 Tryz.underlying5
 clear hT
 go_enter Tryz.func6, Tryz.ntmps6
 go_wp2_with fail
 refine L1.out.mono ?_
 intro e w1 h1
 rw [show ([97, 123, 50, 44, 125, 43, 91, 94, 93, 97, 45, 99, 91, 58, 100, 105, 103, 105, 116, 58, 93, 93] : List Int).length = 22 from rfl, HT.out] at h1
 obtain ⟨hb1, v, rfl, hr⟩ := h1
 obtain ⟨va, cap, rfl, hc1, hc2, hr2 | ⟨g, rfl, hcell⟩⟩ := tok_cells hr
 ·cases hr2
 obtain ⟨x1, y1, c1⟩ := hcell 1 t rfl
 obtain ⟨x2, y2, c2⟩ := hcell 2 u rfl
 have k7 := c1 7 (by decide)
 have k8 := c1 8 (by decide)
 have m5 := c2 5 (by decide)
 have m4 := c2 4 (by decide)
 rw [show (tkCells (.slice x1 t.set.length y1) t)[7]? = some (.int .i64 t.m) from rfl, t1] at k7
 rw [show (tkCells (.slice x1 t.set.length y1) t)[8]? = some (.int .i64 t.mode) from rfl, t2] at k8
 rw [show (tkCells (.slice x2 u.set.length y2) u)[5]? = some (.bool u.neg) from rfl, t3] at m5
 rw [show (tkCells (.slice x2 u.set.length y2) u)[4]? = some (.slice x2 u.set.length y2) from rfl, t4] at m4
 have hG1 := glo_below hG hb1
 clear c1 c2 hcell hr t1 t2 t3 t4
 simp only [List.length_cons, List.length_nil, Nat.zero_add, Nat.reduceAdd, Nat.reduceMul] at hc1 k7 k8 m5 m4 ⊢
 go_wp2_with fail
 refine (L2.out w1 hG1).mono ?_
 intro e w2 h2
 rw [show ([120, 40, 63, 60, 110, 45] : List Int).length = 6 from rfl, awk_2] at h2
 obtain ⟨hb2, rfl⟩ := h2
 have k7 := below_cell hb2 k7
 have k8 := below_cell hb2 k8
 have m5 := below_cell hb2 m5
 have m4 := below_cell hb2 m4
 have hG2 := glo_below hG1 hb2
 go_wp2_with fail
 refine (L3.out w2 hG2).mono ?_
 intro e w3 h3
 rw [show ([40, 63, 60, 110] : List Int).length = 4 from rfl, awk_3] at h3
 obtain ⟨hb3, rfl⟩ := h3
 have k7 := below_cell hb3 k7
 have k8 := below_cell hb3 k8
 have m5 := below_cell hb3 m5
 have m4 := below_cell hb3 m4
 go_wp2_with fail
 go_ret
 exact ⟨rfl, below_trans (below_trans hb1 hb2) hb3⟩
end Go.Proofs.YtkcmjcgjfjfimaaGreatDoor.tkw
end
section
namespace Go.Proofs.YtkcmjcgjfjfimaaGreatDoor.tkw
open Go.Sort Go Go.RowKit Go.Maps utfp utfw ucdp setp setw prp tkp
theorem cell_regrown {w : World} {a : Addr} {v : Value} (h : w.cell? a = some v) : ∀ d os, (grow (redrawn w d) os).cell? a = some v := fun d os => below_cell (below_regrown w d os) h
theorem add_row (b o i s : Nat) : (⟨b, o, none⟩ : Addr).add (i * s) = ⟨b, o + i * s, none⟩ := by unfold Addr.add; split <;> simp_all
theorem add_row0 (b i s : Nat) : (⟨b, 0, none⟩ : Addr).add (i * s) = ⟨b, i * s, none⟩ := by unfold Addr.add; split <;> simp_all
end Go.Proofs.YtkcmjcgjfjfimaaGreatDoor.tkw
end
