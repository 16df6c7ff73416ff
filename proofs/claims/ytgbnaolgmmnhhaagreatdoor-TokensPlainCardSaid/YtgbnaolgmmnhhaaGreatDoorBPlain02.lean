/- Texts that TokensPlainLaw leans on, merged: what the functions of the program answer. -/
import Derived.BigQuiet
import Derived.Carry
import Derived.ChangeMaps5
import Derived.Deep.DeepHandedRow
import Derived.KernelRfl
import Derived.Lib.LaidTab
import Derived.Lib.QuietBelow
import Derived.Lib.SlBytesConst
import Derived.SizedLaws
import Derived.Stop.LaidErr
import Derived.Test.YtgbnaolgmmnhhaaGreatDoorCards
import Derived.Test.YtgbnaolgmmnhhaaGreatDoorTie
import Derived.Test.YtgbnaolgmmnhhaaGreatDoorBPlain01
section
namespace Go.Proofs.YtgbnaolgmmnhhaaGreatDoor.tkw
open Go Go.RowKit Go.Maps utfp utfw ucdp setp setw prp tkp
theorem sl_form {w : World} {v : Value} {n : Nat} {g : Nat → Int} (h : Sl w v n g) : ∃ a c, v = .slice a n c := by
 obtain ⟨_, _, ⟨rfl, a, c, hv, _⟩ | ⟨b, off, cap, hv, _⟩⟩ := h
 · exact ⟨_, _, hv⟩
 · exact ⟨_, _, hv⟩
theorem globAt_below {w w' : World} {g : Nat} {cs : List Value} (h : GlobAt w g cs) (hb : Below w.heap.size w w') : GlobAt w' g cs := fun i v hi => below_cell hb (h i v hi)
theorem tokRow_form {w : World} {b : Nat} {v : Value} {T : List Tk} (h : TokRow w b v T) : ∃ a n c, v = .slice a n c := by
 obtain ⟨l0, _, _, hl3⟩ := h
 rcases hl3.2 with ⟨h, _⟩ | ⟨g, cap, cur, h, _⟩ <;> exact ⟨_, _, _, h⟩
theorem read_lex {w : World} {a : Option Addr} {n cap : Nat} {g : Nat → Int} {o : Int} (hv : Sl w (.slice a n cap) n g) (hG : Glo w) (hn : n ≤ 1000) {w1 : World} (hb : Below w.heap.size w w1) (hr : lexP g n o = (ptOf g n o).read ((ptOf g n o).n + 1) [] 0)
   (L m1 m2 m3 : Nat) (w2 : World) (hf : Fresh w1 w2 L m1 m2 m3 (.slice a n cap) (ptOf g n o)) (hb2 : Below w1.heap.size w1 w2) : Calls Tryz.prog 17 #[.pointer (some ⟨L, 0, none⟩)] w2 (ReadB w (lexP g n o)) := by
 have hs := hb.size
 rw [hr]
 refine read_any (w0 := w) (p := ptOf g n o) (pv := .slice a n cap) ⟨hf.lx, hf.e1, hf.e2, hf.e3, ?_, ?_, ?_, ?_, hf.ne⟩ (hb.trans (hb2.mono hs)) hv hn hG
 · have := hf.b1; omega
 · have := hf.b2; omega
 · have := hf.b3; omega
 · have := hf.bL; omega
set_option maxRecDepth 100000 in
set_option maxHeartbeats 4000000 in
theorem lex_any (v : Value) (n : Nat) (g : Nat → Int) (o : Int) (w : World) (hv : Sl w v n g) (hG : Glo w) : Calls Tryz.prog 11 #[v, .int .i64 o] w (ReadB w (lexP g n o)) := by
 obtain ⟨a, cap, rfl⟩ := sl_form hv
 by_cases h0 : o < 0 ∨ 65535 < o
 · have HR := Lib.hid (lex_arg (g := g) (n := n) h0)
   rcases (show o < 0 ∨ (0 ≤ o ∧ 65535 < o) by omega) with h | ⟨h, h2⟩
   all_goals
     clear h0 hv hG
     go_enter Tryz.func11, Tryz.ntmps11
     go_wp2_with fail
     go_ret3
     rw [HR.out]
     exact ⟨Below.refl _ _, rfl⟩
 have ho0 : 0 ≤ o := by omega
 have ho1 : o ≤ 65535 := by omega
 by_cases h1 : 1000 < n
 · have HR := Lib.hid (show lexP g n o = .error (10, 1000) by unfold lexP; rw [if_neg h0, if_pos h1])
   have hn1 : (1000 : Int) < (n : Int) := by omega
   clear h0 hv hG
   go_enter Tryz.func11, Tryz.ntmps11
   go_wp2_with fail
   go_ret3
   rw [HR.out]
   exact ⟨Below.refl _ _, rfl⟩
 have hn1 : (n : Int) ≤ 1000 := by omega
 have hu := opt_bit o ho0 ho1 5 (by decide)
 have e5 : (((2 ^ 5 : Nat) : Int)) = 32 := by decide
 rw [e5] at hu
 clear e5
 have RD := Lib.hid (fun (w1 : World) (hb : Below w.heap.size w w1) (hr : lexP g n o = (ptOf g n o).read ((ptOf g n o).n + 1) [] 0) => read_lex (a := a) (n := n) (cap := cap) (g := g) (o := o) hv hG (by omega) hb hr)
 have NW := Lib.hid (fun w1 => newLexer_any a n cap g o w1 ho0 ho1)
 cases hub : o.toNat.testBit 5 with
 | false =>
   rw [hub] at hu
   have hr : lexP g n o = (ptOf g n o).read ((ptOf g n o).n + 1) [] 0 := lexP_run ho0 ho1 (by omega) (by rw [hub]; intro h; cases h)
   have HR := Lib.hid hr
   clear hr h0 hv hG hub h1
   go_enter Tryz.func11, Tryz.ntmps11
   go_wp2_with fail
   refine (NW.out w).mono ?_
   rintro e w2 ⟨L, m1, m2, m3, rfl, hf, hb2⟩
   have HC := Lib.hid (RD.out w (Below.refl _ _) HR.out L m1 m2 m3 w2 hf hb2)
   clear hf hb2
   go_wp2_with fail
   refine HC.out.mono ?_
   intro e w3 hr3
   obtain ⟨R, hR⟩ : ∃ R, lexP g n o = R := ⟨_, rfl⟩
   rw [hR] at hr3
   obtain ⟨hb3, hr3⟩ := hr3
   cases R with
   | error x =>
     obtain rfl := hr3
     have HRR := Lib.hid hR
     clear hR
     go_wp2_with fail
     go_ret3
     rw [HRR.out]
     exact ⟨hb3, rfl⟩
   | ok T =>
     obtain ⟨v, rfl, ht⟩ := hr3
     obtain ⟨va, vn, vc, rfl⟩ := tokRow_form ht
     have HT := Lib.hid ht
     have HRR := Lib.hid hR
     clear hR ht
     go_wp2_with fail
     go_ret3
     rw [HRR.out]
     exact ⟨hb3, _, rfl, HT.out⟩
 | true =>
   rw [hub] at hu
   have HV := Lib.hid (valid_any (.slice a n cap) n g w hv hG.tabs)
   cases hvb : (validP g n).2 with
   | false =>
     have HR := Lib.hid (show lexP g n o = .error (13, (validP g n).1) by unfold lexP; rw [if_neg h0, if_neg h1, if_pos ⟨hub, hvb⟩])
     generalize validP g n = q at *
     obtain ⟨q1, q2⟩ := q
     simp only at hvb
     subst hvb
     clear h0 hv hG hub h1
     go_enter Tryz.func11, Tryz.ntmps11
     go_wp2_with fail
     refine HV.out.mono ?_
     rintro e w2 ⟨rfl, hd2⟩
     go_wp2_with fail
     go_ret3
     rw [HR.out]
     exact ⟨drawn_below hd2, rfl⟩
   | true =>
     have hr : lexP g n o = (ptOf g n o).read ((ptOf g n o).n + 1) [] 0 := lexP_run ho0 ho1 (by omega) (fun _ => hvb)
     have HR := Lib.hid hr
     generalize validP g n = q at *
     obtain ⟨q1, q2⟩ := q
     simp only at hvb
     subst hvb
     clear hr h0 hv hG hub h1
     go_enter Tryz.func11, Tryz.ntmps11
     go_wp2_with fail
     refine HV.out.mono ?_
     rintro e w1 ⟨rfl, hd1⟩
     have hb1 := drawn_below hd1
     clear hd1
     go_wp2_with fail
     refine (NW.out w1).mono ?_
     rintro e w2 ⟨L, m1, m2, m3, rfl, hf, hb2⟩
     have HC := Lib.hid (RD.out w1 hb1 HR.out L m1 m2 m3 w2 hf hb2)
     clear hf hb2
     go_wp2_with fail
     refine HC.out.mono ?_
     intro e w3 hr3
     obtain ⟨R, hR⟩ : ∃ R, lexP g n o = R := ⟨_, rfl⟩
     rw [hR] at hr3
     obtain ⟨hb3, hr3⟩ := hr3
     cases R with
     | error x =>
       obtain rfl := hr3
       have HRR := Lib.hid hR
       clear hR
       go_wp2_with fail
       go_ret3
       rw [HRR.out]
       exact ⟨hb3, rfl⟩
     | ok T =>
       obtain ⟨v, rfl, ht⟩ := hr3
       obtain ⟨va, vn, vc, rfl⟩ := tokRow_form ht
       have HT := Lib.hid ht
       have HRR := Lib.hid hR
       clear hR ht
       go_wp2_with fail
       go_ret3
       rw [HRR.out]
       exact ⟨hb3, _, rfl, HT.out⟩
end Go.Proofs.YtgbnaolgmmnhhaaGreatDoor.tkw
end
section
namespace Go.Proofs.YtgbnaolgmmnhhaaGreatDoor.tkr
open Go Go.RowKit Go.ChangeShapes Go.WideShapes Go.ChangeAt utfp utfw prp tkp tkw
theorem own : ownKnob Tryz.prog.godebug = none := by kernel_rfl
theorem laidOut : laidOutB Tryz.prog = true := by kernel_rfl
theorem cellsInt : Tryz.prog.cellsOf 3 = 1 := by kernel_rfl
theorem cellsByte : Tryz.prog.cellsOf 5 = 1 := by kernel_rfl
theorem bytesByte : Tryz.prog.bytesOf 5 = 1 := by kernel_rfl
theorem recBytes : Tryz.prog.readableRec 22 = true := by kernel_rfl
theorem rowBytes : (22 : TypeId) < Tryz.prog.types.size := of_decide_eq_true (by kernel_rfl)
def valD {H : Type} : DataW H → Value
 | .lit (.int k z) => .int k z
 | .lit (.string s) => .string ⟨s.toArray⟩
 | _ => undef
def rowV {H : Type} : DataW H → List Value
 | .agg xs => xs.map valD
 | d => [valD d]
theorem flat_k {α : Type} (f : α → List Value) (k : Nat) : ∀ (l : List α) (i j : Nat), (∀ a ∈ l, (f a).length = k) → j < k → (l.flatMap f)[i * k + j]? = (l[i]?).bind fun a => (f a)[j]?
 | [], i, j, _, _ => by simp
 | a :: l, 0, j, h, hj => by
   rw [List.flatMap_cons, List.getElem?_append_left (by rw [h a (List.mem_cons_self ..)]; omega)]
   simp
 | a :: l, i + 1, j, h, hj => by
   have e : (i + 1) * k + j = k + (i * k + j) := by rw [Nat.add_mul, Nat.one_mul]; omega
   rw [List.flatMap_cons, List.getElem?_append_right (by rw [h a (List.mem_cons_self ..)]; omega), h a (List.mem_cons_self ..), e, Nat.add_sub_cancel_left, flat_k f k l i j (fun b hb => h b (List.mem_cons_of_mem _ hb)) hj]
   simp
section
variable {H : Type} {enc : TypeId × Value → H} {P : Program} {w : World} {base : Nat} {sp : Nat → Bool} {held : Bool}
theorem val_of {fuel : Nat} {t : TypeId} {v : Value} {x : DataW H × List MemPlace} (ht : P.underlying t = some .string ∨ P.underlying t = some (.int .i64)) (h : DataW.trod enc P w base sp held fuel t [v] = some x) : v = valD x.1 := by
 rcases ht with ht | ht
 · obtain ⟨s, h1, rfl, _⟩ := DataW.trod_string ht h
   simp only [List.cons.injEq, and_true] at h1
   rw [h1]
   show Value.string s = .string ⟨s.data.toList.toArray⟩
   simp
 · obtain ⟨z, h1, rfl, _⟩ := DataW.trod_int ht h
   simp only [List.cons.injEq, and_true] at h1
   exact h1
theorem struct_vals {fuel : Nat} {e : TypeId} {fs : Array Field} {cs : List Value} {D : DataW H} {p : List MemPlace} (he : P.underlying e = some (.struct fs)) (hce : P.cellsOf e = fs.size)
   (hf : ∀ (i : Nat) (f : Field), fs[i]? = some f → f.offset = i ∧ P.cellsOf f.type = 1 ∧ (P.underlying f.type = some .string ∨ P.underlying f.type = some (.int .i64))) (h : DataW.trod enc P w base sp held fuel e cs = some (D, p)) : cs = rowV D ∧ cs.length = fs.size := by
 obtain ⟨xs, n, _, hx, hl, hxl, hi⟩ := DataW.trod_struct he h
 rw [hce] at hl
 simp only [Prod.mk.injEq] at hx
 obtain ⟨rfl, rfl⟩ := hx
 refine ⟨?_, hl⟩
 show cs = (xs.map (·.1)).map valD
 apply List.ext_getElem?
 intro i
 by_cases hlt : i < fs.size
 · obtain ⟨f, hfi⟩ : ∃ f, fs[i]? = some f := ⟨fs[i], by simp [hlt]⟩
   obtain ⟨h1, h2, h3⟩ := hf i f hfi
   have ht := hi i f hfi
   rw [h1, h2] at ht
   have hc : (cs.drop i).take 1 = [cs[i]] := by
     rw [List.drop_eq_getElem_cons (by omega)]
     rfl
   rw [hc] at ht
   obtain ⟨x, hx⟩ : ∃ x, xs[i]? = some x := ⟨xs[i], by simp [hxl, hlt]⟩
   rw [hx] at ht
   have hv := val_of h3 ht
   rw [List.getElem?_map, List.getElem?_map, hx, List.getElem?_eq_getElem (by omega), hv]
   rfl
 · rw [List.getElem?_eq_none (by omega), List.getElem?_eq_none (by simp; omega)]
theorem array_vals {fuel : Nat} {t e : TypeId} {n k : Nat} {cs : List Value} {Ds : List (DataW H)} {p : List MemPlace} (ht : P.underlying t = some (.array n e)) (hce : P.cellsOf e = k) (hct : P.cellsOf t = n * k)
   (hel : ∀ (m : Nat) (c : List Value) (D : DataW H) (q : List MemPlace), DataW.trod enc P w base sp held m e c = some (D, q) → c = rowV D ∧ c.length = k) (h : DataW.trod enc P w base sp held fuel t cs = some (.agg Ds, p)) : cs = Ds.flatMap rowV := by
 cases fuel with
 | zero => simp [DataW.trod] at h
 | succ fuel =>
   simp only [DataW.trod, ht, hce, hct] at h
   split at h
   · rename_i hl
     obtain ⟨xs, hm, hx⟩ := Option.map_eq_some_iff.1 h
     have hxs : xs.map (·.1) = Ds := by
       have := congrArg Prod.fst hx
       simpa using this
     have hxl : xs.length = n := by simpa using Lib.mapM_length hm
     have hlen : ∀ D ∈ Ds, (rowV D).length = k := fun D hD => by
       rw [← hxs] at hD
       obtain ⟨x, hx1, rfl⟩ := List.mem_map.1 hD
       obtain ⟨i, hi, hix⟩ := List.getElem_of_mem hx1
       obtain ⟨y, hy, hf⟩ := Lib.mapM_at hm i i (by rw [List.getElem?_range (by omega)])
       rw [List.getElem?_eq_getElem hi, hix] at hy
       cases hy
       obtain ⟨h1, h2⟩ := hel _ _ _ _ hf
       rw [← h1, h2]
     apply List.ext_getElem?
     intro i
     by_cases hk : k = 0
     · subst hk
       rw [List.getElem?_eq_none (by omega), List.getElem?_eq_none]
       have : ∀ l : List (DataW H), (∀ D ∈ l, (rowV D).length = 0) → (l.flatMap rowV).length = 0 := fun l => by
         induction l with
         | nil => intro _; rfl
         | cons a l ih =>
           intro hh
           rw [List.flatMap_cons, List.length_append, hh a (List.mem_cons_self ..), ih fun D hD => hh D (List.mem_cons_of_mem _ hD)]
       rw [this Ds hlen]
       exact Nat.zero_le _
     · have hk0 : 0 < k := Nat.pos_of_ne_zero hk
       have hi2 : i = i / k * k + i % k := by rw [Nat.mul_comm]; exact (Nat.div_add_mod i k).symm
       have hmod := Nat.mod_lt i hk0
       have hflat := flat_k rowV k Ds (i / k) (i % k) hlen hmod
       rw [← hi2] at hflat
       rw [hflat]
       by_cases hlt : i / k < n
       · obtain ⟨y, hy, hf⟩ := Lib.mapM_at hm (i / k) (i / k) (by simp [hlt])
         have hD : Ds[i / k]? = some y.1 := by rw [← hxs, List.getElem?_map, hy]; rfl
         obtain ⟨h1, _⟩ := hel _ _ _ _ hf
         rw [hD, Option.bind_some, ← h1, List.getElem?_take, if_pos hmod, List.getElem?_drop, ← hi2]
       · have hD : Ds[i / k]? = none := List.getElem?_eq_none (by rw [← hxs]; simp; omega)
         rw [hD, Option.bind_none]
         refine List.getElem?_eq_none ?_
         rw [hl]
         have : n ≤ i / k := by omega
         calc n * k ≤ i / k * k := Nat.mul_le_mul_right k this
           _ ≤ i := Nat.div_mul_le_self i k
   · cases h
end
theorem elem_string {H : Type} {enc : TypeId × Value → H} {P : Program} {w : World} {base : Nat} {sp : Nat → Bool} {held : Bool} {e : TypeId} (he : P.underlying e = some .string) (m : Nat) (c : List Value) (D : DataW H) (q : List MemPlace) (h : DataW.trod enc P w base sp held m e c = some (D, q)) : c = rowV D ∧ c.length = 1 := by
 obtain ⟨s, rfl, hx, _⟩ := DataW.trod_string he h
 simp only [Prod.mk.injEq] at hx
 obtain ⟨rfl, rfl⟩ := hx
 refine ⟨?_, rfl⟩
 show [Value.string s] = [.string ⟨s.data.toList.toArray⟩]
 simp
theorem var_array {P : Program} {W : World} {name : String} {Ds : List (DataW Unit)} {r : List (String × DataW Unit)} {g : Nat} {t e : TypeId} {n k : Nat}
   (hg : P.globalNamed name = some g) (hty : (P.globals[g]?).map (·.type) = some t) (ht : P.underlying t = some (.array n e)) (hce : P.cellsOf e = k) (hct : P.cellsOf t = n * k)
   (hel : ∀ (enc : TypeId × Value → Unit) (base : Nat) (sp : Nat → Bool) (held : Bool) (m : Nat) (c : List Value) (D : DataW Unit) (q : List MemPlace), DataW.trod enc P W base sp held m e c = some (D, q) → c = rowV D ∧ c.length = k)
   (h : laidMet P ((name, .agg Ds) :: r) W) : ∃ ty fr, W.heap[g]? = some (.cells (Ds.flatMap rowV).toArray ty fr) := by
 obtain ⟨ps, ⟨g', t', cs, fuel, p, q, hg', ht', hvar, hd, _, _⟩, _⟩ := h
 obtain rfl := Option.some.inj (hg.symm.trans hg')
 obtain rfl := Option.some.inj (hty.symm.trans ht')
 have hc := array_vals ht hce hct (fun m c D q hh => hel _ _ _ _ m c D q hh) hd
 unfold World.var? at hvar
 rw [hg] at hvar
 simp only [Option.bind_some] at hvar
 split at hvar
 · rename_i c ty fr e
   simp only [Option.some.injEq] at hvar
   subst hvar
   refine ⟨ty, fr, ?_⟩
   rw [e, ← hc]
 · cases hvar
theorem var_iface {P : Program} {W : World} {name nm : String} {D : DataW Unit} {r : List (String × DataW Unit)} {g : Nat} {t : TypeId} {ms : Array (String × TypeId)}
   (hg : P.globalNamed name = some g) (hty : (P.globals[g]?).map (·.type) = some t) (ht : P.underlying t = some (.interface ms)) (h : laidMet P ((name, .iface nm D) :: r) W) : ∃ u x, W.cell? ⟨g, 0, none⟩ = some (.iface u x) := by
 obtain ⟨ps, ⟨g', t', cs, fuel, p, q, hg', ht', hvar, hd, _, _⟩, _⟩ := h
 obtain rfl := Option.some.inj (hg.symm.trans hg')
 obtain rfl := Option.some.inj (hty.symm.trans ht')
 have hc := World.var?_cell hg hvar 0
 obtain ⟨l⟩ := cs
 cases fuel with
 | zero => simp [DataW.trod] at hd
 | succ fuel =>
   unfold DataW.trod at hd
   rw [ht] at hd
   split at hd <;> simp_all
def lens : List Int := [1, 1, 1, 1, 1, 1, 1, 1, 1, 1, 1, 1, 1, 1, 1, 1, 0, 0, 0, 0, 0, 0, 0, 0, 2, 2, 2, 2, 3, 3, 4, 0]
theorem lens_at (i : Nat) (h : i < 32) : lens.getD i 0 = len0 (8 * i) := by
 have all : ∀ i : Fin 32, lens.getD i.val 0 = len0 (8 * (i.val : Nat)) := by decide +kernel
 exact all ⟨i, h⟩
theorem len0_eight {x : Int} (_h0 : 0 ≤ x) : len0 (8 * (x / 8)) = len0 x := by
 rcases len0_cases x with ⟨a, b⟩ | ⟨a, b⟩ | ⟨a, b⟩ | ⟨a, b⟩ | ⟨a, b⟩ <;>
 rcases len0_cases (8 * (x / 8)) with ⟨c, d⟩ | ⟨c, d⟩ | ⟨c, d⟩ | ⟨c, d⟩ | ⟨c, d⟩ <;> omega
def hds : List Int := [0, 0, 192, 224, 240]
theorem hds_at (s : Int) (h0 : 0 ≤ s) (h1 : s ≤ 4) : hds.getD s.toNat 0 = head0 s := by
 have hs : s = 0 ∨ s = 1 ∨ s = 2 ∨ s = 3 ∨ s = 4 := by omega
 rcases hs with rfl | rfl | rfl | rfl | rfl <;> rfl
theorem wf_byte {n : Int} (h : (Lit.int .u8 n).wf = true) : 0 ≤ n ∧ n ≤ 255 := by
 have h2 : IntKind.u8.min ≤ n ∧ n ≤ IntKind.u8.max := by simpa [Lit.wf] using h
 rw [show IntKind.u8.min = 0 by decide, show IntKind.u8.max = 255 by decide] at h2
 exact h2
set_option maxRecDepth 100000 in
theorem open_bytes {H : Type} {enc : TypeId × Value → H} {W : World} {base : Nat} {v : Value} {d : DataW H} {ps : List MemPlace} (hval : Value.okWide Tryz.prog W .any base 22 v)
   (h : DataW.Trod enc Tryz.prog W 0 (fun _ => true) true 22 v d ps) (hsz : ∀ elems spare, d = .slice elems spare → (elems.length + spare.length) * Tryz.prog.bytesOf 5 ≤ reachBytes) :
   ∃ n g, Sl W v n g := by
 obtain ⟨a0, len, cap, rfl⟩ := okWide_slice Tryz.underlying22 hval
 obtain ⟨fuel, hf⟩ := h
 rcases open_ints Tryz.underlying22 Tryz.underlying5 cellsByte hf with ⟨hcs, _⟩ | ⟨a, len', cap', zs, hcs, _, hl, hm, hz, hx, hcell, hwz⟩
 · simp [Value.cells] at hcs
   obtain ⟨rfl, rfl, rfl⟩ := hcs
   exact ⟨0, fun _ => 0, fun _ => by simp, by simp, Or.inl ⟨rfl, _, _, rfl, by omega⟩⟩
 · simp [Value.cells] at hcs
   obtain ⟨rfl, rfl, rfl⟩ := hcs
   simp only [Prod.mk.injEq] at hx
   obtain ⟨rfl, _⟩ := hx
   simp only [if_true] at hz
   have hr := hsz _ _ rfl
   rw [bytesByte] at hr
   simp only [lits, List.length_map, List.length_take, List.length_drop, reachBytes] at hr
   unfold maxLen at hm
   have hgb : ∀ i, 0 ≤ zs.getD i 0 ∧ zs.getD i 0 ≤ 255 := by
     intro i
     by_cases hi : i < zs.length
     · simp only [List.getD, List.getElem?_eq_getElem hi, Option.getD_some]
       exact wf_byte (hwz _ (List.getElem_mem hi))
     · simp [List.getD, List.getElem?_eq_none (Nat.le_of_not_lt hi)]
   by_cases h0 : len = 0
   · subst h0
     exact ⟨0, fun _ => 0, fun _ => by simp, by simp, Or.inl ⟨rfl, _, _, rfl, by omega⟩⟩
   · obtain ⟨b, off, spot⟩ := a
     have c0 := hcell 0 (by omega)
     cases spot with
     | some s =>
       exfalso
       have : ((⟨b, off, some s⟩ : Addr).add 0).spot.isSome = true := by unfold Addr.add; split <;> simp_all
       unfold World.cell? at c0
       split at c0
       · simp [this] at c0
       · simp at c0
     | none =>
       refine ⟨len, fun i => zs.getD i 0, hgb, by omega, Or.inr ⟨b, off, cap, rfl, ⟨hl, by omega⟩, fun i hi => ?_⟩⟩
       have := hcell i (by omega)
       have hplain : (⟨b, off, none⟩ : Addr).add i = ⟨b, off + i, none⟩ := by unfold Addr.add; split <;> simp_all
       rw [hplain] at this
       exact this
def laidList : List (String × DataW Unit) := [("math/bits.deBruijn32tab", Rows.laid_math_bits_deBruijn32tab), ("math/bits.deBruijn64tab", Rows.laid_math_bits_deBruijn64tab), ("internal/strconv.uint64pow10", Rows.laid_internal_strconv_uint64pow10), ("strconv.ErrRange", Rows.laid_strconv_ErrRange), ("strconv.ErrSyntax", Rows.laid_strconv_ErrSyntax), ("lurcher/utf.lengths", Rows.laid_lurcher_utf_lengths), ("lurcher/utf.heads", Rows.laid_lurcher_utf_heads), ("lurcher/props.starts", Rows.laid_lurcher_props_starts), ("lurcher/tokens.groups", Rows.laid_lurcher_tokens_groups), ("lurcher/tokens.looks", Rows.laid_lurcher_tokens_looks), ("lurcher/tokens.namings", Rows.laid_lurcher_tokens_namings), ("lurcher/tokens.verbs", Rows.laid_lurcher_tokens_verbs)]
def datV {H : Type} : DataW H → List Value
 | .agg Ds => Ds.flatMap rowV
 | _ => []
def layV (l : List Value) : Obj → Obj
 | .cells _ t frozen => .cells l.toArray t frozen
 | o => o
noncomputable def low : Nat := (World.holding Tryz.prog default ⟨#[], #[], []⟩).heap.size
theorem gEr : Tryz.prog.globalNamed "strconv.ErrSyntax" = some 8 := by kernel_rfl
theorem gErType : (Tryz.prog.globals[8]?).map (·.type) = some 152 := by kernel_rfl
theorem gLengths : Tryz.prog.globalNamed "lurcher/utf.lengths" = some 0 := by kernel_rfl
theorem gHeads : Tryz.prog.globalNamed "lurcher/utf.heads" = some 1 := by kernel_rfl
theorem gLengthsType : (Tryz.prog.globals[0]?).map (·.type) = some 69 := by kernel_rfl
theorem gHeadsType : (Tryz.prog.globals[1]?).map (·.type) = some 71 := by kernel_rfl
theorem cellsLengths : Tryz.prog.cellsOf 69 = 32 := by kernel_rfl
theorem cellsHeads : Tryz.prog.cellsOf 71 = 5 := by kernel_rfl
theorem gStarts : Tryz.prog.globalNamed "lurcher/props.starts" = some 7 := by kernel_rfl
theorem gStartsType : (Tryz.prog.globals[7]?).map (·.type) = some 171 := by kernel_rfl
theorem cellsStarts : Tryz.prog.cellsOf 171 = 94 := by kernel_rfl
theorem gGroups : Tryz.prog.globalNamed "lurcher/tokens.groups" = some 3 := by kernel_rfl
theorem gGroupsType : (Tryz.prog.globals[3]?).map (·.type) = some 144 := by kernel_rfl
theorem cellsGroups : Tryz.prog.cellsOf 144 = 6 * 2 := by kernel_rfl
theorem cellsGroup : Tryz.prog.cellsOf 143 = 2 := by kernel_rfl
theorem gLooks : Tryz.prog.globalNamed "lurcher/tokens.looks" = some 5 := by kernel_rfl
theorem gLooksType : (Tryz.prog.globals[5]?).map (·.type) = some 147 := by kernel_rfl
theorem cellsLooks : Tryz.prog.cellsOf 147 = 4 * 1 := by kernel_rfl
theorem cellsString : Tryz.prog.cellsOf 9 = 1 := by kernel_rfl
theorem gNamings : Tryz.prog.globalNamed "lurcher/tokens.namings" = some 4 := by kernel_rfl
theorem gNamingsType : (Tryz.prog.globals[4]?).map (·.type) = some 146 := by kernel_rfl
theorem cellsNamings : Tryz.prog.cellsOf 146 = 6 * 5 := by kernel_rfl
theorem cellsNaming : Tryz.prog.cellsOf 145 = 5 := by kernel_rfl
theorem gVerbs : Tryz.prog.globalNamed "lurcher/tokens.verbs" = some 2 := by kernel_rfl
theorem gVerbsType : (Tryz.prog.globals[2]?).map (·.type) = some 122 := by kernel_rfl
theorem cellsVerbs : Tryz.prog.cellsOf 122 = 9 * 3 := by kernel_rfl
theorem cellsVerb : Tryz.prog.cellsOf 121 = 3 := by kernel_rfl
theorem fields2 {P : Program} {f0 f1 : Field} (h0 : f0.offset = 0 ∧ P.cellsOf f0.type = 1 ∧ (P.underlying f0.type = some .string ∨ P.underlying f0.type = some (.int .i64))) (h1 : f1.offset = 1 ∧ P.cellsOf f1.type = 1 ∧ (P.underlying f1.type = some .string ∨ P.underlying f1.type = some (.int .i64))) :
   ∀ (i : Nat) (f : Field), (#[f0, f1] : Array Field)[i]? = some f → f.offset = i ∧ P.cellsOf f.type = 1 ∧ (P.underlying f.type = some .string ∨ P.underlying f.type = some (.int .i64))
 | 0, f, h => by cases h; exact h0
 | 1, f, h => by cases h; exact h1
 | i + 2, f, h => by simp at h
theorem fields3 {P : Program} {f0 f1 f2 : Field} (h0 : f0.offset = 0 ∧ P.cellsOf f0.type = 1 ∧ (P.underlying f0.type = some .string ∨ P.underlying f0.type = some (.int .i64))) (h1 : f1.offset = 1 ∧ P.cellsOf f1.type = 1 ∧ (P.underlying f1.type = some .string ∨ P.underlying f1.type = some (.int .i64))) (h2 : f2.offset = 2 ∧ P.cellsOf f2.type = 1 ∧ (P.underlying f2.type = some .string ∨ P.underlying f2.type = some (.int .i64))) :
   ∀ (i : Nat) (f : Field), (#[f0, f1, f2] : Array Field)[i]? = some f → f.offset = i ∧ P.cellsOf f.type = 1 ∧ (P.underlying f.type = some .string ∨ P.underlying f.type = some (.int .i64))
 | 0, f, h => by cases h; exact h0
 | 1, f, h => by cases h; exact h1
 | 2, f, h => by cases h; exact h2
 | i + 3, f, h => by simp at h
theorem fields5 {P : Program} {f0 f1 f2 f3 f4 : Field} (h0 : f0.offset = 0 ∧ P.cellsOf f0.type = 1 ∧ (P.underlying f0.type = some .string ∨ P.underlying f0.type = some (.int .i64))) (h1 : f1.offset = 1 ∧ P.cellsOf f1.type = 1 ∧ (P.underlying f1.type = some .string ∨ P.underlying f1.type = some (.int .i64))) (h2 : f2.offset = 2 ∧ P.cellsOf f2.type = 1 ∧ (P.underlying f2.type = some .string ∨ P.underlying f2.type = some (.int .i64))) (h3 : f3.offset = 3 ∧ P.cellsOf f3.type = 1 ∧ (P.underlying f3.type = some .string ∨ P.underlying f3.type = some (.int .i64))) (h4 : f4.offset = 4 ∧ P.cellsOf f4.type = 1 ∧ (P.underlying f4.type = some .string ∨ P.underlying f4.type = some (.int .i64))) :
   ∀ (i : Nat) (f : Field), (#[f0, f1, f2, f3, f4] : Array Field)[i]? = some f → f.offset = i ∧ P.cellsOf f.type = 1 ∧ (P.underlying f.type = some .string ∨ P.underlying f.type = some (.int .i64))
 | 0, f, h => by cases h; exact h0
 | 1, f, h => by cases h; exact h1
 | 2, f, h => by cases h; exact h2
 | 3, f, h => by cases h; exact h3
 | 4, f, h => by cases h; exact h4
 | i + 5, f, h => by simp at h
theorem glo_of {W : World} (h : laidMetH Tryz.prog laidList W) : Glo W := by
 have h1 : laidMet Tryz.prog laidList W := h
 have h5 := h1.tail.tail.tail.tail
 have h6 := h5.tail
 have h7 := h6.tail
 have h8 := h7.tail
 have h9 := h8.tail
 have h10 := h9.tail
 have h11 := h10.tail
 have h12 := h11.tail
 have T1 : Lib.TabIs Tryz.prog W "lurcher/utf.lengths" .i64 lens := Lib.tabIs_of_head gLengths gLengthsType Tryz.underlying69 Tryz.underlying3 cellsInt cellsLengths h6
 have T2 : Lib.TabIs Tryz.prog W "lurcher/utf.heads" .i64 hds := Lib.tabIs_of_head gHeads gHeadsType Tryz.underlying71 Tryz.underlying3 cellsInt cellsHeads h7
 have T3 : Lib.TabIs Tryz.prog W "lurcher/props.starts" .i64 starts := Lib.tabIs_of_head gStarts gStartsType Tryz.underlying171 Tryz.underlying3 cellsInt cellsStarts h8
 obtain ⟨gt, gf, gh⟩ := var_array gGroups gGroupsType Tryz.underlying144 cellsGroup cellsGroups (fun enc base sp held m c D q hh => struct_vals Tryz.underlying143 cellsGroup (fields2 ⟨rfl, cellsString, Or.inl Tryz.underlying9⟩ ⟨rfl, cellsInt, Or.inr Tryz.underlying3⟩) hh) h9
 obtain ⟨lt, lf, lh⟩ := var_array gLooks gLooksType Tryz.underlying147 cellsString cellsLooks (fun enc base sp held m c D q hh => elem_string Tryz.underlying9 m c D q hh) h10
 obtain ⟨nt, nf, nh⟩ := var_array gNamings gNamingsType Tryz.underlying146 cellsNaming cellsNamings (fun enc base sp held m c D q hh => struct_vals Tryz.underlying145 cellsNaming (fields5 ⟨rfl, cellsString, Or.inl Tryz.underlying9⟩ ⟨rfl, cellsString, Or.inl Tryz.underlying9⟩ ⟨rfl, cellsInt, Or.inr Tryz.underlying3⟩ ⟨rfl, cellsInt, Or.inr Tryz.underlying3⟩ ⟨rfl, cellsInt, Or.inr Tryz.underlying3⟩) hh) h11
 obtain ⟨vt, vf, vh⟩ := var_array gVerbs gVerbsType Tryz.underlying122 cellsVerb cellsVerbs (fun enc base sp held m c D q hh => struct_vals Tryz.underlying121 cellsVerb (fields3 ⟨rfl, cellsString, Or.inl Tryz.underlying9⟩ ⟨rfl, cellsInt, Or.inr Tryz.underlying3⟩ ⟨rfl, cellsInt, Or.inr Tryz.underlying3⟩) hh) h12
 refine ⟨⟨fun x a b => ?_, fun s a b => ?_⟩, ?_, fun i hi => ?_, fun i v hi => ?_, fun i v hi => ?_, ⟨nt, nf, nh⟩, ⟨vt, vf, vh⟩⟩
 · have hi : (x / 8).toNat < 32 := by omega
   rw [T1.cell gLengths (x / 8).toNat (by simpa [lens] using hi), lens_at _ hi, show ((x / 8).toNat : Int) = x / 8 from by omega, len0_eight a]
 · have hi : s.toNat < 5 := by omega
   rw [T2.cell gHeads s.toNat (by simpa [hds] using hi), hds_at s a b]
 · exact var_iface gEr gErType Tryz.underlying152 h5
 · rw [T3.cell gStarts i (by simpa [starts] using hi)]
   rfl
 · rw [cell_of_row _ _ _ _ _ _ gh]
   show groupsC.toArray[i]? = some v
   simpa using hi
 · rw [cell_of_row _ _ _ _ _ _ lh]
   show looksC.toArray[i]? = some v
   simpa using hi
end Go.Proofs.YtgbnaolgmmnhhaaGreatDoor.tkr
end
section
namespace Go.Proofs.YtgbnaolgmmnhhaaGreatDoor.tkp
open Go utfp ucdp setp prp tkw
def Reads (p : Pt) (f b : Nat) (ts : List Tk) : Prop := ∀ k T, p.n < f + k → ∃ k', p.n < b + k' ∧ p.read k T f = p.read k' (T ++ ts) b
theorem Reads.none (p : Pt) (f : Nat) : Reads p f f [] := fun k T hk => ⟨k, hk, by rw [List.append_nil]⟩
theorem Reads.trans {p : Pt} {f b c : Nat} {ts us : List Tk} (h : Reads p f b ts) (h' : Reads p b c us) : Reads p f c (ts ++ us) := fun k T hk => by
 obtain ⟨k1, h1, e1⟩ := h k T hk
 obtain ⟨k2, h2, e2⟩ := h' k1 (T ++ ts) h1
 exact ⟨k2, h2, by rw [e1, e2, List.append_assoc]⟩
theorem Reads.whole {p : Pt} {ts : List Tk} (h : Reads p 0 p.n ts) : p.read (p.n + 1) [] 0 = .ok ts := by
 obtain ⟨k, hk, e⟩ := h (p.n + 1) [] (by omega)
 obtain ⟨k, rfl⟩ : ∃ q, k = q + 1 := ⟨k - 1, by omega⟩
 rw [e, read_succ, if_pos rfl, List.nil_append]
def Stand (p : Pt) (f : Nat) (w : List Int) : Prop := f + w.length ≤ p.n ∧ ∀ i, i < w.length → p.g (f + i) = w.getD i 0
section
variable {p : Pt} (hg : ∀ i, 0 ≤ p.g i ∧ p.g i ≤ 255)
theorem Stand.at_ {f : Nat} {w : List Int} (h : Stand p f w) (i : Nat) (hi : i < w.length) : f + i < p.n ∧ p.g (f + i) = w.getD i 0 := ⟨by have := h.1; omega, h.2 i hi⟩
include hg
end
end Go.Proofs.YtgbnaolgmmnhhaaGreatDoor.tkp
end
section
namespace Go.Proofs.YtgbnaolgmmnhhaaGreatDoor.tkw
open Go Go.RowKit Go.Maps utfp utfw ucdp setp setw prp tkp
theorem flat_at {α : Type} (f : α → List Value) (h : ∀ a, (f a).length = 12) : ∀ (l : List α) (i j : Nat), j < 12 → (l.flatMap f)[i * 12 + j]? = (l[i]?).bind fun a => (f a)[j]?
 | [], i, j, _ => by simp
 | a :: l, 0, j, hj => by
   rw [List.flatMap_cons, List.getElem?_append_left (by rw [h]; omega)]
   simp
 | a :: l, i + 1, j, hj => by
   rw [List.flatMap_cons, List.getElem?_append_right (by rw [h]; omega), h, show (i + 1) * 12 + j - 12 = i * 12 + j by omega, flat_at f h l i j hj]
   simp
theorem tok_cells {w : World} {base : Nat} {v : Value} {T : List Tk} (h : TokRow w base v T) : ∃ a cap, v = .slice a T.length cap ∧ T.length ≤ cap ∧ cap ≤ 9223372036854775807 ∧ (T = [] ∨ ∃ g, a = some ⟨g, 0, none⟩ ∧
   ∀ i t, T[i]? = some t → ∃ x y, ∀ j, j < 12 → w.cell? ⟨g, i * 12 + j, none⟩ = (tkCells (.slice x t.set.length y) t)[j]?) := by
 obtain ⟨l, h1, h2, h3⟩ := h
 have hl : l.length = T.length := by rw [← h1]; simp
 rw [hl] at h3
 rcases h3.2 with ⟨rfl, h0⟩ | ⟨g, cap, cur, hv, _, _, hc1, hc2, _, _⟩
 · have : T = [] := List.length_eq_zero_iff.1 h0
   subst this
   exact ⟨none, 0, rfl, Nat.le_refl _, by omega, Or.inl rfl⟩
 · subst hv
   unfold maxLen at hc2
   refine ⟨_, cap, rfl, hc1, by omega, Or.inr ⟨g, rfl, fun i t hi => ?_⟩⟩
   have hlt : i < l.length := by
     rw [hl]
     exact (List.getElem?_eq_some_iff.1 hi).1
   obtain ⟨p, hp⟩ : ∃ p, l[i]? = some p := ⟨_, List.getElem?_eq_getElem hlt⟩
   have ht : p.1 = t := by
     rw [← h1, List.getElem?_map, hp] at hi
     exact Option.some.inj hi
   subst ht
   have hmem : p ∈ l := List.mem_of_getElem? hp
   obtain ⟨x, y, hs⟩ := ownR_len (h2 p hmem)
   refine ⟨x, y, fun j hj => ?_⟩
   rw [World.ownsRow.cellAt h3 (i * 12 + j) (by omega), flat_at _ (fun _ => rfl) l i j hj, hp, ← hs]
   rfl
theorem awk_1 : (match lexP (at_ [97, 123, 50, 44, 125, 43, 91, 94, 93, 97, 45, 99, 91, 58, 100, 105, 103, 105, 116, 58, 93, 93]) 22 0 with
   | .ok [_, t, u] => decide (t.m = -1) && decide (t.mode = 2) && u.neg && decide (u.set.length = 3)
   | _ => false) = true := by decide +kernel
theorem awk_2 : lexP (at_ [120, 40, 63, 60, 110, 45]) 6 0 = .error (27, 1) := by kernel_rfl
theorem awk_3 : lexP (at_ [40, 63, 60, 110]) 4 0 = .error (20, 4) := by kernel_rfl
theorem glo_below {w w' : World} (h : Glo w) (hb : Below w.heap.size w w') : Glo w' := by
 obtain ⟨t, x, he⟩ := h.er
 obtain ⟨t1, f1, n1⟩ := h.na
 obtain ⟨t2, f2, n2⟩ := h.ve
 have lt : ∀ {g : Nat} {o : Obj}, w.heap[g]? = some o → g < w.heap.size := fun {g o} e => by
   apply Classical.byContradiction
   intro hn
   rw [Array.getElem?_eq_none (by omega)] at e
   cases e
 exact ⟨below_tabs hb h.tabs, ⟨t, x, below_cell hb he⟩, fun i hi => below_cell hb (h.tabS i hi), globAt_below h.gr hb, globAt_below h.lo hb, ⟨t1, f1, (hb.block _ (lt n1)).trans n1⟩, ⟨t2, f2, (hb.block _ (lt n2)).trans n2⟩⟩
theorem sl_lit (w : World) (t : TypeId) (fr : Nat × Nat) (l : List Int) (hl : ∀ x ∈ l, 0 ≤ x ∧ x ≤ 255) (hn : l.length ≤ 140737488355328) : Sl (w.alloc (.cells (l.map (Value.int .u8)).toArray t fr)) (.slice (some ⟨w.heap.size, 0, none⟩) l.length l.length) l.length (at_ l) := by
 refine ⟨fun i => ?_, hn, Or.inr ⟨w.heap.size, 0, l.length, rfl, ⟨Nat.le_refl _, by omega⟩, fun i hi => ?_⟩⟩
 · unfold at_
   by_cases hi : i < l.length
   · have : l.getD i 0 ∈ l := by
       rw [show l.getD i 0 = l[i] by simp [List.getD, hi]]
       exact List.getElem_mem hi
     exact hl _ this
   · rw [show l.getD i 0 = 0 by simp [List.getD, Nat.not_lt.1 hi]]
     omega
 · rw [cell_of_row _ _ _ _ _ _ (heap_alloc_new w _)]
   simp [at_, List.getD, hi]
theorem lex_lit (w : World) (l : List Int) (hl : ∀ x ∈ l, 0 ≤ x ∧ x ≤ 255) (hn : l.length ≤ 140737488355328) (o : Int) (hG : Glo w) : Calls Tryz.prog 11 #[.slice (some ⟨w.heap.size, 0, none⟩) l.length l.length, .int .i64 o] (w.alloc (.cells (l.map (Value.int .u8)).toArray 5 (l.length, l.length + 1)))
   fun e w' => ReadB w (lexP (at_ l) l.length o) e w' := by
 refine (lex_any _ l.length (at_ l) o _ (sl_lit w 5 _ l hl hn) (glo_below hG (below_al w _))).mono ?_
 intro e w' h
 obtain ⟨R, hR⟩ : ∃ R, lexP (at_ l) l.length o = R := ⟨_, rfl⟩
 rw [hR] at h ⊢
 obtain ⟨hb, h⟩ := h
 refine ⟨below_trans (below_al w _) hb, ?_⟩
 cases R with
 | error x => exact h
 | ok T =>
   obtain ⟨v, h1, h2⟩ := h
   exact ⟨v, h1, tokRow_base h2 (by simp)⟩
def BoolB (r : Bool) (w : World) (e : Ending) (w' : World) : Prop := e = .returned (.bool r) ∧ Below w.heap.size w w'
theorem awk_T : ∃ a t u, lexP (at_ [97, 123, 50, 44, 125, 43, 91, 94, 93, 97, 45, 99, 91, 58, 100, 105, 103, 105, 116, 58, 93, 93]) 22 0 = .ok [a, t, u] ∧ t.m = -1 ∧ t.mode = 2 ∧ u.neg = true ∧ u.set.length = 3 := by
 have h := awk_1
 split at h
 · rename_i a t u e
   simp only [Bool.and_eq_true, decide_eq_true_eq] at h
   exact ⟨a, t, u, e, h.1.1.1, h.1.1.2, h.1.2, h.2⟩
 · cases h
set_option maxRecDepth 100000 in
set_option maxHeartbeats 4000000 in
theorem awake_any (w : World) (hG : Glo w) : Calls Tryz.prog 10 #[] w (BoolB true w) := by
 obtain ⟨a, t, u, hT, t1, t2, t3, t4⟩ := awk_T
 have L1 := Lib.hid (lex_lit w [97, 123, 50, 44, 125, 43, 91, 94, 93, 97, 45, 99, 91, 58, 100, 105, 103, 105, 116, 58, 93, 93] (by decide) (by decide) 0 hG)
 have L2 := Lib.hid (fun w1 hG1 => lex_lit w1 [120, 40, 63, 60, 110, 45] (by decide) (by decide) 0 hG1)
 have L3 := Lib.hid (fun w1 hG1 => lex_lit w1 [40, 63, 60, 110] (by decide) (by decide) 0 hG1)
 have HT := Lib.hid hT
 have kc := fun (w : World) (C : Array Value) (n c : Nat) => Lib.run_convert_bytes_const (P := Tryz.prog) w 22 5 C n c Tryz.underlying22 Tryz.underlying5
 clear hT
 go_enter Tryz.func10, Tryz.ntmps10
 go_wp2_with fail
 refine L1.out.mono ?_
 intro e w1 h1
 rw [show ([97, 123, 50, 44, 125, 43, 91, 94, 93, 97, 45, 99, 91, 58, 100, 105, 103, 105, 116, 58, 93, 93] : List Int).length = 22 from rfl, HT.out] at h1
 obtain ⟨hb1, v, rfl, hr⟩ := h1
 obtain ⟨va, cap, rfl, hc1, hc2, hr2 | ⟨g, rfl, hcell⟩⟩ := tok_cells hr
 · cases hr2
 obtain ⟨x1, y1, c1⟩ := hcell 1 t rfl
 obtain ⟨x2, y2, c2⟩ := hcell 2 u rfl
 have k7 := c1 7 (by decide)
 have k8 := c1 8 (by decide)
 have m5 := c2 5 (by decide)
 have m4 := c2 4 (by decide)
 rw [show (tkCells (.slice x1 t.set.length y1) t)[7]? = some (.int .i64 t.m) from rfl, t1] at k7
 rw [show (tkCells (.slice x1 t.set.length y1) t)[8]? = some (.int .i64 t.mode) from rfl, t2] at k8
 rw [show (tkCells (.slice x2 u.set.length y2) u)[5]? = some (.bool u.neg) from rfl, t3] at m5
 rw [show (tkCells (.slice x2 u.set.length y2) u)[4]? = some (.slice x2 u.set.length y2) from rfl, t4] at m4
 have hG1 := glo_below hG hb1
 clear c1 c2 hcell hr t1 t2 t3 t4
 simp only [List.length_cons, List.length_nil, Nat.zero_add, Nat.reduceAdd, Nat.reduceMul] at hc1 k7 k8 m5 m4 ⊢
 go_wp2_with fail
 refine (L2.out w1 hG1).mono ?_
 intro e w2 h2
 rw [show ([120, 40, 63, 60, 110, 45] : List Int).length = 6 from rfl, awk_2] at h2
 obtain ⟨hb2, rfl⟩ := h2
 have k7 := below_cell hb2 k7
 have k8 := below_cell hb2 k8
 have m5 := below_cell hb2 m5
 have m4 := below_cell hb2 m4
 have hG2 := glo_below hG1 hb2
 go_wp2_with fail
 refine (L3.out w2 hG2).mono ?_
 intro e w3 h3
 rw [show ([40, 63, 60, 110] : List Int).length = 4 from rfl, awk_3] at h3
 obtain ⟨hb3, rfl⟩ := h3
 have k7 := below_cell hb3 k7
 have k8 := below_cell hb3 k8
 have m5 := below_cell hb3 m5
 have m4 := below_cell hb3 m4
 go_wp2_with fail
 go_ret
 exact ⟨rfl, below_trans (below_trans hb1 hb2) hb3⟩
end Go.Proofs.YtgbnaolgmmnhhaaGreatDoor.tkw
end
section
namespace Go.Proofs.YtgbnaolgmmnhhaaGreatDoor.tkw
open Go.Sort Go Go.RowKit Go.Maps utfp utfw ucdp setp setw prp tkp
theorem cell_regrown {w : World} {a : Addr} {v : Value} (h : w.cell? a = some v) : ∀ d os, (grow (redrawn w d) os).cell? a = some v := fun d os => below_cell (below_regrown w d os) h
theorem add_row0 (b i s : Nat) : (⟨b, 0, none⟩ : Addr).add (i * s) = ⟨b, i * s, none⟩ := by unfold Addr.add; split <;> simp_all
end Go.Proofs.YtgbnaolgmmnhhaaGreatDoor.tkw
end
section
namespace Go.Proofs.YtgbnaolgmmnhhaaGreatDoor.tkw
open Go.Sort Go Go.RowKit Go.Maps utfp utfw ucdp setp setw prp tkp
theorem sl_open {w : World} {v : Value} {n : Nat} {g : Nat → Int} (h : Sl w v n g) : ∃ a cap, v = .slice a n cap ∧ (n = 0 ∨ ∃ b off, a = some ⟨b, off, none⟩ ∧ ∀ i, i < n → w.cell? ⟨b, off + i, none⟩ = some (.int .u8 (g i))) := by
 obtain ⟨_, _, ⟨rfl, a, cap, rfl, _⟩ | ⟨b, off, cap, rfl, _, hc⟩⟩ := h
 · exact ⟨a, cap, rfl, Or.inl rfl⟩
 · exact ⟨_, cap, rfl, Or.inr ⟨b, off, rfl, hc⟩⟩
theorem add_byte (b o i : Nat) : (⟨b, o, none⟩ : Addr).add i = ⟨b, o + i, none⟩ := by unfold Addr.add; split <;> simp_all
set_option maxRecDepth 100000 in
set_option maxHeartbeats 4000000 in
theorem plain_law (v : Value) (n : Nat) (g : Nat → Int) (w : World) (hv : Sl w v n g) (hG : Glo w) : Calls Tryz.prog 8 #[v] w (BoolB true w) := by
 have HA := Lib.hid (awake_any w hG)
 have HL := Lib.hid (fun w1 (hb : Below w.heap.size w w1) => lex_any v n g 0 w1 (below_sl hb hv) (glo_below hG hb))
 have hg := hv.1
 have HGb := Lib.hid hg
 obtain ⟨a, cap, rfl, hcell⟩ := sl_open hv
 have HV := Lib.hid hcell
 have hnn : (n : Int) ≤ 140737488355328 := by have := hv.2.1; omega
 clear hv hG hcell hg
 go_enter Tryz.func8, Tryz.ntmps8
 go_wp2_with fail
 refine HA.out.mono ?_
 rintro e w1 ⟨rfl, hb1⟩
 go_wp2_with fail
 go_loopw [4] (fun iv wr => ∃ i : Nat, iv = .int .i64 i ∧ i ≤ n ∧ Hid (∀ j, j < i → plainB (g j)) ∧ Below w.heap.size w wr) (fun iv _ => n - (intOf iv).toNat)
 case atStart => exact ⟨0, rfl, Nat.zero_le _, Lib.hid (fun j hj => by omega), hb1⟩
 case round =>
   obtain ⟨i, rfl, hi, HP, hb⟩ := hrel
   by_cases hend : i = n
   · subst hend
     by_cases hbig : 1000 < i
     · have hbigI : (1000 : Int) < (i : Int) := by omega
       go_wp2_with fail
       go_ret
       exact ⟨rfl, hb⟩
     · have hbigI : ¬ (1000 : Int) < (i : Int) := by omega
       have HX := Lib.hid (lex_plain (n := i) HGb.out (by omega) HP.out)
       obtain ⟨T, hT⟩ : ∃ T, (List.range i).map (litT (ptOf g i 0)) = T := ⟨_, rfl⟩
       rw [hT] at HX
       have hlen : T.length = i := by rw [← hT]; simp
       have HT := Lib.hid (show ∀ j, j < i → T[j]? = some (litT (ptOf g i 0) j) from fun j hj => by rw [← hT]; simp [hj])
       clear hT
       go_wp2_with fail
       have HL2 := HL.out _ hb
       rw [HX.out] at HL2
       refine HL2.mono ?_
       clear HL2 HL HX HP
       rintro e w2 ⟨hb2, v2, rfl, hr⟩
       obtain ⟨va, vc, hv2, hc1, hc2, hcell⟩ := tok_cells hr
       rw [hlen] at hv2 hc1
       subst hv2
       have HC := Lib.hid hcell
       have HB := Lib.hid (below_trans hb hb2)
       clear hr hcell hlen
       go_wp2_with fail
       go_loopw [9] (fun iv wr => ∃ k : Nat, iv = .int .i64 k ∧ k ≤ i ∧ Below w2.heap.size w2 wr) (fun iv _ => i - (intOf iv).toNat)
       case atStart => exact ⟨0, rfl, Nat.zero_le _, Below.refl _ _⟩
       case round =>
         obtain ⟨k, rfl, hk, hbk⟩ := hrel
         by_cases hend : k = i
         · subst hend
           go_wp2_with fail
           go_ret
           exact ⟨rfl, below_trans HB.out hbk⟩
         · have hlt : k < i := by omega
           have ht := HT.out k hlt
           rcases HC.out with h0 | ⟨gb, rfl, hcell⟩
           · rw [h0] at ht; cases ht
           rcases HV.out with h0 | ⟨b, off, rfl, hbyte⟩
           · omega
           obtain ⟨sx, sy, hj⟩ := hcell k _ ht
           have c0 : wr.cell? ⟨gb, k * 12, none⟩ = some (.int .i64 1) := below_cell hbk (hj 0 (by decide))
           have c1 : wr.cell? ⟨gb, k * 12 + 1, none⟩ = some (.int .i64 k) := below_cell hbk (hj 1 (by decide))
           have c2 : wr.cell? ⟨gb, k * 12 + 2, none⟩ = some (.int .i64 (k + 1)) := by
             have := below_cell hbk (hj 2 (by decide))
             simpa [tkCells, litT] using this
           have c3 : wr.cell? ⟨gb, k * 12 + 3, none⟩ = some (.int .i64 (g k)) := below_cell hbk (hj 3 (by decide))
           have c4 : wr.cell? ⟨b, off + k, none⟩ = some (.int .u8 (g k)) := below_cell (below_trans HB.out hbk) (hbyte k hlt)
           obtain ⟨x0, x1⟩ := HGb.out k
           generalize g k = x at c3 c4 x0 x1
           have k0 := cell_regrown c0
           have k1 := cell_regrown c1
           have k2 := cell_regrown c2
           have k3 := cell_regrown c3
           have k4 := cell_regrown c4
           have hadd := add_row0 gb k 12
           have hadd2 := add_byte b off k
           have hk0 : (0 : Int) ≤ (k : Int) := by omega
           have hkL : (k : Int) < (i : Int) := by omega
           have e1 : ((k : Int) == (k : Int)) = true := by simp
           have e2 : (((k : Int) + 1) == ((k : Int) + 1)) = true := by simp
           have e3 : (x == x) = true := by simp
           clear hj ht hbyte hcell
           go_wp2_with fail
           refine wp_region_quiet_below (by kernel_rfl) (by kernel_rfl) ?_
           repeat (go_big_quiet_step (fail))
           refine wpQuiet_nil ?_
           intro _ hw'
           obtain ⟨⟨dq, osq⟩, hw''⟩ := hw'
           subst hw''
           have hbq := below_trans hbk (below_regrown wr dq osq)
           go_wp2_with fail
           go_roundw
           case rel => exact ⟨k + 1, by go_num, hlt, hbq⟩
           case measure => simp [intOf]; omega
   · have hlt : i < n := by omega
     rcases HV.out with h0 | ⟨b, off, rfl, hbyte⟩
     · omega
     have c4 : wr.cell? ⟨b, off + i, none⟩ = some (.int .u8 (g i)) := below_cell hb (hbyte i hlt)
     obtain ⟨x0, x1⟩ := HGb.out i
     have HS := Lib.hid (show plainB (g i) → ∀ j, j < i + 1 → plainB (g j) from fun h j hj => by
       by_cases e : j = i
       · subst e; exact h
       · exact HP.out j (by omega))
     generalize g i = x at c4 x0 x1 HS
     have hcs : (x < 48 ∧ x ≠ 32 ∧ x ≠ 44) ∨ (x = 32) ∨ (x = 44) ∨ (48 ≤ x ∧ x ≤ 57) ∨ (57 < x ∧ x < 65) ∨ (65 ≤ x ∧ x ≤ 90) ∨ (90 < x ∧ x < 97 ∧ x ≠ 93) ∨ (x = 93) ∨ (97 ≤ x ∧ x ≤ 122) ∨ (122 < x ∧ x ≠ 125) ∨ (x = 125) := by omega
     clear hbyte HP
     rcases hcs with ⟨h0, h1, h2⟩ | rfl | rfl | ⟨h0, h1⟩ | ⟨h0, h1⟩ | ⟨h0, h1⟩ | ⟨h0, h1, h2⟩ | rfl | ⟨h0, h1⟩ | ⟨h0, h1⟩ | rfl
     · have e32 : (x == 32) = false := by simp; omega
       have e44 : (x == 44) = false := by simp; omega
       have e93 : (x == 93) = false := by simp; omega
       have e125 : (x == 125) = false := by simp; omega
       go_wp2_with fail
       all_goals first | (go_ret; exact ⟨rfl, hb⟩) | (exfalso; omega) | (exfalso; rename_i hh; simp [bne, e32, e44, e93, e125] at hh <;> omega)
     · have HS2 := Lib.hid (HS.out (by unfold plainB; omega))
       clear HS
       go_wp2_with fail
       go_roundw
       case rel => exact ⟨i + 1, by go_num, hlt, HS2, hb⟩
       case measure => simp [intOf]; omega
     · have HS2 := Lib.hid (HS.out (by unfold plainB; omega))
       clear HS
       go_wp2_with fail
       go_roundw
       case rel => exact ⟨i + 1, by go_num, hlt, HS2, hb⟩
       case measure => simp [intOf]; omega
     · have HS2 := Lib.hid (HS.out (by unfold plainB; omega))
       clear HS
       go_wp2_with fail
       go_roundw
       case rel => exact ⟨i + 1, by go_num, hlt, HS2, hb⟩
       case measure => simp [intOf]; omega
     · have e32 : (x == 32) = false := by simp; omega
       have e44 : (x == 44) = false := by simp; omega
       have e93 : (x == 93) = false := by simp; omega
       have e125 : (x == 125) = false := by simp; omega
       go_wp2_with fail
       all_goals first | (go_ret; exact ⟨rfl, hb⟩) | (exfalso; omega) | (exfalso; rename_i hh; simp [bne, e32, e44, e93, e125] at hh <;> omega)
     · have HS2 := Lib.hid (HS.out (by unfold plainB; omega))
       clear HS
       go_wp2_with fail
       go_roundw
       case rel => exact ⟨i + 1, by go_num, hlt, HS2, hb⟩
       case measure => simp [intOf]; omega
     · have e32 : (x == 32) = false := by simp; omega
       have e44 : (x == 44) = false := by simp; omega
       have e93 : (x == 93) = false := by simp; omega
       have e125 : (x == 125) = false := by simp; omega
       go_wp2_with fail
       all_goals first | (go_ret; exact ⟨rfl, hb⟩) | (exfalso; omega) | (exfalso; rename_i hh; simp [bne, e32, e44, e93, e125] at hh <;> omega)
     · have HS2 := Lib.hid (HS.out (by unfold plainB; omega))
       clear HS
       go_wp2_with fail
       go_roundw
       case rel => exact ⟨i + 1, by go_num, hlt, HS2, hb⟩
       case measure => simp [intOf]; omega
     · have HS2 := Lib.hid (HS.out (by unfold plainB; omega))
       clear HS
       go_wp2_with fail
       go_roundw
       case rel => exact ⟨i + 1, by go_num, hlt, HS2, hb⟩
       case measure => simp [intOf]; omega
     · have e32 : (x == 32) = false := by simp; omega
       have e44 : (x == 44) = false := by simp; omega
       have e93 : (x == 93) = false := by simp; omega
       have e125 : (x == 125) = false := by simp; omega
       go_wp2_with fail
       all_goals first | (go_ret; exact ⟨rfl, hb⟩) | (exfalso; omega) | (exfalso; rename_i hh; simp [bne, e32, e44, e93, e125] at hh <;> omega)
     · have HS2 := Lib.hid (HS.out (by unfold plainB; omega))
       clear HS
       go_wp2_with fail
       go_roundw
       case rel => exact ⟨i + 1, by go_num, hlt, HS2, hb⟩
       case measure => simp [intOf]; omega
end Go.Proofs.YtgbnaolgmmnhhaaGreatDoor.tkw
end
