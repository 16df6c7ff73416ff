/- T -/
import Derived.BigQuiet
import Derived.Deep.Onto
import Derived.IntWalk
import Derived.Lib.QuietBelow
import Derived.Test.YtikjhfmmfpeaoaaGreatDoorBFs20
set_option maxHeartbeats 16000000
set_option maxRecDepth 1000000
namespace Go.Proofs.YtikjhfmmfpeaoaaGreatDoor
section
namespace rtw
open sq
open Go Go.RowKit Go.Maps utfp utfw ucdp setp setw prp tkp rtp
open tkw (sg sg_bd vJ jM qK tkR qO qM vI)
open Go.Sort
open tkw (yw tkA qO opt_bit tokRow_kept own_apart Kept Kept.of_below)
def LexB (w0 : World) (r : R (List Tk)) (e : Ending) (w' : World) : Prop := Below w0.heap.size w0 w' ∧ match r with
 | .error x => e = .returned (.tuple #[.slice none 0 0, .int .i64 x.1, .int .i64 x.2])
 | .ok T => ∃ v, e = .returned (.tuple #[v, .int .i64 0, .int .i64 0]) ∧ yw w' w0.heap.size v T
theorem str_size (n : Nat) (g : Nat → Int) : (strOf n g).size = n := by unfold strOf;show (strOfNums _).data.size = _;simp [strOfNums]
theorem sg_str {n : Nat} {g : Nat → Int} (hg : ∀ i, 0 ≤ g i ∧ g i ≤ 255) {i : Nat} (hi : i < n) : sg (strOf n g) i = g i := by
 have e : (strOf n g).data.toList[i]? = some (UInt8.ofNat (g i).toNat) := by unfold strOf;simp [strOfNums, hi]
 unfold sg;rw [List.getD_eq_getElem?_getD, e];have := hg i;simp only [Option.getD_some];have h2 : (UInt8.ofNat (g i).toNat).toNat = (g i).toNat := by rw [UInt8.toNat_ofNat'];omega
 rw [h2];omega
theorem sl_sg {w : World} {v : Value} {n : Nat} {g : Nat → Int} (h : Sl w v n g) : Sl w v n (sg (strOf n g)) := by
 obtain ⟨hg, hn, h⟩ := h;refine ⟨sg_bd _, hn, ?_⟩;rcases h with ⟨rfl, a0, c0, rfl, hc⟩ | ⟨b, off, cap, rfl, h1, hc⟩
 ·exact Or.inl ⟨rfl, a0, c0, rfl, hc⟩
 ·exact Or.inr ⟨b, off, cap, rfl, h1, fun i hi => by rw [sg_str hg hi]; exact hc i hi⟩
theorem wpList_append_t {ops : Array Oper} {rest : List Oper} {o : Oper} {a : Act} {w : World} {Q : Exit → Act → World → Prop} (hgd : o.guard = none) (s x : Operand)
 (ho : o.op = .call { callee := .builtin .append, args := #[s, x], argTypes := #[39, 39] }) (base : Nat) (tv : Value) (T : List Tk) (hs : a.eval s = tv) (hown : yw w base tv T)
 (v : Value) (t : Tk) (hv : OwnR w base v t.set) (B : Nat) (hx : a.eval x = .slice (some ⟨B, 0, none⟩) 1 1) (hB : B = w.heap.size) (hlen : T.length ≤ 100000) (hbase : base ≤ w.heap.size)
 (h : ∀ v' w', yw w' base v' (T ++ [t]) → Below base w w' → (∀ k, k < w.heap.size → tv.ownBlock ≠ some k → w'.heap[k]? = w.heap[k]?) → wpList Tryz.prog ops Q rest (a.put o.dst v') w') :
 wpList Tryz.prog ops Q (o :: rest) a (w.alloc (.cells (tkA v t) 68)) := by
 subst hB;obtain ⟨l, hl1, hl2, hl3⟩ := hown;have hll : l.length = T.length := by rw [← hl1, List.length_map]
 obtain ⟨i0, hi, hz0, hz1, hz2⟩ := info_parts tkw.vI;refine wpList_append_own _ hgd s x _ ho base 68 i0 _ 12 120 Tryz.underlying39 hi hz0 hz1 hz2 rfl (by decide) tv _ _ hs (World.ownsRow.alloc hl3 _) ⟨w.heap.size, 0, none⟩ 1 1 (qO v t) hx rfl ?_ ?_ (by unfold maxLen; omega) (by omega) (by rw [World.size_alloc]; omega) ?_
 ·intro j u hj;have hplain : (⟨w.heap.size, 0, none⟩ : Addr).add j = ⟨w.heap.size, j, none⟩ := by unfold Addr.add; split <;> simp_all
  rw [hplain, World.cell?_alloc_new, ← Array.getElem?_toList, tkw.tkA_cells];exact hj
 ·intro u hu;obtain ⟨x, y, rfl⟩ : ∃ x y, v = .slice x t.set.length y := qN hv;simp only [qO, List.mem_cons, dM, or_false] at hu;rcases hu with rfl | rfl | rfl | rfl | rfl | rfl | rfl | rfl | rfl | rfl | rfl | rfl <;> rfl
 ·intro v' w' hown' hgr _;have hlt := World.ownsRow.lt hl3;have hbw : Below base w w' := ((Below.refl base w).alloc hbase _).grown hgr (by rw [World.size_alloc]; omega) (fun k hk => (hlt k hk).1);refine h v' w' ⟨l ++ [(t, v)], by simp [hl1], fun p hp => ?_, ?_⟩ hbw (fun k hk hne => (hgr.block k (by rw [World.size_alloc]; omega) (fun e => hne e.symm)).trans (Below.heap_alloc _ _ _ hk))
  ·have hr : OwnR w base p.2 p.1.set := by
    rcases List.mem_append.1 hp with hp | hp
    ·exact hl2 p hp
    ·obtain rfl := List.mem_singleton.1 hp;exact hv
   exact ⟨World.ownsRow.kept (World.ownsRow.alloc hr.1 _) hgr (own_apart hr.1 hl3 (by decide)), hr.2⟩
  ·have e : ((l ++ [(t, v)]).flatMap fun p => qO p.2 p.1) = (l.flatMap fun p => qO p.2 p.1) ++ qO v t := by simp
   rw [e];simpa using hown'
theorem row_below {w w' : World} {base : Nat} {v : Value} {T : List Tk} (h : yw w base v T) (hb : Below w.heap.size w w') (h0 : 0 < base) : yw w' base v T := tokRow_kept h (Kept.of_below (L := 0) hb) h0
theorem row_block {w : World} {base : Nat} {v : Value} {T : List Tk} (h : yw w base v T) : v.ownBlock ≠ some w.heap.size := by obtain ⟨l, h1, h2, h3⟩ := h;intro e;exact absurd (World.ownsRow.lt h3 _ e).2 (Nat.lt_irrefl _)
theorem row_form {w : World} {b : Nat} {v : Value} {T : List Tk} (h : yw w b v T) : ∃ a n c, v = .slice a n c := by obtain ⟨l0, _, _, hl3⟩ := h;rcases hl3.2 with ⟨h, _⟩ | ⟨g, cap, cur, h, _⟩ <;> exact ⟨_, _, _, h⟩
theorem row_base {w : World} {b b' : Nat} {v : Value} {T : List Tk} (h : yw w b v T) (hb : b' ≤ b) : yw w b' v T := by obtain ⟨l, h1, h2, h3⟩ := h;exact ⟨l, h1, fun p hp => ⟨World.ownsRow.mono (h2 p hp).1 hb, (h2 p hp).2⟩, World.ownsRow.mono h3 hb⟩
theorem row_nil (w : World) (b : Nat) : yw w b (.slice none 0 0) [] := ⟨[], rfl, fun p hp => absurd hp (by simp), World.ownsRow_nil w b _ 12⟩
theorem wpList_load_tk {ops : Array Oper} {rest : List Oper} {o : Oper} {a : Act} {w : World} {Q : Exit → Act → World → Prop} (hgd : o.guard = none) (x : Operand) (ho : o.op = .load 68 x)
 (b : Nat) (hx : a.eval x = .pointer (some ⟨b, 0, none⟩)) (v : Value) (t : Tk) (hc : ∀ j u, (qO v t)[j]? = some u → w.cell? ⟨b, j, none⟩ = some u)
 (h : wpList Tryz.prog ops Q rest (a.put o.dst (.agg #[.int .i64 t.kind, .int .i64 t.at_, .int .i64 t.to, .int .i64 t.c, v, .bool t.neg, .int .i64 t.n, .int .i64 t.m, .int .i64 t.mode, .string t.name, .int .i64 t.on, .int .i64 t.off])) w) : wpList Tryz.prog ops Q (o :: rest) a w :=
 trw.wpList_load_at hgd 68 x ho ⟨b, 0, none⟩ hx (qO v t) _ (fun j u hj => by rw [trw.add_plain, Nat.zero_add]; exact hc j u hj) Tryz.underlying68 rfl (by kernel_rfl) h
def Nz (r : G) : Prop := ∀ x, r = .error x → x.1 ≠ 0
theorem jZ {t : Tk} {f b : Nat} : Nz (gtok t f b) := fun _ h => by cases h
theorem zu {a b : Int} (h : a ≠ 0) : Nz (.error (a, b)) := fun _ e => by cases e; exact h
theorem nz_if {c : Prop} [Decidable c] {a b : G} (h1 : Nz a) (h2 : Nz b) : Nz (if c then a else b) := by split <;> assumption
theorem nz_shut {p : Pt} {t : Tk} {f i : Nat} {s : List UInt8} {e : Int} (h : e ≠ 0) : Nz (shutR p t f i s e) := by
 unfold shutR
 repeat' (first | exact jZ | exact zu (by first | exact h | decide) | split)
theorem nz_call {p : Pt} {t : Tk} {f i : Nat} {s : List UInt8} : Nz (callR p t f i s) := by
 unfold callR
 repeat' (first | exact jZ | exact zu (by decide) | split)
theorem nz_back {p : Pt} {i z : Nat} : ∀ l, Nz (backR p i z l)
 | [] => zu (by decide)
 | (a, b) :: l => by
  rw [backR]
  repeat' (first | exact jZ | exact nz_back l | split)
theorem nz_ref {p : Pt} {f i : Nat} : Nz (refR p f i) := by
 unfold refR;simp only
 repeat' (first | exact jZ | exact zu (by decide) | split)
theorem nz_many {p : Pt} {c : Int} {i : Nat} {x : Int} (h : many p c i = .error x) : x ≠ 0 := by rw [many_err h]; decide
theorem nz_esc {p : Pt} {i : Nat} : Nz (escR p i) := by
 rw [escR_eq];refine nz_if (zu (by decide)) (nz_if jZ (nz_if ?_ (nz_if jZ (nz_if jZ (nz_if jZ (nz_if jZ (nz_if ?_ (nz_if (nz_if (zu (by decide)) jZ) (nz_if nz_ref (nz_if (nz_back _) ?_))))))))))
 ·cases hexz p (p.char (i + 1)).2 with
  | none => exact zu (by decide)
  | some q => exact jZ
 ·intro x h; cases h
 ·cases hm : many p (p.char (i + 1)).1 (p.char (i + 1)).2 with
  | error x => exact zu (nz_many hm)
  | ok o =>
   cases o with
   | none => exact nz_if (zu (by decide)) jZ
   | some q => exact jZ
theorem nz_item {p : Pt} {k : Nat} {x : Int × Int} (h : itemR p k = .error x) : x.1 ≠ 0 := by
 unfold itemR at h;split at h
 ·split at h
  ·cases h
  ·cases h; simp
 ·unfold itemC at h;split at h
  ·split at h
   ·cases h; simp
   ·unfold itemE at h;simp only at h;split at h
    ·split at h
     ·cases h; simp
     ·cases h
    ·split at h
     ·cases h
     ·split at h
      ·cases h
      ·split at h
       ·rename_i e he;cases h;exact nz_many he
       ·cases h
       ·split at h
        ·cases h; simp
        ·cases h
  ·cases h
theorem nz_range {p : Pt} {k : Nat} {x : Int × Int} (h : rangeR p k = .error x) : x.1 ≠ 0 := by
 unfold rangeR at h;split at h
 ·rename_i e he;cases h;exact nz_item he
 ·split at h
  ·split at h
   ·rename_i e he;cases h;exact nz_item he
   ·split at h
    ·cases h; simp
    ·cases h
  ·cases h
theorem nz_clsL {p : Pt} {first : Nat} {x : Int × Int} : ∀ (k : Nat) (all : List Rg) (i : Nat), clsL p first k all i = .error x → x.1 ≠ 0
 | 0, _, _, h => by cases h; simp
 | k + 1, all, i, h => by
  rw [clsL] at h;split at h
  ·cases h; simp
  ·split at h
   ·cases h
   ·split at h
    ·rename_i e he;cases h;exact nz_range he
    ·exact nz_clsL k _ _ h
theorem nz_cls {p : Pt} {f : Nat} : Nz (clsR p f) := by
 intro x h;unfold clsR at h;simp only at h;split at h
 ·rename_i e he;cases h;exact nz_clsL _ _ _ he
 ·cases h
theorem nz_flag {p : Pt} {f : Nat} : ∀ (k i : Nat) (off : Bool) (on of_ : Int), Nz (flagR p f k i off on of_)
 | 0, _, _, _, _ => zu (by decide)
 | k + 1, i, off, on, of_ => by
  rw [flagR]
  repeat' (first | exact jZ | exact zu (by decide) | exact nz_flag _ _ _ _ _ | split)
theorem nz_condE {p : Pt} {f b : Nat} {t : Tk} {ok : Bool} : Nz (condE p f t b ok) := by
 unfold condE
 repeat' (first | exact jZ | exact zu (by decide) | split)
theorem nz_cond {p : Pt} {f i : Nat} : Nz (condR p f i) := by
 unfold condR condN
 repeat' (first | exact jZ | exact nz_condE | exact zu (by decide) | split)
theorem nz_verb {p : Pt} {f : Nat} : Nz (verbR p f) := by
 unfold verbR verbG
 repeat' (first | exact jZ | exact zu (by decide) | split)
theorem nz_num {p : Pt} {f i : Nat} : Nz (numR p f i) := by
 intro x h;unfold numR at h;simp only at h;split at h
 ·cases h; simp
 ·split at h
  ·split at h <;> (cases h; simp)
  ·split at h
   ·rename_i e he;cases h;exact nz_shut (by decide) _ he
   ·split at h
    ·cases h; simp
    ·cases h
theorem nz_kind {p : Pt} {f i : Nat} {g : G} : ∀ l : List (List UInt8 × Int), kindR p f i l = some g → Nz g
 | [], h => by cases h
 | (s, k) :: l, h => by
  rw [kindR] at h;split at h
  ·cases h; exact jZ
  ·exact nz_kind l h
theorem nz_open {p : Pt} {f : Nat} : Nz (openR p f) := by
 unfold openR;split
 ·exact nz_verb
 split
 ·exact jZ
 split
 ·exact zu (by decide)
 split
 ·rename_i g hg;exact nz_kind _ hg
 ·unfold openK;refine nz_if ?_ (nz_if nz_call (nz_if nz_call (nz_if nz_call (nz_if nz_call (nz_if nz_call (nz_if nz_call (nz_if (nz_shut (by decide)) (nz_if (nz_if (zu (by decide)) (nz_shut (by decide))) (nz_if nz_cond (nz_if nz_num (nz_flag _ _ _ _ _)))))))))));cases p.until 41 (f + 2) with
  | none => exact zu (by decide)
  | some j => intro x h; cases h
theorem nz_quan {p : Pt} {i b : Nat} {n m : Int} : Nz (quan p i b n m) := jZ
theorem nz_token {p : Pt} {i : Nat} : Nz (tokR p i) := by
 rw [tokR_eq];refine nz_if ?_ (nz_if ?_ (nz_if nz_esc (nz_if nz_cls (nz_if nz_open (nz_if jZ (nz_if jZ (nz_if jZ (nz_if jZ (nz_if jZ (nz_if nz_quan (nz_if nz_quan (nz_if nz_quan (nz_if ?_ jZ)))))))))))))
 ·intro x h; cases h
 ·intro x h; cases h
 ·cases bracR p i with
  | none => exact jZ
  | some q => exact nz_if (zu (by decide)) (nz_if (zu (by decide)) nz_quan)
def LxRel (w : World) (B : Nat) (S : ByteArray) (p : Pt) (r : R (List Tk)) (vo vi vq : Value) (wr : World) : Prop :=
 ∃ (k i : Nat) (q : Bool) (T : List Tk), i ≤ S.size ∧ S.size < i + k ∧ vi = .int .i64 i ∧ vq = .bool q ∧ T.length ≤ i ∧ Hid (yw wr (B + 1) vo T) ∧ Hid (lexF p k q T i = r) ∧ Hid (FR w B S p wr)
theorem FR.poke {w W W' : World} {B : Nat} {S : ByteArray} {p : Pt} (h : FR w B S p W) (hb : Below (B + 1) W W') : FR w B S p W' := ⟨h.hB, h.below.trans (hb.mono (by omega)), h.x.below hb (by omega)⟩
theorem rlex_any (v : Value) (n : Nat) (g : Nat → Int) (o : Int) (w : World) (hv : Sl w v n g) : Calls Tryz.prog 17 #[v, .int .i64 o] w (LexB w (rlexP (sg (strOf n g)) n o)) := by
 obtain ⟨a, cap, rfl⟩ : ∃ a c, v = .slice a n c := by
  obtain ⟨_, _, ⟨rfl, a, c, hv, _⟩ | ⟨b, off, cap, hv, _⟩⟩ := hv
  ·exact ⟨_, _, hv⟩
  ·exact ⟨_, _, hv⟩
 by_cases h0 : o < 0 ∨ 65535 < o
 ·have HR := xH (show rlexP (sg (strOf n g)) n o = .error (1, 0) by unfold rlexP; rw [if_pos h0]);rcases (show o < 0 ∨ (0 ≤ o ∧ 65535 < o) by omega) with h | ⟨h, h2⟩
  all_goals
   clear h0 hv;go_enter Tryz.func17, Tryz.ntmps17;go_wp2_with fail
   go_ret3
   rw [HR.out];exact ⟨Below.refl _ _, rfl⟩
 have ho0 : 0 ≤ o := by omega
 have ho1 : o ≤ 65535 := by omega
 by_cases h1 : 1000 < n
 ·have HR := xH (show rlexP (sg (strOf n g)) n o = .error (10, 1000) by unfold rlexP; rw [if_neg h0, if_pos h1]);have hn1 : (1000 : Int) < (n : Int) := by omega
  clear h0 hv;go_enter Tryz.func17, Tryz.ntmps17;go_wp2_with fail
  go_ret3
  rw [HR.out];exact ⟨Below.refl _ _, rfl⟩
 have hn1 : ¬ (1000 : Int) < (n : Int) := by omega
 have hu := opt_bit o ho0 ho1 5 (by decide);have hx := opt_bit o ho0 ho1 3 (by decide);rw [show (((2 ^ 5 : Nat) : Int)) = 32 by decide] at hu;rw [show (((2 ^ 3 : Nat) : Int)) = 8 by decide] at hx;have hcv := conv_sl hv;have HV := xH (fun W (hb : Below w.heap.size w W) => rvalid_any (.slice a n cap) n (sg (strOf n g)) W (below_sl hb (sl_sg hv)));have hsz := str_size n g;have hR0 : rlexP (sg (strOf n g)) n o = (if o.toNat.testBit 5 = true ∧ (validP (sg (strOf n g)) n).2 = false then .error (13, (validP (sg (strOf n g)) n).1) else lexF { g := sg (strOf n g), n := n, u := o.toNat.testBit 5, x := o.toNat.testBit 3 } (n + 1) false [] 0) := by unfold rlexP; rw [if_neg h0, if_neg h1]
 have HR0 := xH hR0;have hP : Pat (strOf n g) { g := sg (strOf n g), n := n, u := o.toNat.testBit 5, x := o.toNat.testBit 3 } := ⟨rfl, hsz.symm, by rw [hsz]; omega⟩;have HP := xH hP;have HSZ := xH hsz;clear hR0 hP hsz h0 hv;generalize strOf n g = S at *;generalize o.toNat.testBit 3 = bx at *;generalize o.toNat.testBit 5 = bu at *;have hsz := HSZ.out;subst hsz;generalize rlexP (sg S) S.size o = R at *;have HRA := xH (heap_alloc_new w (.cells #[.string S, .bool bu, .bool bx, .int .i64 255] 61));have hbw0 := qK w (.cells #[.string S, .bool bu, .bool bx, .int .i64 255] 61);have cu : (w.alloc (.cells #[.string S, .bool bu, .bool bx, .int .i64 255] 61)).cell? ⟨w.heap.size, 1, none⟩ = some (.bool bu) := by unfold World.cell?; simp only [HRA.out]; rfl
 have cm : (w.alloc (.cells #[.string S, .bool bu, .bool bx, .int .i64 255] 61)).cell? ⟨w.heap.size, 3, none⟩ = some (.int .i64 255) := by unfold World.cell?; simp only [HRA.out]; rfl
 have cf : (w.alloc (.cells #[.string S, .bool bu, .bool bx, .int .i64 255] 61)).frozen? ⟨w.heap.size, 3, none⟩ = false := by unfold World.frozen?; simp only [HRA.out]; rfl
 go_enter Tryz.func17, Tryz.ntmps17;go_upto_if 35 with (fail)
 generalize w.alloc (.cells #[.string S, .bool bu, .bool bx, .int .i64 255] 61) = W at *;have HB0 := xH hbw0;obtain ⟨B, hB⟩ : ∃ B, w.heap.size = B := ⟨_, rfl⟩;rw [hB] at HRA cu cm cf hbw0 ⊢;have HBB := xH hB;clear hB hbw0;go_cut [8, 9] (fun v8 v9 wx => ∃ p : Pt, Hid (Pat S p) ∧ Hid (R = lexF p (S.size + 1) false [] 0) ∧ Hid (FR w B S p wx))
 case first =>
  cases bu with
  | false =>
   go_wp2_with fail
   go_meet
   exact ⟨_, HP, xH (HR0.out.trans (if_neg (by simp))), xH ⟨HBB.out, by rw [← HBB.out]; exact HB0.out, ⟨HRA.out⟩⟩⟩
  | true =>
   have hb1 : Below w.heap.size w (W.setCell ⟨B, 3, none⟩ (.int .i64 1114111)) := HB0.out.trans ((Below.refl w.heap.size W).setCell (p := ⟨B, 3, none⟩) (by show w.heap.size ≤ B; have := HBB.out; omega) _);have HRB := xH (tkw.heap_set (o := 3) (v := .int .i64 1114111) HRA.out);have HB1 := xH hb1;clear hb1;go_wp2_with fail
   refine (HV.out _ HB1.out).mono ?_;generalize validP (sg S) S.size = vq at *;obtain ⟨q1, q2⟩ := vq;rintro e w2 ⟨rfl, hb2⟩;cases q2 with
   | false =>
    have HR := xH (HR0.out.trans (if_pos (by simp)));go_wp2_with fail
    go_ret3
    rw [HR.out];exact ⟨HB1.out.trans (hb2.mono HB1.out.size), rfl⟩
   | true =>
    go_wp2_with fail
    go_meet
    exact ⟨_, HP, xH (HR0.out.trans (if_neg (by simp))), xH ⟨HBB.out, by rw [← HBB.out]; exact HB1.out.trans (hb2.mono HB1.out.size), ⟨qQ HRB.out hb2⟩⟩⟩
 case rest =>
  obtain ⟨p, HP, HRL, FC⟩ := hcut;have HN := xH HP.out.n;have h2 := HP.out.le;clear cu cm cf HRA HV HB0;obtain ⟨c0, c1, c2, c3⟩ := FC.out.c;go_wp2_with fail
  go_loopw [10, 11, 12] (fun vo vi vq wr => LxRel w B S p R vo vi vq wr) (fun _ vi _ _ => S.size - (intOf vi).toNat)
  case atStart => exact ⟨S.size + 1, 0, false, [], Nat.zero_le _, by omega, rfl, rfl, xL _, xH (row_nil _ _), xH HRL.out.symm, FC⟩
  case round =>
   obtain ⟨k, i, q, T, hi, hk, rfl, rfl, hT, HT, HL, F1⟩ := hrel;clear FC c0 c1 c2 c3;obtain ⟨c0, c1, c2, c3⟩ := F1.out.c;by_cases hlt : i < S.size;case neg =>
    have HR := xH (show R = .ok T by
     have hl := HL.out;cases k with
     | zero => omega
     | succ k => rw [lexF, if_pos (by rw [HN.out]; omega)] at hl; exact hl.symm)
    have hlti : ¬ (i : Int) < (S.size : Int) := by omega
    obtain ⟨va, vn, vc, rfl⟩ := row_form HT.out;go_wp2_with fail
    go_ret3
    rw [HR.out];exact ⟨F1.out.bel, _, rfl, row_base HT.out (by have := F1.out.hB; omega)⟩
   have hlti : (i : Int) < (S.size : Int) := by omega
   obtain ⟨k, rfl⟩ : ∃ k', k = k' + 1 := ⟨k - 1, by omega⟩;have HL1 := xH (HL.out.symm.trans (show lexF p (k + 1) q T i = _ by rw [lexF, if_neg (by rw [HN.out]; omega)]));clear HL;have hB1 : B + 1 ≤ wr.heap.size := by have := F1.out.x.lt; omega
   cases q with
   | true =>
    have HL2 := xH (HL1.out.trans (if_pos rfl));clear HL1;go_wp2_with fail
    refine xM (qG S p _ HP.out i (by omega) [92, 69] ⟨#[92, 69]⟩ rfl (by decide) (Or.inr (by simp))) ?_;rintro e w2 ⟨rfl, hb⟩;have F2 := xH (F1.out.step hb);have HT2 := xH (row_below HT.out hb (Nat.succ_pos B));clear hb c0 c1 c2 c3;obtain ⟨c0, c1, c2, c3⟩ := F2.out.c;cases hE : p.has [92, 69] i with
    | true =>
     have hin := qR HP.out hE;rw [HN.out] at hin;simp only [dB, dA] at hin;go_wp2_with fail
     exact ⟨⟨k, i + 2, false, T, by omega, by omega, by simp, rfl, by omega, HT2, xH (HL2.out.trans (if_pos hE)).symm, F2⟩, by simp [intOf]; omega⟩
    | false =>
     have HL3 := xH (HL2.out.trans (if_neg (by simp [hE])));clear HL2;go_wp2_with fail
     refine xM (char_any S p _ HP.out i (by rw [HN.out]; exact hlt)) ?_;rintro e w3 ⟨rfl, hb⟩;have F3 := xH (F2.out.step hb);have HT3 := xH (row_below HT2.out hb (Nat.succ_pos B));clear hb c0 c1 c2 c3;obtain ⟨c0, c1, c2, c3⟩ := F3.out.c;obtain ⟨z1, z2⟩ := zM HP.out (a := i) (by rw [HN.out]; exact hlt);rw [HN.out] at z2;generalize (p.char i).1 = c at *;generalize (p.char i).2 = z at *;have hB3 : B + 1 ≤ w3.heap.size := by have := F3.out.x.lt; omega
     go_wp2_with (at_builtin; refine wpList_append_t rfl _ _ rfl (B + 1) u10 T rfl HT3.out (.slice none 0 0) { kind := 1, at_ := i, «to» := z, c := c } (qm _ _) _ rfl rfl (by omega) hB3 ?_; intro v4 w4 h4 hb4 _; have HT4 := xH h4; have HB4 := xH hb4; clear h4 hb4)
     exact ⟨⟨k, z, true, T ++ [{ kind := 1, at_ := i, «to» := z, c := c }], z2, by omega, rfl, rfl, by rw [List.length_append]; simp only [dB, dA]; omega, HT4, xH HL3.out.symm, xH (F3.out.poke HB4.out)⟩, by simp [intOf]; omega⟩
   | false =>
    have HL2 := xH (HL1.out.trans (if_neg (by simp)));clear HL1;go_wp2_with fail
    refine xM (qG S p _ HP.out i (by omega) [92, 81] ⟨#[92, 81]⟩ rfl (by decide) (Or.inr (by simp))) ?_;rintro e w2 ⟨rfl, hb⟩;have F2 := xH (F1.out.step hb);have HT2 := xH (row_below HT.out hb (Nat.succ_pos B));clear hb c0 c1 c2 c3;obtain ⟨c0, c1, c2, c3⟩ := F2.out.c;cases hE : p.has [92, 81] i with
    | true =>
     have hin := qR HP.out hE;rw [HN.out] at hin;simp only [dB, dA] at hin;go_wp2_with fail
     exact ⟨⟨k, i + 2, true, T, by omega, by omega, by simp, rfl, by omega, HT2, xH (HL2.out.trans (if_pos hE)).symm, F2⟩, by simp [intOf]; omega⟩
    | false =>
     have HL3 := xH (HL2.out.trans (if_neg (by simp [hE])));clear HL2;go_wp2_with fail
     have HM := token_any S p w2 HP.out i (by rw [HN.out]; exact hlt);cases hr : tokR p i with
     | error x =>
      have hx := nz_token _ hr;have HR := xH (HL3.out.trans (show _ = Except.error x by rw [hr]));obtain ⟨x1, x2⟩ := x;simp only at hx;have bx1 : (x1 != 0) = true := by simpa using hx
      rw [hr] at HM;refine xM HM ?_;rintro e w3 ⟨v, rfl, ho, hb⟩;have F3 := xH (F2.out.step hb);obtain ⟨y1, y2, rfl⟩ := qN ho;have hbw := qK w3 (.cells (gtC (.slice y1 ([] : List Rg).length y2) (.error (x1, x2))) 70);have hgn := heap_alloc_new w3 (.cells (gtC (.slice y1 ([] : List Rg).length y2) (.error (x1, x2))) 70);have F4 := xH (F3.out.step hbw);have ce : (w3.alloc (.cells (gtC (.slice y1 ([] : List Rg).length y2) (.error (x1, x2))) 70)).cell? ⟨w3.heap.size, 14, none⟩ = some (.int .i64 x1) := by unfold World.cell?; rw [hgn]; rfl
      have ca : (w3.alloc (.cells (gtC (.slice y1 ([] : List Rg).length y2) (.error (x1, x2))) 70)).cell? ⟨w3.heap.size, 15, none⟩ = some (.int .i64 x2) := by unfold World.cell?; rw [hgn]; rfl
      simp only [gtC, gtS, dA] at ce ca hbw hgn F4 ⊢;clear hb ho hr HM;go_wp2_with fail
      go_quiet (fail)
      rename_i nq;go_wp2_with fail
      go_ret3
      rw [HR.out];exact ⟨tkw.zI F4.out.bel _, rfl⟩
     | ok y =>
      obtain ⟨o1, z⟩ := y;obtain ⟨z1, z2⟩ := tokR_bd HP.out (by rw [HN.out]; exact hlt) hr;rw [HN.out] at z2;rw [hr] at HM;cases o1 with
      | none =>
       have HR := xH (HL3.out.trans (show _ = lexF p k false T z by rw [hr]));refine xM HM ?_;rintro e w3 ⟨v, rfl, ho, hb⟩;have F3 := xH (F2.out.step hb);have HT3 := xH (row_below HT2.out hb (Nat.succ_pos B));obtain ⟨y1, y2, rfl⟩ := qN ho;have hbw := qK w3 (.cells (gtC (.slice y1 ([] : List Rg).length y2) (.ok (none, z))) 70);have hgn := heap_alloc_new w3 (.cells (gtC (.slice y1 ([] : List Rg).length y2) (.ok (none, z))) 70);have F4 := xH (F3.out.step hbw);have HT4 := xH (row_below HT3.out hbw (Nat.succ_pos B));have ce : (w3.alloc (.cells (gtC (.slice y1 ([] : List Rg).length y2) (.ok (none, z))) 70)).cell? ⟨w3.heap.size, 14, none⟩ = some (.int .i64 0) := by unfold World.cell?; rw [hgn]; rfl
       have cs : (w3.alloc (.cells (gtC (.slice y1 ([] : List Rg).length y2) (.ok (none, z))) 70)).cell? ⟨w3.heap.size, 12, none⟩ = some (.bool false) := by unfold World.cell?; rw [hgn]; rfl
       have ct : (w3.alloc (.cells (gtC (.slice y1 ([] : List Rg).length y2) (.ok (none, z))) 70)).cell? ⟨w3.heap.size, 13, none⟩ = some (.int .i64 z) := by unfold World.cell?; rw [hgn]; rfl
       simp only [gtC, gtS, dA] at ce cs ct hbw hgn F4 HT4 ⊢;clear hb ho hr HM;go_wp2_with fail
       exact ⟨⟨k, z, false, T, z2, by omega, rfl, rfl, by omega, HT4, xH HR.out.symm, F4⟩, by simp [intOf]; omega⟩
      | some t =>
       have HR := xH (HL3.out.trans (show _ = lexF p k false (T ++ [t]) z by rw [hr]));refine xM HM ?_;rintro e w3 ⟨v, rfl, ho, hb⟩;have F3 := xH (F2.out.step hb);have HT3 := xH (row_below HT2.out hb (Nat.succ_pos B));have HO3 := xH (qM ho (show B + 1 ≤ w2.heap.size by have := F2.out.x.lt; omega));obtain ⟨y1, y2, rfl⟩ := qN ho;have hbw := qK w3 (.cells (gtC (.slice y1 t.set.length y2) (.ok (some t, z))) 70);have hgn := heap_alloc_new w3 (.cells (gtC (.slice y1 t.set.length y2) (.ok (some t, z))) 70);have F4 := xH (F3.out.step hbw);have HT4 := xH (row_below HT3.out hbw (Nat.succ_pos B));have HO4 := xH (jG HO3.out hbw);have HCT := xH (fun (j : Nat) (u : Value) (hj : (qO (.slice y1 t.set.length y2) t)[j]? = some u) => show (w3.alloc (.cells (gtC (.slice y1 t.set.length y2) (.ok (some t, z))) 70)).cell? ⟨w3.heap.size, j, none⟩ = some u by
        have hj12 : j < 12 := by have := (List.getElem?_eq_some_iff.1 hj).1;simpa [qO] using this
        obtain rfl | rfl | rfl | rfl | rfl | rfl | rfl | rfl | rfl | rfl | rfl | rfl : j = 0 ∨ j = 1 ∨ j = 2 ∨ j = 3 ∨ j = 4 ∨ j = 5 ∨ j = 6 ∨ j = 7 ∨ j = 8 ∨ j = 9 ∨ j = 10 ∨ j = 11 := by omega
        all_goals (simp only [World.cell?, hgn]; simpa [gtC, qO] using hj))
       have ce : (w3.alloc (.cells (gtC (.slice y1 t.set.length y2) (.ok (some t, z))) 70)).cell? ⟨w3.heap.size, 14, none⟩ = some (.int .i64 0) := by unfold World.cell?; rw [hgn]; rfl
       have cs : (w3.alloc (.cells (gtC (.slice y1 t.set.length y2) (.ok (some t, z))) 70)).cell? ⟨w3.heap.size, 12, none⟩ = some (.bool true) := by unfold World.cell?; rw [hgn]; rfl
       have ct : (w3.alloc (.cells (gtC (.slice y1 t.set.length y2) (.ok (some t, z))) 70)).cell? ⟨w3.heap.size, 13, none⟩ = some (.int .i64 z) := by unfold World.cell?; rw [hgn]; rfl
       simp only [gtC, gtS] at ce cs ct hbw hgn F4 HT4 HO4 HCT ⊢;have hB4 : B + 1 ≤ (w3.alloc (.cells (gtC (.slice y1 t.set.length y2) (.ok (some t, z))) 70)).heap.size := by rw [World.size_alloc]; have := F3.out.x.lt; omega
       simp only [gtC] at hB4;clear hb ho hr HM;go_upto_region 29 with (fail)
       go_wp2_with (first
        | (refine wpList_load_tk rfl _ rfl w3.heap.size rfl (.slice y1 t.set.length y2) t HCT.out ?_)
        | (at_builtin; refine wpList_append_t rfl _ _ rfl (B + 1) u10 T rfl HT4.out (.slice y1 t.set.length y2) t HO4.out _ rfl (World.size_alloc ..).symm (by omega) hB4 ?_; intro v5 w5 h5 hb5 hk5; have HT5 := xH h5; have HB5 := xH hb5; have cg := hk5 w3.heap.size (by rw [World.size_alloc]; omega) (row_block HT3.out); have ct5 : w5.cell? ⟨w3.heap.size, 13, none⟩ = some (.int .i64 (z : Int)) := (by unfold World.cell?; rw [cg, hgn]; rfl); clear h5 hb5 hk5 cg))
       exact ⟨⟨k, z, false, T ++ [t], z2, by omega, rfl, rfl, by rw [List.length_append]; simp only [dB, dA]; omega, HT5, xH HR.out.symm, xH (F4.out.poke HB5.out)⟩, by simp [intOf]; omega⟩
end rtw
end
section
namespace rtw
open sq
open Go utfp ucdp setp prp tkp rtp
def GE {α : Type} (r : R α) : Prop := ∀ e, r = .error e → e.1 ≠ 0
theorem jq {α : Type} {e : Int × Int} (h : e.1 ≠ 0) : GE (.error e : R α) := fun e' h' => by cases h'; exact h
theorem ge_ok {α : Type} (x : α) : GE (.ok x : R α) := fun e h => by cases h
theorem zL (t : Tk) (f b : Nat) : GE (gtok t f b) := fun e h => by unfold gtok at h; cases h
theorem jD {α : Type} {c : Prop} [Decidable c] {a b : R α} (h1 : GE a) (h2 : GE b) : GE (if c then a else b) := by
 by_cases h : c
 ·rw [if_pos h]; exact h1
 ·rw [if_neg h]; exact h2
theorem refR_e (p : Pt) (f i : Nat) : GE (refR p f i) := by
 unfold refR;simp only
 repeat' (first | exact zL _ _ _ | exact jq (by simp) | refine jD ?_ ?_)
theorem backR_e (p : Pt) (i to_ : Nat) : ∀ l, GE (backR p i to_ l)
 | [] => jq (by simp)
 | (o, z) :: l => by
  rw [backR]
  repeat' (first | exact zL _ _ _ | exact backR_e p i to_ l | refine jD ?_ ?_)
theorem many_e {p : Pt} {c : Int} {i : Nat} {e : Int} (h : many p c i = .error e) : e ≠ 0 := by
 unfold many at h;split at h
 ·split at h
  ·cases h; decide
  ·split at h
   ·cases h
   ·cases h; decide
 ·split at h <;> cases h
theorem escR_e (p : Pt) (i : Nat) : GE (escR p i) := by
 rw [escR_eq]
 repeat' (first | exact zL _ _ _ | exact ge_ok _ | exact jq (by simp) | exact refR_e _ _ _ | exact backR_e _ _ _ _ | refine jD ?_ ?_)
 ·split
  ·exact jq (by simp)
  ·exact zL _ _ _
 ·split
  ·rename_i e he;exact jq (many_e he)
  ·exact zL _ _ _
  ·repeat' (first | exact zL _ _ _ | exact jq (by simp) | refine jD ?_ ?_)
theorem itemE_e (p : Pt) (i b : Nat) : GE (itemE p i b) := by
 unfold itemE;simp only
 repeat' (first | exact ge_ok _ | exact jq (by simp) | refine jD ?_ ?_)
 ·split
  ·exact jq (by simp)
  ·exact ge_ok _
 ·split
  ·rename_i e he;exact jq (many_e he)
  ·exact ge_ok _
  ·repeat' (first | exact ge_ok _ | exact jq (by simp) | refine jD ?_ ?_)
theorem itemR_e (p : Pt) (i : Nat) : GE (itemR p i) := by
 unfold itemR itemC
 repeat' (first | exact ge_ok _ | exact jq (by simp) | exact itemE_e _ _ _ | refine jD ?_ ?_)
theorem rangeR_e (p : Pt) (i : Nat) : GE (rangeR p i) := by
 have h1 := itemR_e p i;unfold rangeR;split
 ·rename_i e he;exact jq (h1 _ he)
 ·rename_i l s to_ _;have h2 := itemR_e p (to_ + 1);refine jD ?_ (ge_ok _);split
  ·rename_i e he;exact jq (h2 _ he)
  ·exact jD (jq (by simp)) (ge_ok _)
theorem clsL_e (p : Pt) (first : Nat) : ∀ (k : Nat) (all : List Rg) (i : Nat), GE (clsL p first k all i)
 | 0, _, _ => jq (by simp)
 | k + 1, all, i => by
  have h1 := rangeR_e p i;rw [clsL];refine jD (jq (by simp)) (jD (ge_ok _) ?_);split
  ·rename_i e he;exact jq (h1 _ he)
  ·exact clsL_e p first k _ _
theorem clsR_e (p : Pt) (f : Nat) : GE (clsR p f) := by
 have h := clsL_e p (if p.has [94] (f + 1) = true then f + 2 else f + 1) (p.n + 1 - (if p.has [94] (f + 1) = true then f + 2 else f + 1)) [] (if p.has [94] (f + 1) = true then f + 2 else f + 1);unfold clsR;simp only;split
 ·rename_i e he;exact jq (h _ he)
 ·exact zL _ _ _
theorem shutR_e (p : Pt) (t : Tk) (f i : Nat) (s : List UInt8) : GE (shutR p t f i s 26) := by
 unfold shutR
 repeat' (first | exact zL _ _ _ | exact jq (by simp) | refine jD ?_ ?_)
theorem callR_e (p : Pt) (t : Tk) (f i : Nat) (s : List UInt8) : GE (callR p t f i s) := by
 unfold callR
 repeat' (first | exact zL _ _ _ | exact jq (by simp) | refine jD ?_ ?_)
theorem flagR_e (p : Pt) (f : Nat) : ∀ (k i : Nat) (off : Bool) (on of_ : Int), GE (flagR p f k i off on of_)
 | 0, _, _, _, _ => jq (by simp)
 | k + 1, i, off, on, of_ => by
  rw [flagR]
  repeat' (first | exact zL _ _ _ | exact jq (by simp) | exact flagR_e p f k _ _ _ _ | refine jD ?_ ?_)
theorem condE_e (p : Pt) (f : Nat) (t : Tk) (to_ : Nat) (ok : Bool) : GE (condE p f t to_ ok) := by
 unfold condE
 repeat' (first | exact zL _ _ _ | exact jq (by simp) | refine jD ?_ ?_)
theorem condR_e (p : Pt) (f i : Nat) : GE (condR p f i) := by
 unfold condR condN
 repeat' (first | exact zL _ _ _ | exact jq (by simp) | exact condE_e _ _ _ _ _ | refine jD ?_ ?_)
theorem verbR_e (p : Pt) (f : Nat) : GE (verbR p f) := by
 have hv : ∀ (f i : Nat) (word arg : ByteArray) (wth : Bool), GE (verbG f i word arg wth) := fun f i word arg wth => by
  unfold verbG
  repeat' (first | exact zL _ _ _ | exact jq (by simp) | refine jD ?_ ?_)
 unfold verbR;split
 ·exact jq (by simp)
 ·split
  ·exact hv _ _ _ _ _
  ·exact hv _ _ _ _ _
theorem kindR_e (p : Pt) (f i : Nat) : ∀ (l : List (List UInt8 × Int)), ∀ g, kindR p f i l = some g → GE g
 | [], g, h => by cases h
 | (s, k) :: l, g, h => by
  rw [kindR] at h;split at h
  ·cases h;exact zL _ _ _
  ·exact kindR_e p f i l g h
theorem numR_e (p : Pt) (f i : Nat) : GE (numR p f i) := by
 have h1 := shutR_e p { kind := 12, n := (sgn p i).1, m := (sgn p i).2.1 } f (sgn p i).2.2.1 [41];unfold numR;simp only;refine jD (jq (by simp)) (jD (jD (jq (by simp)) (jq (by simp))) ?_);split
 ·rename_i e he;exact jq (h1 _ he)
 ·exact jD (jq (by simp)) (ge_ok _)
theorem openK_e (p : Pt) (f i : Nat) : GE (openK p f i) := by
 unfold openK
 repeat' (first | exact callR_e _ _ _ _ _ | exact shutR_e _ _ _ _ _ | exact condR_e _ _ _ | exact numR_e _ _ _ | exact flagR_e _ _ _ _ _ _ _ | exact jq (by simp) | refine jD ?_ ?_)
 split
 ·exact jq (by simp)
 ·exact ge_ok _
theorem openR_e (p : Pt) (f : Nat) : GE (openR p f) := by
 unfold openR;refine jD (verbR_e _ _) (jD (zL _ _ _) (jD (jq (by simp)) ?_));split
 ·rename_i g hg;exact kindR_e p f (f + 2) kindsT g hg
 ·exact openK_e _ _ _
theorem tokR_e (p : Pt) (i : Nat) : GE (tokR p i) := by
 have hq : ∀ (i to_ : Nat) (n m : Int), GE (quan p i to_ n m) := fun i to_ n m => zL _ _ _
 rw [tokR_eq]
 repeat' (first | exact ge_ok _ | exact zL _ _ _ | exact escR_e _ _ | exact clsR_e _ _ | exact openR_e _ _ | exact hq _ _ _ _ | refine jD ?_ ?_)
 split
 ·exact zL _ _ _
 ·repeat' (first | exact jq (by simp) | exact hq _ _ _ _ | refine jD ?_ ?_)
theorem lexF_e (p : Pt) : ∀ (k : Nat) (q : Bool) (T : List Tk) (i : Nat), GE (lexF p k q T i)
 | 0, _, T, _ => ge_ok _
 | k + 1, q, T, i => by
  have h := tokR_e p i;rw [lexF];refine jD (ge_ok _) (jD (jD (lexF_e p k _ _ _) (lexF_e p k _ _ _)) (jD (lexF_e p k _ _ _) ?_));split
  ·rename_i e he;exact jq (h _ he)
  ·exact lexF_e p k _ _ _
  ·exact lexF_e p k _ _ _
theorem rlex_e (g : Nat → Int) (n : Nat) (o : Int) : GE (rlexP g n o) := by unfold rlexP;exact jD (jq (by simp)) (jD (jq (by simp)) (jD (jq (by simp)) (lexF_e _ _ _ _ _)))
end rtw
end
section
namespace rsw
open sq
open Go.Sort Go Go.RowKit Go.Maps setp setw tkp trp trw rpp rsp
open rpw (sees jB qU fC jP FSub vw jQ app_sub jH jm own_below qp oneR zk jV qA qh jU lab_ok rg_nil ql)
open rpw (jc qI)
open tkw (qM)
def NodB (h : Nat → Bool) (r : F × Int) (w : World) (e : Ending) (w' : World) : Prop := Below w.heap.size w w' ∧ ∃ y j, e = .returned (.tuple #[ndV y, .int .i64 r.2]) ∧ NdAt (sees h w') (y, j) ∧ strip (F.one y j) = r.1
def RowB (h : Nat → Bool) (r : F × Int) (w : World) (e : Ending) (w' : World) : Prop := Below w.heap.size w w' ∧ ∃ v g, e = .returned (.tuple #[v, .int .i64 r.2]) ∧ OwnH h w.heap.size w' v g ∧ strip g = r.1
def NodeC (u : Bool) (m : Int) (k : F) : Prop := ∀ (x : Lab) (f : Int) (w : World) (h : Nat → Bool), Old h w.heap.size → NdAt (sees h w) (x, k) → OkF (F.one x k) → k.size ≤ 30000 → Calls Tryz.prog 21 #[ctxV u m, ndV x, .int .i64 f] w (NodB h (nodeP u m (fun g => rowP u m k g) x k f) w)
def RowC (u : Bool) (m : Int) (k : F) : Prop := ∀ (v : Value) (f : Int) (w : World) (h : Nat → Bool), Old h w.heap.size → jr (sees h w) v k → OkF k → k.size ≤ 30000 → Calls Tryz.prog 38 #[ctxV u m, v, .int .i64 f] w (RowB h (rowP u m k f) w)
theorem ownH_base {h : Nat → Bool} {n n' : Nat} {w : World} {v : Value} {f : F} (H : OwnH h n w v f) (hn : n' ≤ n) : OwnH h n' w v f := ⟨World.ownsRow.mono H.1 hn, H.2.1, H.2.2⟩
theorem okF_at {f : F} {i : Nat} {x : Lab} {k r : F} (h : OkF f) (hd : f.drop i = .cons x k r) : OkF (F.one x k) := by have := okF_drop i h;rw [hd] at this;exact ⟨this.1, this.2.1, this.2.2.1, trivial⟩
theorem old_add {h : Nat → Bool} {n q : Nat} (H : Old h n) (hq : q < n) : Old (hx h (.slice (some ⟨q, 0, none⟩) 1 1)) n := fun i hi => by
 simp only [hx, Value.ownBlock, Bool.or_eq_true, dF, dG] at hi;rcases hi with hi | hi
 ·exact H i hi
 ·omega
theorem vG {h : Nat → Bool} {q : Nat} {w : World} {cs : Array Value} {t : Nd} (H : NdAt (sees (hx h (.slice (some ⟨q, 0, none⟩) 1 1)) w) t) : NdAt (sees h (w.setRow q cs)) t :=
 qY (qU fun a v h1 hc => by simp only [hx, Value.ownBlock, dE, dD, dG] at h1;exact ⟨h1.1, rpw.jI cs hc (fun e => h1.2 e.symm)⟩) H
def RowRel (h : Nat → Bool) (u : Bool) (m : Int) (k : F) (R : F × Int) (w0 : World) (vf vo vi : Value) (wr : World) : Prop :=
 ∃ (i : Nat) (f : Int) (g : F), vf = .int .i64 f ∧ vi = .int .i64 i ∧ i ≤ k.len ∧ g.len = i ∧ Hid (OwnH h w0.heap.size wr vo g) ∧ Hid (Below w0.heap.size w0 wr) ∧ Hid ((F.app (strip g) (rowP u m (k.drop i) f).1, (rowP u m (k.drop i) f).2) = R)
theorem row_of {u : Bool} {m : Int} {k : F} (hN : ∀ k' : F, k'.size < k.size → NodeC u m k') : RowC u m k := by
 intro v f w h hold hkv hok hsz;have HN := xH hN;have HOLD := xH hold;have HKV := xH (kidsH_below (qg w (.cells #[.bool u, .int .i64 m] 53)) hkv);have HOK := xH hok;have HB0 := xH (qg w (.cells #[.bool u, .int .i64 m] 53));have c0 : (w.alloc (.cells #[.bool u, .int .i64 m] 53)).cell? ⟨w.heap.size, 0, none⟩ = some (.bool u) := by unfold World.cell?; rw [heap_alloc_new]; rfl
 have c1 : (w.alloc (.cells #[.bool u, .int .i64 m] 53)).cell? ⟨w.heap.size, 1, none⟩ = some (.int .i64 m) := by unfold World.cell?; rw [heap_alloc_new]; rfl
 have HZ := xH (World.size_alloc w (.cells #[.bool u, .int .i64 m] 53));obtain ⟨R, hR⟩ : ∃ R, rowP u m k f = R := ⟨_, rfl⟩;rw [hR];have HR0 := xH (show (F.app (strip F.nil) (rowP u m (k.drop 0) f).1, (rowP u m (k.drop 0) f).2) = R by rw [drop_zero, ← hR]; rfl);have hlen : k.len ≤ 30000 := by have := rsp.len_size k; omega
 obtain ⟨a, cap, rfl⟩ := kids_len hkv;clear hN hold hkv hok hR;unfold ctxV;go_enter Tryz.func38, Tryz.ntmps38;go_wp2_with fail
 generalize w.alloc _ = w0 at *
 go_loopw [2, 8, 9] (fun vf vo vi wr => RowRel h u m k R w0 vf vo vi wr) (fun _ _ vi _ => k.len - (intOf vi).toNat)
 case atStart => exact ⟨0, f, F.nil, rfl, rfl, Nat.zero_le _, rfl, xH (ownH_nil _ _ _), xH (Below.refl _ _), HR0⟩
 case round =>
  obtain ⟨i, f, g, rfl, rfl, hi, hg, hO, hB, hR⟩ := hrel;have HO := xH hO.out;have HB := xH hB.out;have HR := xH hR.out;have HG := xH hg;clear hO hB hR hg HR0;have d0 := trw.qf HB.out c0;have d1 := trw.qf HB.out c1;by_cases hlt : i < k.len
  ·obtain ⟨x, k', r, hd⟩ := drop_lt hlt;obtain ⟨b, o, cap', hv, hc1, hc2, hil, hfa⟩ := kid_at HKV.out hd;cases hv;have HS := xH (size_lt hd);have HE := xH (fun j v hj => trw.qf HB.out (sees_to (hfa.1 j v hj)));have HX := xH (qY (zY HB.out (xL _) (fun q hq => (own_below HO.out.1 hq).1)) (fAt_head hfa));have HOXX := xH (fun (W : World) (hw : Below wr.heap.size wr W) => hx_old (v := u8) (m := W.heap.size) (HOLD.out.le HB0.out.size) (Nat.le_trans HB.out.size hw.size) HO.out.1 hw.size);have HCall := xH (fun W (h2 : Nat → Bool) (ho2 : Old h2 W.heap.size) (hn2 : NdAt (sees h2 W) (x, k')) => HN.out k' HS.out x f W h2 ho2 hn2 (okF_at HOK.out hd) (by have := HS.out; omega));have HD := xH hd;have a1 := add_row b o i 12;clear hd hfa;have i1 : (i : Int) < (k.len : Int) := by omega
   obtain ⟨t, ht⟩ : ∃ t, nodeP u m (fun g => rowP u m k' g) x k' f = t := ⟨_, rfl⟩;rw [ht] at HCall;have HT := xH ht;clear ht;go_upto_region 5 with (fail)
   go_cut [10, 11] (fun v10 v11 wx => ∃ B y j, v10 = .pointer (some ⟨B, 0, none⟩) ∧ v11 = .int .i64 t.2 ∧ Hid (wx.heap[B]? = some (.cells (ndC y).toArray 27 (0, 0))) ∧ Hid (Below wr.heap.size wr wx) ∧ Hid (NdAt (sees (hx h u8) wx) (y, j)) ∧ Hid (strip (F.one y j) = t.1))
   case first =>
    go_wp2_with fail
    refine wp_region_held_drew (S := fun w' => Below wr.heap.size wr w') (by kernel_rfl) (qL wr) (fun hHeld => ?_);refine yG 0 (fun w' hSw => trw.qf hSw d0) (fun w' hSw => trw.qf hSw d1) ?_;simp only [xS];refine yT 1 ?_;simp only [xS];refine yT 2 ?_;simp only [xS];refine yT 3 ?_;simp only [xS];refine xT 4 rfl ?_ ?_ ?_;rotate_left
    ·intro w' hSw;refine jT (x := .tmp 22) (b := b) (off := o + i * 12) (l := x) ?_ ?_ (fun j v hj => trw.qf hSw (HE.out j v hj)) <;> rfl
    simp only [xS];refine yT 5 ?_;simp only [xS];refine wpAnyH_ready (rs := [6, 10]) (by kernel_rfl) (by simp) ?_;refine AllReadyH.cons rfl (fun K hK => ?_) (AllReadyH.cons rfl (fun K hK => ?_) AllReadyH.nil)
    ·go_simp;refine (HCall.out _ (hx h u8) (HOXX.out _ hHeld) (qV hHeld HX.out)).mono ?_;rintro e w2 ⟨hb2, y, j, rfl, hn2, hst2⟩;dsimp only;have HN2 := xH hn2;have HT2 := xH hst2;have HB2 := xH (hHeld.trans (hb2.mono hHeld.size));clear hb2 hn2 hst2;refine hK.out _ _ HB2.out (fun hHeld => ?_);clear hK K;try simp only [xS]
     refine yT 7 ?_;simp only [xS];refine yT 8 ?_;simp only [xS];refine yT 9 ?_;simp only [xS];refine xD 10 rfl (fun K hK => ?_);go_simp;have HB3 := xH (HB2.out.trans ((qg w2 (.cells #[.int .i64 0, .int .i64 0, .int .i64 0, .slice none 0 0, .bool false, .int .i64 0, .int .i64 0, .int .i64 0, .string ⟨#[]⟩, .int .i64 0, .int .i64 0, .slice none 0 0] 27)).mono HB2.out.size));refine hK.out _ _ HB3.out (fun hHeld => ?_);clear hK K;try simp only [xS]
     refine xD 11 rfl (fun K hK => ?_);refine qI rfl rfl _ _ rfl w2.heap.size rfl #[.int .i64 0, .int .i64 0, .int .i64 0, .slice none 0 0, .bool false, .int .i64 0, .int .i64 0, .int .i64 0, .string ⟨#[]⟩, .int .i64 0, .int .i64 0, .slice none 0 0] y (heap_alloc_new w2 _) rfl (qp HN2.out) rfl ?_;have HB4 := xH (rpw.qC HB3.out (ndC y).toArray HB2.out.size);have HG4 := xH (setRow_heap _ _ _ (ndC y).toArray _ _ (heap_alloc_new w2 (.cells #[.int .i64 0, .int .i64 0, .int .i64 0, .slice none 0 0, .bool false, .int .i64 0, .int .i64 0, .int .i64 0, .string ⟨#[]⟩, .int .i64 0, .int .i64 0, .slice none 0 0] 27)));refine hK.out _ _ HB4.out (fun hHeld => ?_);clear hK K;try simp only [xS]
     refine yT 12 ?_;simp only [xS];refine wpAnyH_done (by kernel_rfl) ?_ _;have HN4 := xH (qV (rpw.qC (qg w2 (.cells #[.int .i64 0, .int .i64 0, .int .i64 0, .slice none 0 0, .bool false, .int .i64 0, .int .i64 0, .int .i64 0, .string ⟨#[]⟩, .int .i64 0, .int .i64 0, .slice none 0 0] 27)) (ndC y).toArray (xL _)) HN2.out);go_wp2_with fail
     go_meet
     exact ⟨w2.heap.size, y, j, rfl, rfl, HG4, HB4, HN4, HT2⟩
    ·go_simp;have HB1 := xH (show Below wr.heap.size wr (wr.alloc (.cells #[.int .i64 0, .int .i64 0, .int .i64 0, .slice none 0 0, .bool false, .int .i64 0, .int .i64 0, .int .i64 0, .string ⟨#[]⟩, .int .i64 0, .int .i64 0, .slice none 0 0] 27)).drew from (qg wr (.cells #[.int .i64 0, .int .i64 0, .int .i64 0, .slice none 0 0, .bool false, .int .i64 0, .int .i64 0, .int .i64 0, .string ⟨#[]⟩, .int .i64 0, .int .i64 0, .slice none 0 0] 27)).drew);have HG1 := xH (show (wr.alloc (.cells #[.int .i64 0, .int .i64 0, .int .i64 0, .slice none 0 0, .bool false, .int .i64 0, .int .i64 0, .int .i64 0, .string ⟨#[]⟩, .int .i64 0, .int .i64 0, .slice none 0 0] 27)).drew.heap[wr.heap.size]? = _ from heap_alloc_new wr (.cells #[.int .i64 0, .int .i64 0, .int .i64 0, .slice none 0 0, .bool false, .int .i64 0, .int .i64 0, .int .i64 0, .string ⟨#[]⟩, .int .i64 0, .int .i64 0, .slice none 0 0] 27));have HZ1 := xH (show (wr.alloc (.cells #[.int .i64 0, .int .i64 0, .int .i64 0, .slice none 0 0, .bool false, .int .i64 0, .int .i64 0, .int .i64 0, .string ⟨#[]⟩, .int .i64 0, .int .i64 0, .slice none 0 0] 27)).drew.heap.size = wr.heap.size + 1 from World.size_alloc wr (.cells #[.int .i64 0, .int .i64 0, .int .i64 0, .slice none 0 0, .bool false, .int .i64 0, .int .i64 0, .int .i64 0, .string ⟨#[]⟩, .int .i64 0, .int .i64 0, .slice none 0 0] 27));refine hK.out _ _ HB1.out (fun hHeld => ?_);clear hK K;try simp only [xS]
     refine xD 6 rfl (fun K hK => ?_);go_simp;refine (HCall.out _ (hx (hx h u8) (.slice (some ⟨wr.heap.size, 0, none⟩) 1 1)) (old_add (HOXX.out _ hHeld) (by rw [HZ1.out]; exact Nat.lt_succ_self _)) (qY (zY hHeld (xL _) (fun q hq => by cases hq; exact xL _)) HX.out)).mono ?_;rintro e w2 ⟨hb2, y, j, rfl, hn2, hst2⟩;dsimp only;have HN2 := xH hn2;have HT2 := xH hst2;have HB2 := xH (hHeld.trans (hb2.mono hHeld.size));have HG2 := xH ((hb2.block _ (by rw [HZ1.out]; exact Nat.lt_succ_self _)).trans HG1.out);clear hb2 hn2 hst2;refine hK.out _ _ HB2.out (fun hHeld => ?_);clear hK K;try simp only [xS]
     refine yT 7 ?_;simp only [xS];refine yT 8 ?_;simp only [xS];refine yT 9 ?_;simp only [xS];refine xD 11 rfl (fun K hK => ?_);refine qI rfl rfl _ _ rfl wr.heap.size rfl #[.int .i64 0, .int .i64 0, .int .i64 0, .slice none 0 0, .bool false, .int .i64 0, .int .i64 0, .int .i64 0, .string ⟨#[]⟩, .int .i64 0, .int .i64 0, .slice none 0 0] y HG2.out rfl (qp HN2.out) rfl ?_;have HB4 := xH (rpw.qC HB2.out (ndC y).toArray (xL _));have HG4 := xH (setRow_heap _ _ _ (ndC y).toArray _ _ HG2.out);refine hK.out _ _ HB4.out (fun hHeld => ?_);clear hK K;try simp only [xS]
     refine yT 12 ?_;simp only [xS];refine wpAnyH_done (by kernel_rfl) ?_ _;have HN4 := xH (vG (cs := (ndC y).toArray) HN2.out);go_wp2_with fail
     go_meet
     exact ⟨wr.heap.size, y, j, rfl, rfl, HG4, HB4, HN4, HT2⟩
   case rest =>
    obtain ⟨B, y, j, rfl, rfl, HG4, HB4, HN4, HT4⟩ := hcut;have HO4 := xH (ownH_below HO.out HB4.out);have HB5 := xH (HB.out.trans (HB4.out.mono HB.out.size));have HOX4 := xH (HOXX.out wc HB4.out);have H1 := xH (qp HN4.out);have HLN := xH (show g.len + (F.one y j).len ≤ 200000 by rw [HG.out]; simp only [F.one, F.len]; omega);obtain ⟨Z, hZ⟩ : ∃ Z, wc.heap.size = Z := ⟨_, rfl⟩;have HZZ := xH hZ;have HKD := xH (show ∀ w17, w17 = wc.alloc (.cells (ndC y).toArray 27) → jr (sees (hx h u8) w17) (.slice (some ⟨Z, 0, none⟩) 1 1) (F.one y j) from fun w17 h17 => by subst h17;have := row1_kids HN4.out HOX4.out;rw [hZ] at this;exact this)
    clear hZ HCall HOXX HX HE HKV HO HB HB4 HOX4 HN4 d0 d1;go_wp2_with (first
     | (refine ql rfl _ rfl B rfl y HG4.out ?_)
     | (refine jc rfl _ rfl y rfl Z HZZ.out ?_; intro w17 h17; have HO17 := xH (ownH_below HO4.out (h17.out ▸ qg wc _)); have HK17 := xH (HKD.out w17 h17.out); have HB17 := xH (HB5.out.trans ((show Below wc.heap.size wc w17 from h17.out ▸ qg wc _).mono HB5.out.size)); have HS17 := xH (show w0.heap.size ≤ w17.heap.size from HB17.out.size); clear h17)
     | (at_builtin; refine wpList_append_h rfl _ _ rfl h w0.heap.size u8 g rfl HO17.out (HOLD.out.le HB0.out.size) _ (F.one y j) rfl HK17.out HLN.out HS17.out ?_; intro v18 w18 h18 hb18; have HO18 := xH h18; have HB18 := xH (HB17.out.trans hb18); clear h18 hb18))
    have hi1 : i + 1 ≤ k.len := by omega
    refine ⟨⟨i + 1, t.2, F.app g (F.one y j), rfl, ?_, hi1, ?_, HO18, HB18, xH ?_⟩, ?_⟩
    ·rfl
    ·rw [rsp.jd, HG.out]; rfl
    ·rw [← HR.out, jH, HT4.out, HD.out, rowP, HT.out, drop_succ HD.out];simp only;rw [app_assoc]
    ·simp only [intOf];omega
  ·have HR3 := xH hlt;have hge : ¬ ((i : Int) < (k.len : Int)) := by omega
   obtain ⟨qa, qc, rfl⟩ : ∃ a c, u8 = .slice a g.len c := zJ HO.out.1;have hend : k.drop i = .nil := drop_end (by omega);have HE := xH hend;clear hlt hend;go_wp2_with fail
   go_ret2
   refine ⟨qi HB0.out HB.out, _, g, ?_, ownH_base HO.out HB0.out.size, ?_⟩
   ·rw [← HR.out, HE.out]; rfl
   ·rw [← HR.out, HE.out];show strip g = F.app (strip g) .nil;rw [app_nil]
end rsw
end
section
namespace fgp
open sq
open Go tkp trp rpp rsp setp setw
def ownF (u : Bool) (m : Int) (x : Lab) (k : F) (f : Int) : F :=
 if x.kind = 1 then F.one { bare x with kind := 2, set := setP u m [(x.c, x.c)] (decide (andI f 1 ≠ 0)) false, c := 0 } k
 else if x.kind = 2 then F.one { bare x with set := setP u m x.set (decide (andI f 1 ≠ 0)) x.neg, neg := false } k
 else if x.kind = 3 then F.one { bare x with kind := 2, set := setP u m (if andI f 4 = 0 then [(10, 10)] else []) false true } k
 else if x.kind = 4 then F.one { bare x with n := assN f x.n } k
 else if x.kind = 6 then lineF m x.at_
 else if x.kind = 7 then F.one { bare x with on := if andI f 1 ≠ 0 then 1 else x.on } k
 else F.one { bare x with mode := repM f x.kind x.mode } k
def putP (u : Bool) (m : Int) (rp : Int → F × Int) (rk : Int → F) (x : Lab) (f : Int) : F × Int :=
 if x.kind = 11 then (.nil, turnI f x.on x.off)
 else if x.kind = 12 then rp f
 else if x.kind = 15 then ((rp (turnI f x.on x.off)).1, f)
 else (ownF u m x (rk f) f, f)
def bothP (u : Bool) (m : Int) : F → Int → (F × Int) × F
 | .nil, f => ((.nil, f), .nil)
 | .cons x k r, f =>
  let t := putP u m (fun g => (bothP u m k g).1) (fun g => (bothP u m k g).2) x f
  let q := bothP u m r t.2
  ((F.app t.1 q.1.1, q.1.2), F.app (oneF 12 t.1) q.2)
def noAlt : F → Prop
 | .nil => True
 | .cons x _ r => x.kind ≠ 13 ∧ noAlt r
def bareL (x : Lab) : Prop := x.n = 0 ∧ x.m = 0 ∧ x.mode = 0 ∧ x.name = ⟨#[]⟩ ∧ x.on = 0 ∧ x.off = 0
def RawF : F → Prop
 | .nil => True
 | .cons x k r =>
  (x.kind = 13 → r = .nil) ∧ (x.kind = 12 → noAlt k) ∧ (x.kind = 15 → k.len = 1) ∧
  (x.kind = 1 ∨ x.kind = 2 ∨ x.kind = 3 ∨ x.kind = 4 ∨ x.kind = 7 → k = .nil) ∧
  (x.kind = 1 → bareL x ∧ x.set = [] ∧ x.neg = false) ∧ (x.kind = 2 → bareL x ∧ x.c = 0) ∧
  (x.kind = 3 → bareL x ∧ x.c = 0 ∧ x.set = [] ∧ x.neg = false) ∧ (x.kind = 7 → x.on = 0) ∧
  RawF k ∧ RawF r
def noSeq : F → Prop
 | .nil => True
 | .cons x _ r => x.kind ≠ 12 ∧ noSeq r
theorem noSeq_app : ∀ {f g : F}, noSeq f → noSeq g → noSeq (F.app f g)
 | .nil, _, _, h => h
 | .cons _ _ _, _, h, k => ⟨h.1, noSeq_app h.2 k⟩
theorem noSeq_own (u : Bool) (m : Int) (x : Lab) (k : F) (f : Int) (h : x.kind ≠ 12) : noSeq (ownF u m x k f) := by
 unfold ownF
 repeat' split
 all_goals simp_all [lineF, F.one, noSeq, bare, lab]
theorem noSeq_put (u : Bool) (m : Int) (rp : Int → F × Int) (rk : Int → F) (x : Lab) (f : Int) (h : ∀ g, noSeq (rp g).1) : noSeq (putP u m rp rk x f).1 := by
 unfold putP
 repeat' split
 ·exact trivial
 ·exact h _
 ·exact h _
 ·exact noSeq_own _ _ _ _ _ (by assumption)
theorem noSeq_both (u : Bool) (m : Int) : ∀ (l : F) (f : Int), noSeq (bothP u m l f).1.1
 | .nil, _ => trivial
 | .cons x k r, f => by rw [bothP];exact noSeq_app (noSeq_put u m _ _ x f (fun g => noSeq_both u m k g)) (noSeq_both u m r _)
theorem flat_app : ∀ f g : F, flatF (F.app f g) = F.app (flatF f) (flatF g)
 | .nil, _ => rfl
 | .cons x k r, g => by rw [F.app, flatF, flat_app r g, flatF, app_assoc]
theorem flat_noSeq : ∀ {l : F}, noSeq l → flatF l = l
 | .nil, _ => rfl
 | .cons x k r, h => by rw [flatF, flat_noSeq h.2, listF, if_neg h.1]; rfl
theorem flat_one {l : F} (h : noSeq l) : flatF (oneF 12 l) = l := by
 match l, h with
 | .nil, _ => simp [oneF, flatF, listF, lab, F.app]
 | .cons x k .nil, h => exact flat_noSeq h
 | .cons x k (.cons y q r), h => simp [oneF, flatF, listF, lab, app_nil]
theorem one_own (u : Bool) (m : Int) (x : Lab) (k : F) (f : Int) : oneF 12 (ownF u m x k f) = ownF u m x k f := by
 unfold ownF
 repeat' split
 all_goals rfl
theorem first_self (k : Int) (l : F) : firstF (oneF k l) = oneF k l := by
 match l with
 | .nil => rfl
 | .cons x q .nil => rfl
 | .cons x q (.cons y p r) => rfl
theorem flat_both (u : Bool) (m : Int) : ∀ (l : F) (f : Int), flatF (bothP u m l f).2 = (bothP u m l f).1.1
 | .nil, _ => rfl
 | .cons x k r, f => by rw [bothP];simp only;rw [flat_app, flat_one (noSeq_put u m _ _ x f (fun g => noSeq_both u m k g)), flat_both u m r _]
theorem and_one (f : Int) (h : andI f 1 ≠ 0) : andI f 1 = 1 := by
 unfold andI bits at *;simp only at *;have e : (BitVec.ofInt IntKind.i64.bits f &&& BitVec.ofInt IntKind.i64.bits 1).toNat = (BitVec.ofInt IntKind.i64.bits f).toNat % 2 := by rw [BitVec.toNat_and];exact Nat.and_one_is_mod _
 rw [e] at h ⊢;rcases Nat.mod_two_eq_zero_or_one (BitVec.ofInt IntKind.i64.bits f).toNat with c | c
 ·rw [c] at h;exact absurd rfl h
 ·rw [c];rfl
theorem node_put (u : Bool) (m : Int) (x : Lab) (k : F) (f : Int) (h : RawF (.cons x k .nil))
 (ih : ∀ g, (rowP u m k g).1 = (bothP u m k g).2 ∧ (noAlt k → (rowP u m k g).2 = (bothP u m k g).1.2)) :
 (nodeP u m (fun g => rowP u m k g) x k f).1 = oneF 12 (putP u m (fun g => (bothP u m k g).1) (fun g => (bothP u m k g).2) x f).1 ∧
 (x.kind ≠ 13 → (nodeP u m (fun g => rowP u m k g) x k f).2 = (putP u m (fun g => (bothP u m k g).1) (fun g => (bothP u m k g).2) x f).2) := by
 obtain ⟨-, h12, h15, hk, h1, h2, h3, h7, -, -⟩ := h;unfold nodeP putP;by_cases c1 : x.kind = 1
 ·obtain ⟨⟨a1, a2, a3, a4, a5, a6⟩, b, c⟩ := h1 c1;have e := hk (.inl c1);subst e;simp [c1, one_own, bothP];simp [ownF, c1, setL, F.one, bare, lab, a1, a2, a3, a4, a5, a6, c]
 by_cases c2 : x.kind = 2
 ·obtain ⟨⟨a1, a2, a3, a4, a5, a6⟩, b⟩ := h2 c2;have e := hk (.inr (.inl c2));subst e;simp [c2, one_own, bothP];simp [ownF, c2, setL, F.one, bare, lab, a1, a2, a3, a4, a5, a6, b]
 by_cases c3 : x.kind = 3
 ·obtain ⟨⟨a1, a2, a3, a4, a5, a6⟩, b, c, d⟩ := h3 c3;have e := hk (.inr (.inr (.inl c3)));subst e;simp [c3, one_own, bothP];simp [ownF, c3, setL, F.one, bare, lab, a1, a2, a3, a4, a5, a6, b, d]
 by_cases c4 : x.kind = 4
 ·have e := hk (.inr (.inr (.inr (.inl c4))));subst e;simp [c4, one_own, bothP];simp [ownF, c4, strip]
 by_cases c6 : x.kind = 6
 ·simp [c6, one_own];simp [ownF, c6]
 by_cases c7 : x.kind = 7
 ·have e := hk (.inr (.inr (.inr (.inr c7))));subst e;simp [c7, one_own, bothP];simp only [ownF, c7, strip];by_cases z : andI f 1 = 0
  ·simp [z, h7 c7]
  ·simp [and_one f z]
 by_cases c11 : x.kind = 11
 ·simp [c11, oneF, F.one]
 by_cases c12 : x.kind = 12
 ·obtain ⟨i1, i2⟩ := ih f;simp [c12, i1, i2 (h12 c12), flat_both]
 by_cases c13 : x.kind = 13
 ·obtain ⟨i1, -⟩ := ih f;simp [c13, one_own, i1];simp [ownF, c13, repM, bare]
 by_cases c15 : x.kind = 15
 ·obtain ⟨i1, -⟩ := ih (turnI f x.on x.off);simp only [c15, i1]
  match k, h15 c15 with
  | .cons y q .nil, _ => simp [bothP, app_nil, first_self]
 ·obtain ⟨i1, -⟩ := ih f;simp [c1, c2, c3, c4, c6, c7, c11, c12, c13, c15, one_own, i1];simp [ownF, c1, c2, c3, c4, c6, c7]
theorem row_both (u : Bool) (m : Int) : ∀ (l : F) (f : Int), RawF l → (rowP u m l f).1 = (bothP u m l f).2 ∧ (noAlt l → (rowP u m l f).2 = (bothP u m l f).1.2)
 | .nil, _, _ => ⟨rfl, fun _ => rfl⟩
 | .cons x k r, f, h => by
  have hx : RawF (.cons x k .nil) := by obtain ⟨h13, h12, h15, hk, h1, h2, h3, h7, hh, -⟩ := h;exact ⟨fun _ => rfl, h12, h15, hk, h1, h2, h3, h7, hh, trivial⟩
  obtain ⟨h13, -, -, -, -, -, -, -, hh, hr⟩ := h;obtain ⟨a, b⟩ := node_put u m x k f hx (fun g => row_both u m k g hh);rw [rowP, bothP];simp only;by_cases c : x.kind = 13
  ·rw [h13 c];simp only [rowP, bothP, a];exact ⟨trivial, fun n => absurd c n.1⟩
  ·rw [b c];obtain ⟨p, q⟩ := row_both u m r (putP u m (fun g => (bothP u m k g).1) (fun g => (bothP u m k g).2) x f).2 hr;rw [a, p];exact ⟨rfl, fun n => q n.2⟩
def B (f : Int) : BitVec 64 := BitVec.ofInt 64 f
theorem wrap_nat (n : Nat) (h : n < 2 ^ 64) : IntKind.i64.wrap (n : Int) = if n < 2 ^ 63 then (n : Int) else (n : Int) - 2 ^ 64 := by
 show (if true && decide ((n : Int) % (2 ^ 64 : Int) ≥ (2 ^ 63 : Int)) then (n : Int) % (2 ^ 64 : Int) - (2 ^ 64 : Int) else (n : Int) % (2 ^ 64 : Int)) = _;have e : ((n : Int) % 2 ^ 64) = n := by omega
 simp only [e, Bool.true_and, dF];by_cases c : n < 2 ^ 63
 ·rw [if_neg (by omega), if_pos c]
 ·rw [if_pos (by omega), if_neg c]
theorem B_wrap (v : BitVec 64) : B (IntKind.i64.wrap (v.toNat : Int)) = v := by unfold B;apply BitVec.eq_of_toNat_eq;rw [BitVec.toNat_ofInt, wrap_nat _ v.isLt];have h := v.isLt;split <;> omega
theorem B_and (f n : Int) : B (bits .and .i64 f n) = B f &&& B n := B_wrap _
theorem B_or (f n : Int) : B (bits .or .i64 f n) = B f ||| B n := B_wrap _
theorem B_not (f n : Int) : B (bits .andNot .i64 f n) = B f &&& ~~~B n := B_wrap _
def Ag (f g : Int) : Prop := B f &&& 23#64 = B g &&& 23#64
theorem ag_turn {f g : Int} (h : Ag f g) (on off : Int) : Ag (turnI f on off) (turnI g on off) := by
 unfold Ag turnI at *;rw [B_not, B_not, B_or, B_or];refine BitVec.eq_of_getLsbD_eq fun i hi => ?_
 have e := congrArg (fun v => BitVec.getLsbD v i) h;simp only [BitVec.getLsbD_and, BitVec.getLsbD_or] at e ⊢;cases hc : (23#64).getLsbD i
 ·simp
 ·rw [hc, Bool.and_true, Bool.and_true] at e;rw [e]
theorem ag_and {f g : Int} (h : Ag f g) (b : Int) (hb : B b &&& 23#64 = B b) : andI f b = andI g b := by
 have e : B f &&& B b = B g &&& B b := by rw [← hb, BitVec.and_comm (B b), ← BitVec.and_assoc, ← BitVec.and_assoc, h]
 show IntKind.i64.wrap ((B f &&& B b).toNat : Int) = IntKind.i64.wrap ((B g &&& B b).toNat : Int);rw [e]
theorem ag_23 (o : Int) : Ag (andI o 23) o := by unfold Ag andI;rw [B_and, BitVec.and_assoc];rfl
theorem own_ag (u : Bool) (m : Int) (x : Lab) (k : F) {f g : Int} (h : Ag f g) : ownF u m x k f = ownF u m x k g := by have h1 := ag_and h 1 rfl;have h2 := ag_and h 2 rfl;have h4 := ag_and h 4 rfl;have h16 := ag_and h 16 rfl;simp only [ownF, assN, repM, h1, h2, h4, h16]
theorem put_ag (u : Bool) (m : Int) (rp : Int → F × Int) (rk : Int → F) (x : Lab) {f g : Int} (h : Ag f g)
 (ih : ∀ {f g}, Ag f g → (rp f).1 = (rp g).1 ∧ Ag (rp f).2 (rp g).2 ∧ rk f = rk g) :
 (putP u m rp rk x f).1 = (putP u m rp rk x g).1 ∧ Ag (putP u m rp rk x f).2 (putP u m rp rk x g).2 := by
 unfold putP;split
 ·exact ⟨rfl, ag_turn h _ _⟩
 split
 ·exact ⟨(ih h).1, (ih h).2.1⟩
 split
 ·exact ⟨(ih (ag_turn h _ _)).1, h⟩
 ·refine ⟨?_, h⟩;show ownF u m x (rk f) f = ownF u m x (rk g) g;rw [(ih h).2.2, own_ag u m x _ h]
theorem both_ag (u : Bool) (m : Int) : ∀ (l : F) {f g : Int}, Ag f g → (bothP u m l f).1.1 = (bothP u m l g).1.1 ∧ Ag (bothP u m l f).1.2 (bothP u m l g).1.2 ∧ (bothP u m l f).2 = (bothP u m l g).2
 | .nil, _, _, h => ⟨rfl, h, rfl⟩
 | .cons x k r, f, g, h => by obtain ⟨a, b⟩ := put_ag u m (fun g => (bothP u m k g).1) (fun g => (bothP u m k g).2) x h (fun h => both_ag u m k h);obtain ⟨c, d, e⟩ := both_ag u m r b;rw [bothP, bothP];simp only;rw [a, c, e];exact ⟨rfl, d, rfl⟩
def answerP (t : Nd) (o : Int) : F := oneF 12 (putP (decide (andI o 32 ≠ 0)) (if andI o 32 ≠ 0 then 1114111 else 255) (fun g => (bothP (decide (andI o 32 ≠ 0)) (if andI o 32 ≠ 0 then 1114111 else 255) t.2 g).1) (fun g => (bothP (decide (andI o 32 ≠ 0)) (if andI o 32 ≠ 0 then 1114111 else 255) t.2 g).2) t.1 o).1
theorem answer_res (t : Nd) (o : Int) (h : RawF (.cons t.1 t.2 .nil)) : resP t o = answerP t o := by unfold resP answerP;rw [(node_put _ _ t.1 t.2 _ h (fun g => row_both _ _ t.2 g h.2.2.2.2.2.2.2.2.1)).1];rw [(put_ag _ _ _ _ t.1 (ag_23 o) (fun h => both_ag _ _ t.2 h)).1]
end fgp
end
end Go.Proofs.YtikjhfmmfpeaoaaGreatDoor
