/- T -/
import Derived.BigQuiet
import Derived.Deep.Onto
import Derived.IntWalk
import Derived.Lib.QuietBelow
import Derived.Test.YtikjhfmmfpeaoaaGreatDoorBFg20
set_option maxHeartbeats 16000000
set_option maxRecDepth 1000000
namespace Go.Proofs.YtikjhfmmfpeaoaaGreatDoor
section
namespace rtw
open sq
open Go Go.RowKit Go.Maps utfp utfw ucdp setp setw prp tkp rtp
open tkw (sg sg_bd vJ jM qK tkR qO qM vI)
open Go.Sort
open tkw (yw tkA qO opt_bit tokRow_kept own_apart Kept Kept.of_below)
def LexB (w0 : World) (r : R (List Tk)) (e : Ending) (w' : World) : Prop := Below w0.heap.size w0 w' ∧ match r with
 | .error x => e = .returned (.tuple #[.slice none 0 0, .int .i64 x.1, .int .i64 x.2])
 | .ok T => ∃ v, e = .returned (.tuple #[v, .int .i64 0, .int .i64 0]) ∧ yw w' w0.heap.size v T
theorem str_size (n : Nat) (g : Nat → Int) : (strOf n g).size = n := by unfold strOf;show (strOfNums _).data.size = _;simp [strOfNums]
theorem sg_str {n : Nat} {g : Nat → Int} (hg : ∀ i, 0 ≤ g i ∧ g i ≤ 255) {i : Nat} (hi : i < n) : sg (strOf n g) i = g i := by
 have e : (strOf n g).data.toList[i]? = some (UInt8.ofNat (g i).toNat) := by unfold strOf;simp [strOfNums, hi]
 unfold sg;rw [List.getD_eq_getElem?_getD, e];have := hg i;simp only [Option.getD_some];have h2 : (UInt8.ofNat (g i).toNat).toNat = (g i).toNat := by rw [UInt8.toNat_ofNat'];omega
 rw [h2];omega
theorem sl_sg {w : World} {v : Value} {n : Nat} {g : Nat → Int} (h : Sl w v n g) : Sl w v n (sg (strOf n g)) := by
 obtain ⟨hg, hn, h⟩ := h;refine ⟨sg_bd _, hn, ?_⟩;rcases h with ⟨rfl, a0, c0, rfl, hc⟩ | ⟨b, off, cap, rfl, h1, hc⟩
 ·exact Or.inl ⟨rfl, a0, c0, rfl, hc⟩
 ·exact Or.inr ⟨b, off, cap, rfl, h1, fun i hi => by rw [sg_str hg hi]; exact hc i hi⟩
theorem wpList_append_t {ops : Array Oper} {rest : List Oper} {o : Oper} {a : Act} {w : World} {Q : Exit → Act → World → Prop} (hgd : o.guard = none) (s x : Operand)
 (ho : o.op = .call { callee := .builtin .append, args := #[s, x], argTypes := #[39, 39] }) (base : Nat) (tv : Value) (T : List Tk) (hs : a.eval s = tv) (hown : yw w base tv T)
 (v : Value) (t : Tk) (hv : OwnR w base v t.set) (B : Nat) (hx : a.eval x = .slice (some ⟨B, 0, none⟩) 1 1) (hB : B = w.heap.size) (hlen : T.length ≤ 100000) (hbase : base ≤ w.heap.size)
 (h : ∀ v' w', yw w' base v' (T ++ [t]) → Below base w w' → (∀ k, k < w.heap.size → tv.ownBlock ≠ some k → w'.heap[k]? = w.heap[k]?) → wpList Tryz.prog ops Q rest (a.put o.dst v') w') :
 wpList Tryz.prog ops Q (o :: rest) a (w.alloc (.cells (tkA v t) 68)) := by
 subst hB;obtain ⟨l, hl1, hl2, hl3⟩ := hown;have hll : l.length = T.length := by rw [← hl1, List.length_map]
 obtain ⟨i0, hi, hz0, hz1, hz2⟩ := info_parts tkw.vI;refine wpList_append_own _ hgd s x _ ho base 68 i0 _ 12 120 Tryz.underlying39 hi hz0 hz1 hz2 rfl (by decide) tv _ _ hs (World.ownsRow.alloc hl3 _) ⟨w.heap.size, 0, none⟩ 1 1 (qO v t) hx rfl ?_ ?_ (by unfold maxLen; omega) (by omega) (by rw [World.size_alloc]; omega) ?_
 ·intro j u hj;have hplain : (⟨w.heap.size, 0, none⟩ : Addr).add j = ⟨w.heap.size, j, none⟩ := by unfold Addr.add; split <;> simp_all
  rw [hplain, World.cell?_alloc_new, ← Array.getElem?_toList, tkw.tkA_cells];exact hj
 ·intro u hu;obtain ⟨x, y, rfl⟩ : ∃ x y, v = .slice x t.set.length y := qN hv;simp only [qO, List.mem_cons, List.not_mem_nil, or_false] at hu;rcases hu with rfl | rfl | rfl | rfl | rfl | rfl | rfl | rfl | rfl | rfl | rfl | rfl <;> rfl
 ·intro v' w' hown' hgr _;have hlt := World.ownsRow.lt hl3;have hbw : Below base w w' := ((Below.refl base w).alloc hbase _).grown hgr (by rw [World.size_alloc]; omega) (fun k hk => (hlt k hk).1);refine h v' w' ⟨l ++ [(t, v)], by simp [hl1], fun p hp => ?_, ?_⟩ hbw (fun k hk hne => (hgr.block k (by rw [World.size_alloc]; omega) (fun e => hne e.symm)).trans (Below.heap_alloc _ _ _ hk))
  ·have hr : OwnR w base p.2 p.1.set := by
    rcases List.mem_append.1 hp with hp | hp
    ·exact hl2 p hp
    ·obtain rfl := List.mem_singleton.1 hp;exact hv
   exact ⟨World.ownsRow.kept (World.ownsRow.alloc hr.1 _) hgr (own_apart hr.1 hl3 (by decide)), hr.2⟩
  ·have e : ((l ++ [(t, v)]).flatMap fun p => qO p.2 p.1) = (l.flatMap fun p => qO p.2 p.1) ++ qO v t := by simp
   rw [e];simpa using hown'
theorem row_below {w w' : World} {base : Nat} {v : Value} {T : List Tk} (h : yw w base v T) (hb : Below w.heap.size w w') (h0 : 0 < base) : yw w' base v T := tokRow_kept h (Kept.of_below (L := 0) hb) h0
theorem row_block {w : World} {base : Nat} {v : Value} {T : List Tk} (h : yw w base v T) : v.ownBlock ≠ some w.heap.size := by obtain ⟨l, h1, h2, h3⟩ := h;intro e;exact absurd (World.ownsRow.lt h3 _ e).2 (Nat.lt_irrefl _)
theorem row_form {w : World} {b : Nat} {v : Value} {T : List Tk} (h : yw w b v T) : ∃ a n c, v = .slice a n c := by obtain ⟨l0, _, _, hl3⟩ := h;rcases hl3.2 with ⟨h, _⟩ | ⟨g, cap, cur, h, _⟩ <;> exact ⟨_, _, _, h⟩
theorem row_base {w : World} {b b' : Nat} {v : Value} {T : List Tk} (h : yw w b v T) (hb : b' ≤ b) : yw w b' v T := by obtain ⟨l, h1, h2, h3⟩ := h;exact ⟨l, h1, fun p hp => ⟨World.ownsRow.mono (h2 p hp).1 hb, (h2 p hp).2⟩, World.ownsRow.mono h3 hb⟩
theorem row_nil (w : World) (b : Nat) : yw w b (.slice none 0 0) [] := ⟨[], rfl, fun p hp => absurd hp (by simp), World.ownsRow_nil w b _ 12⟩
theorem wpList_load_tk {ops : Array Oper} {rest : List Oper} {o : Oper} {a : Act} {w : World} {Q : Exit → Act → World → Prop} (hgd : o.guard = none) (x : Operand) (ho : o.op = .load 68 x)
 (b : Nat) (hx : a.eval x = .pointer (some ⟨b, 0, none⟩)) (v : Value) (t : Tk) (hc : ∀ j u, (qO v t)[j]? = some u → w.cell? ⟨b, j, none⟩ = some u)
 (h : wpList Tryz.prog ops Q rest (a.put o.dst (.agg #[.int .i64 t.kind, .int .i64 t.at_, .int .i64 t.to, .int .i64 t.c, v, .bool t.neg, .int .i64 t.n, .int .i64 t.m, .int .i64 t.mode, .string t.name, .int .i64 t.on, .int .i64 t.off])) w) : wpList Tryz.prog ops Q (o :: rest) a w :=
 trw.wpList_load_at hgd 68 x ho ⟨b, 0, none⟩ hx (qO v t) _ (fun j u hj => by rw [trw.add_plain, Nat.zero_add]; exact hc j u hj) Tryz.underlying68 rfl (by kernel_rfl) h
def Nz (r : G) : Prop := ∀ x, r = .error x → x.1 ≠ 0
theorem jZ {t : Tk} {f b : Nat} : Nz (gtok t f b) := fun _ h => by cases h
theorem zu {a b : Int} (h : a ≠ 0) : Nz (.error (a, b)) := fun _ e => by cases e; exact h
theorem nz_if {c : Prop} [Decidable c] {a b : G} (h1 : Nz a) (h2 : Nz b) : Nz (if c then a else b) := by split <;> assumption
theorem nz_shut {p : Pt} {t : Tk} {f i : Nat} {s : List UInt8} {e : Int} (h : e ≠ 0) : Nz (shutR p t f i s e) := by
 unfold shutR
 repeat' (first | exact jZ | exact zu (by first | exact h | decide) | split)
theorem nz_call {p : Pt} {t : Tk} {f i : Nat} {s : List UInt8} : Nz (callR p t f i s) := by
 unfold callR
 repeat' (first | exact jZ | exact zu (by decide) | split)
theorem nz_back {p : Pt} {i z : Nat} : ∀ l, Nz (backR p i z l)
 | [] => zu (by decide)
 | (a, b) :: l => by
  rw [backR]
  repeat' (first | exact jZ | exact nz_back l | split)
theorem nz_ref {p : Pt} {f i : Nat} : Nz (refR p f i) := by
 unfold refR;simp only
 repeat' (first | exact jZ | exact zu (by decide) | split)
theorem nz_many {p : Pt} {c : Int} {i : Nat} {x : Int} (h : many p c i = .error x) : x ≠ 0 := by rw [many_err h]; decide
theorem nz_esc {p : Pt} {i : Nat} : Nz (escR p i) := by
 rw [escR_eq];refine nz_if (zu (by decide)) (nz_if jZ (nz_if ?_ (nz_if jZ (nz_if jZ (nz_if jZ (nz_if jZ (nz_if ?_ (nz_if (nz_if (zu (by decide)) jZ) (nz_if nz_ref (nz_if (nz_back _) ?_))))))))))
 ·cases hexz p (p.char (i + 1)).2 with
  | none => exact zu (by decide)
  | some q => exact jZ
 ·intro x h; cases h
 ·cases hm : many p (p.char (i + 1)).1 (p.char (i + 1)).2 with
  | error x => exact zu (nz_many hm)
  | ok o =>
   cases o with
   | none => exact nz_if (zu (by decide)) jZ
   | some q => exact jZ
theorem nz_item {p : Pt} {k : Nat} {x : Int × Int} (h : itemR p k = .error x) : x.1 ≠ 0 := by
 unfold itemR at h;split at h
 ·split at h
  ·cases h
  ·cases h; simp
 ·unfold itemC at h;split at h
  ·split at h
   ·cases h; simp
   ·unfold itemE at h;simp only at h;split at h
    ·split at h
     ·cases h; simp
     ·cases h
    ·split at h
     ·cases h
     ·split at h
      ·cases h
      ·split at h
       ·rename_i e he;cases h;exact nz_many he
       ·cases h
       ·split at h
        ·cases h; simp
        ·cases h
  ·cases h
theorem nz_range {p : Pt} {k : Nat} {x : Int × Int} (h : rangeR p k = .error x) : x.1 ≠ 0 := by
 unfold rangeR at h;split at h
 ·rename_i e he;cases h;exact nz_item he
 ·split at h
  ·split at h
   ·rename_i e he;cases h;exact nz_item he
   ·split at h
    ·cases h; simp
    ·cases h
  ·cases h
theorem nz_clsL {p : Pt} {first : Nat} {x : Int × Int} : ∀ (k : Nat) (all : List Rg) (i : Nat), clsL p first k all i = .error x → x.1 ≠ 0
 | 0, _, _, h => by cases h; simp
 | k + 1, all, i, h => by
  rw [clsL] at h;split at h
  ·cases h; simp
  ·split at h
   ·cases h
   ·split at h
    ·rename_i e he;cases h;exact nz_range he
    ·exact nz_clsL k _ _ h
theorem nz_cls {p : Pt} {f : Nat} : Nz (clsR p f) := by
 intro x h;unfold clsR at h;simp only at h;split at h
 ·rename_i e he;cases h;exact nz_clsL _ _ _ he
 ·cases h
theorem nz_flag {p : Pt} {f : Nat} : ∀ (k i : Nat) (off : Bool) (on of_ : Int), Nz (flagR p f k i off on of_)
 | 0, _, _, _, _ => zu (by decide)
 | k + 1, i, off, on, of_ => by
  rw [flagR]
  repeat' (first | exact jZ | exact zu (by decide) | exact nz_flag _ _ _ _ _ | split)
theorem nz_condE {p : Pt} {f b : Nat} {t : Tk} {ok : Bool} : Nz (condE p f t b ok) := by
 unfold condE
 repeat' (first | exact jZ | exact zu (by decide) | split)
theorem nz_cond {p : Pt} {f i : Nat} : Nz (condR p f i) := by
 unfold condR condN
 repeat' (first | exact jZ | exact nz_condE | exact zu (by decide) | split)
theorem nz_verb {p : Pt} {f : Nat} : Nz (verbR p f) := by
 unfold verbR verbG
 repeat' (first | exact jZ | exact zu (by decide) | split)
theorem nz_num {p : Pt} {f i : Nat} : Nz (numR p f i) := by
 intro x h;unfold numR at h;simp only at h;split at h
 ·cases h; simp
 ·split at h
  ·split at h <;> (cases h; simp)
  ·split at h
   ·rename_i e he;cases h;exact nz_shut (by decide) _ he
   ·split at h
    ·cases h; simp
    ·cases h
theorem nz_kind {p : Pt} {f i : Nat} {g : G} : ∀ l : List (List UInt8 × Int), kindR p f i l = some g → Nz g
 | [], h => by cases h
 | (s, k) :: l, h => by
  rw [kindR] at h;split at h
  ·cases h; exact jZ
  ·exact nz_kind l h
theorem nz_open {p : Pt} {f : Nat} : Nz (openR p f) := by
 unfold openR;split
 ·exact nz_verb
 split
 ·exact jZ
 split
 ·exact zu (by decide)
 split
 ·rename_i g hg;exact nz_kind _ hg
 ·unfold openK;refine nz_if ?_ (nz_if nz_call (nz_if nz_call (nz_if nz_call (nz_if nz_call (nz_if nz_call (nz_if nz_call (nz_if (nz_shut (by decide)) (nz_if (nz_if (zu (by decide)) (nz_shut (by decide))) (nz_if nz_cond (nz_if nz_num (nz_flag _ _ _ _ _)))))))))));cases p.until 41 (f + 2) with
  | none => exact zu (by decide)
  | some j => intro x h; cases h
theorem nz_quan {p : Pt} {i b : Nat} {n m : Int} : Nz (quan p i b n m) := jZ
theorem nz_token {p : Pt} {i : Nat} : Nz (tokR p i) := by
 rw [tokR_eq];refine nz_if ?_ (nz_if ?_ (nz_if nz_esc (nz_if nz_cls (nz_if nz_open (nz_if jZ (nz_if jZ (nz_if jZ (nz_if jZ (nz_if jZ (nz_if nz_quan (nz_if nz_quan (nz_if nz_quan (nz_if ?_ jZ)))))))))))))
 ·intro x h; cases h
 ·intro x h; cases h
 ·cases bracR p i with
  | none => exact jZ
  | some q => exact nz_if (zu (by decide)) (nz_if (zu (by decide)) nz_quan)
def LxRel (w : World) (B : Nat) (S : ByteArray) (p : Pt) (r : R (List Tk)) (vo vi vq : Value) (wr : World) : Prop :=
 ∃ (k i : Nat) (q : Bool) (T : List Tk), i ≤ S.size ∧ S.size < i + k ∧ vi = .int .i64 i ∧ vq = .bool q ∧ T.length ≤ i ∧ Hid (yw wr (B + 1) vo T) ∧ Hid (lexF p k q T i = r) ∧ Hid (FR w B S p wr)
theorem FR.poke {w W W' : World} {B : Nat} {S : ByteArray} {p : Pt} (h : FR w B S p W) (hb : Below (B + 1) W W') : FR w B S p W' := ⟨h.hB, h.below.trans (hb.mono (by omega)), h.x.below hb (by omega)⟩
theorem rlex_any (v : Value) (n : Nat) (g : Nat → Int) (o : Int) (w : World) (hv : Sl w v n g) : Calls Tryz.prog 17 #[v, .int .i64 o] w (LexB w (rlexP (sg (strOf n g)) n o)) := by
 obtain ⟨a, cap, rfl⟩ : ∃ a c, v = .slice a n c := by exact z131
 by_cases h0 : o < 0 ∨ 65535 < o
 ·have HR := xH (show rlexP (sg (strOf n g)) n o = .error (1, 0) by unfold rlexP; rw [if_pos h0]);rcases (show o < 0 ∨ (0 ≤ o ∧ 65535 < o) by omega) with h | ⟨h, h2⟩
  all_goals
   clear h0 hv;go_enter Tryz.func17, Tryz.ntmps17;go_wp2_with fail
   go_ret3
   rw [HR.out];exact ⟨Below.refl _ _, rfl⟩
 have ho0 : 0 ≤ o := by omega
 have ho1 : o ≤ 65535 := by omega
 by_cases h1 : 1000 < n
 ·have HR := xH (show rlexP (sg (strOf n g)) n o = .error (10, 1000) by unfold rlexP; rw [if_neg h0, if_pos h1]);have hn1 : (1000 : Int) < (n : Int) := by omega
  clear h0 hv;go_enter Tryz.func17, Tryz.ntmps17;go_wp2_with fail
  go_ret3
  rw [HR.out];exact ⟨Below.refl _ _, rfl⟩
 have hn1 : ¬ (1000 : Int) < (n : Int) := by omega
 have hu := opt_bit o ho0 ho1 5 (by decide);have hx := opt_bit o ho0 ho1 3 (by decide);rw [show (((2 ^ 5 : Nat) : Int)) = 32 by decide] at hu;rw [show (((2 ^ 3 : Nat) : Int)) = 8 by decide] at hx;have hcv := conv_sl hv;have HV := xH (fun W (hb : Below w.heap.size w W) => rvalid_any (.slice a n cap) n (sg (strOf n g)) W (below_sl hb (sl_sg hv)));have hsz := str_size n g;have hR0 : rlexP (sg (strOf n g)) n o = (if o.toNat.testBit 5 = true ∧ (validP (sg (strOf n g)) n).2 = false then .error (13, (validP (sg (strOf n g)) n).1) else lexF { g := sg (strOf n g), n := n, u := o.toNat.testBit 5, x := o.toNat.testBit 3 } (n + 1) false [] 0) := by unfold rlexP; rw [if_neg h0, if_neg h1]
 have HR0 := xH hR0;have hP : Pat (strOf n g) { g := sg (strOf n g), n := n, u := o.toNat.testBit 5, x := o.toNat.testBit 3 } := ⟨rfl, hsz.symm, by rw [hsz]; omega⟩;have HP := xH hP;have HSZ := xH hsz;clear hR0 hP hsz h0 hv;generalize strOf n g = S at *;generalize o.toNat.testBit 3 = bx at *;generalize o.toNat.testBit 5 = bu at *;have hsz := HSZ.out;subst hsz;generalize rlexP (sg S) S.size o = R at *;have HRA := xH (heap_alloc_new w (.cells #[.string S, .bool bu, .bool bx, .int .i64 255] 61));have hbw0 := qK w (.cells #[.string S, .bool bu, .bool bx, .int .i64 255] 61);have cu : (w.alloc (.cells #[.string S, .bool bu, .bool bx, .int .i64 255] 61)).cell? ⟨w.heap.size, 1, none⟩ = some (.bool bu) := by unfold World.cell?; simp only [HRA.out]; rfl
 have cm : (w.alloc (.cells #[.string S, .bool bu, .bool bx, .int .i64 255] 61)).cell? ⟨w.heap.size, 3, none⟩ = some (.int .i64 255) := by unfold World.cell?; simp only [HRA.out]; rfl
 have cf : (w.alloc (.cells #[.string S, .bool bu, .bool bx, .int .i64 255] 61)).frozen? ⟨w.heap.size, 3, none⟩ = false := by unfold World.frozen?; simp only [HRA.out]; rfl
 go_enter Tryz.func17, Tryz.ntmps17;go_upto_if 35 with (fail)
 generalize w.alloc (.cells #[.string S, .bool bu, .bool bx, .int .i64 255] 61) = W at *;have HB0 := xH hbw0;obtain ⟨B, hB⟩ : ∃ B, w.heap.size = B := ⟨_, rfl⟩;rw [hB] at HRA cu cm cf hbw0 ⊢;have HBB := xH hB;clear hB hbw0;go_cut [8, 9] (fun v8 v9 wx => ∃ p : Pt, Hid (Pat S p) ∧ Hid (R = lexF p (S.size + 1) false [] 0) ∧ Hid (FR w B S p wx))
 case first =>
  cases bu with
  | false =>
   go_wp2_with fail
   go_meet
   exact ⟨_, HP, xH (HR0.out.trans (if_neg (by simp))), xH ⟨HBB.out, by rw [← HBB.out]; exact HB0.out, ⟨HRA.out⟩⟩⟩
  | true =>
   have hb1 : Below w.heap.size w (W.setCell ⟨B, 3, none⟩ (.int .i64 1114111)) := HB0.out.trans ((Below.refl w.heap.size W).setCell (p := ⟨B, 3, none⟩) (by show w.heap.size ≤ B; have := HBB.out; omega) _);have HRB := xH (tkw.heap_set (o := 3) (v := .int .i64 1114111) HRA.out);have HB1 := xH hb1;clear hb1;go_wp2_with fail
   refine (HV.out _ HB1.out).mono ?_;generalize validP (sg S) S.size = vq at *;obtain ⟨q1, q2⟩ := vq;rintro e w2 ⟨rfl, hb2⟩;cases q2 with
   | false =>
    have HR := xH (HR0.out.trans (if_pos (by simp)));go_wp2_with fail
    go_ret3
    rw [HR.out];exact ⟨HB1.out.trans (hb2.mono HB1.out.size), rfl⟩
   | true =>
    go_wp2_with fail
    go_meet
    exact ⟨_, HP, xH (HR0.out.trans (if_neg (by simp))), xH ⟨HBB.out, by rw [← HBB.out]; exact HB1.out.trans (hb2.mono HB1.out.size), ⟨qQ HRB.out hb2⟩⟩⟩
 case rest =>
  obtain ⟨p, HP, HRL, FC⟩ := hcut;have HN := xH HP.out.n;have h2 := HP.out.le;clear cu cm cf HRA HV HB0;obtain ⟨c0, c1, c2, c3⟩ := FC.out.c;go_wp2_with fail
  go_loopw [10, 11, 12] (fun vo vi vq wr => LxRel w B S p R vo vi vq wr) (fun _ vi _ _ => S.size - (intOf vi).toNat)
  case atStart => exact ⟨S.size + 1, 0, false, [], Nat.zero_le _, by omega, rfl, rfl, xL _, xH (row_nil _ _), xH HRL.out.symm, FC⟩
  case round =>
   obtain ⟨k, i, q, T, hi, hk, rfl, rfl, hT, HT, HL, F1⟩ := hrel;clear FC c0 c1 c2 c3;obtain ⟨c0, c1, c2, c3⟩ := F1.out.c;by_cases hlt : i < S.size;case neg =>
    have HR := xH (show R = .ok T by
     have hl := HL.out;cases k with
     | zero => omega
     | succ k => rw [lexF, if_pos (by rw [HN.out]; omega)] at hl; exact hl.symm)
    have hlti : ¬ (i : Int) < (S.size : Int) := by omega
    obtain ⟨va, vn, vc, rfl⟩ := row_form HT.out;go_wp2_with fail
    go_ret3
    rw [HR.out];exact ⟨F1.out.bel, _, rfl, row_base HT.out (by have := F1.out.hB; omega)⟩
   have hlti : (i : Int) < (S.size : Int) := by omega
   obtain ⟨k, rfl⟩ : ∃ k', k = k' + 1 := ⟨k - 1, by omega⟩;have HL1 := xH (HL.out.symm.trans (show lexF p (k + 1) q T i = _ by rw [lexF, if_neg (by rw [HN.out]; omega)]));clear HL;have hB1 : B + 1 ≤ wr.heap.size := by have := F1.out.x.lt; omega
   cases q with
   | true =>
    have HL2 := xH (HL1.out.trans (if_pos rfl));clear HL1;go_wp2_with fail
    refine xM (qG S p _ HP.out i (by omega) [92, 69] ⟨#[92, 69]⟩ rfl (by decide) (Or.inr (by simp))) ?_;rintro e w2 ⟨rfl, hb⟩;have F2 := xH (F1.out.step hb);have HT2 := xH (row_below HT.out hb (Nat.succ_pos B));clear hb c0 c1 c2 c3;obtain ⟨c0, c1, c2, c3⟩ := F2.out.c;cases hE : p.has [92, 69] i with
    | true =>
     have hin := qR HP.out hE;rw [HN.out] at hin;simp only [List.length_cons, List.length_nil] at hin;go_wp2_with fail
     exact ⟨⟨k, i + 2, false, T, by omega, by omega, by simp, rfl, by omega, HT2, xH (HL2.out.trans (if_pos hE)).symm, F2⟩, by simp [intOf]; omega⟩
    | false =>
     have HL3 := xH (HL2.out.trans (if_neg (by simp [hE])));clear HL2;go_wp2_with fail
     refine xM (char_any S p _ HP.out i (by rw [HN.out]; exact hlt)) ?_;rintro e w3 ⟨rfl, hb⟩;have F3 := xH (F2.out.step hb);have HT3 := xH (row_below HT2.out hb (Nat.succ_pos B));clear hb c0 c1 c2 c3;obtain ⟨c0, c1, c2, c3⟩ := F3.out.c;obtain ⟨z1, z2⟩ := zM HP.out (a := i) (by rw [HN.out]; exact hlt);rw [HN.out] at z2;generalize (p.char i).1 = c at *;generalize (p.char i).2 = z at *;have hB3 : B + 1 ≤ w3.heap.size := by have := F3.out.x.lt; omega
     go_wp2_with (at_builtin; refine wpList_append_t rfl _ _ rfl (B + 1) u10 T rfl HT3.out (.slice none 0 0) { kind := 1, at_ := i, «to» := z, c := c } (qm _ _) _ rfl rfl (by omega) hB3 ?_; intro v4 w4 h4 hb4 _; have HT4 := xH h4; have HB4 := xH hb4; clear h4 hb4)
     exact ⟨⟨k, z, true, T ++ [{ kind := 1, at_ := i, «to» := z, c := c }], z2, by omega, rfl, rfl, by rw [List.length_append]; simp only [List.length_cons, List.length_nil]; omega, HT4, xH HL3.out.symm, xH (F3.out.poke HB4.out)⟩, by simp [intOf]; omega⟩
   | false =>
    have HL2 := xH (HL1.out.trans (if_neg (by simp)));clear HL1;go_wp2_with fail
    refine xM (qG S p _ HP.out i (by omega) [92, 81] ⟨#[92, 81]⟩ rfl (by decide) (Or.inr (by simp))) ?_;rintro e w2 ⟨rfl, hb⟩;have F2 := xH (F1.out.step hb);have HT2 := xH (row_below HT.out hb (Nat.succ_pos B));clear hb c0 c1 c2 c3;obtain ⟨c0, c1, c2, c3⟩ := F2.out.c;cases hE : p.has [92, 81] i with
    | true =>
     have hin := qR HP.out hE;rw [HN.out] at hin;simp only [List.length_cons, List.length_nil] at hin;go_wp2_with fail
     exact ⟨⟨k, i + 2, true, T, by omega, by omega, by simp, rfl, by omega, HT2, xH (HL2.out.trans (if_pos hE)).symm, F2⟩, by simp [intOf]; omega⟩
    | false =>
     have HL3 := xH (HL2.out.trans (if_neg (by simp [hE])));clear HL2;go_wp2_with fail
     have HM := token_any S p w2 HP.out i (by rw [HN.out]; exact hlt);cases hr : tokR p i with
     | error x =>
      have hx := nz_token _ hr;have HR := xH (HL3.out.trans (show _ = Except.error x by rw [hr]));obtain ⟨x1, x2⟩ := x;simp only at hx;have bx1 : (x1 != 0) = true := by simpa using hx
      rw [hr] at HM;refine xM HM ?_;rintro e w3 ⟨v, rfl, ho, hb⟩;have F3 := xH (F2.out.step hb);obtain ⟨y1, y2, rfl⟩ := qN ho;have hbw := qK w3 (.cells (gtC (.slice y1 ([] : List Rg).length y2) (.error (x1, x2))) 70);have hgn := heap_alloc_new w3 (.cells (gtC (.slice y1 ([] : List Rg).length y2) (.error (x1, x2))) 70);have F4 := xH (F3.out.step hbw);have ce : (w3.alloc (.cells (gtC (.slice y1 ([] : List Rg).length y2) (.error (x1, x2))) 70)).cell? ⟨w3.heap.size, 14, none⟩ = some (.int .i64 x1) := by unfold World.cell?; rw [hgn]; rfl
      have ca : (w3.alloc (.cells (gtC (.slice y1 ([] : List Rg).length y2) (.error (x1, x2))) 70)).cell? ⟨w3.heap.size, 15, none⟩ = some (.int .i64 x2) := by unfold World.cell?; rw [hgn]; rfl
      simp only [gtC, gtS, List.length_nil] at ce ca hbw hgn F4 ⊢;clear hb ho hr HM;go_wp2_with fail
      go_quiet (fail)
      rename_i nq;go_wp2_with fail
      go_ret3
      rw [HR.out];exact ⟨tkw.zI F4.out.bel _, rfl⟩
     | ok y =>
      obtain ⟨o1, z⟩ := y;obtain ⟨z1, z2⟩ := tokR_bd HP.out (by rw [HN.out]; exact hlt) hr;rw [HN.out] at z2;rw [hr] at HM;cases o1 with
      | none =>
       have HR := xH (HL3.out.trans (show _ = lexF p k false T z by rw [hr]));refine xM HM ?_;rintro e w3 ⟨v, rfl, ho, hb⟩;have F3 := xH (F2.out.step hb);have HT3 := xH (row_below HT2.out hb (Nat.succ_pos B));obtain ⟨y1, y2, rfl⟩ := qN ho;have hbw := qK w3 (.cells (gtC (.slice y1 ([] : List Rg).length y2) (.ok (none, z))) 70);have hgn := heap_alloc_new w3 (.cells (gtC (.slice y1 ([] : List Rg).length y2) (.ok (none, z))) 70);have F4 := xH (F3.out.step hbw);have HT4 := xH (row_below HT3.out hbw (Nat.succ_pos B));have ce : (w3.alloc (.cells (gtC (.slice y1 ([] : List Rg).length y2) (.ok (none, z))) 70)).cell? ⟨w3.heap.size, 14, none⟩ = some (.int .i64 0) := by unfold World.cell?; rw [hgn]; rfl
       have cs : (w3.alloc (.cells (gtC (.slice y1 ([] : List Rg).length y2) (.ok (none, z))) 70)).cell? ⟨w3.heap.size, 12, none⟩ = some (.bool false) := by unfold World.cell?; rw [hgn]; rfl
       have ct : (w3.alloc (.cells (gtC (.slice y1 ([] : List Rg).length y2) (.ok (none, z))) 70)).cell? ⟨w3.heap.size, 13, none⟩ = some (.int .i64 z) := by unfold World.cell?; rw [hgn]; rfl
       simp only [gtC, gtS, List.length_nil] at ce cs ct hbw hgn F4 HT4 ⊢;clear hb ho hr HM;go_wp2_with fail
       exact ⟨⟨k, z, false, T, z2, by omega, rfl, rfl, by omega, HT4, xH HR.out.symm, F4⟩, by simp [intOf]; omega⟩
      | some t =>
       have HR := xH (HL3.out.trans (show _ = lexF p k false (T ++ [t]) z by rw [hr]));refine xM HM ?_;rintro e w3 ⟨v, rfl, ho, hb⟩;have F3 := xH (F2.out.step hb);have HT3 := xH (row_below HT2.out hb (Nat.succ_pos B));have HO3 := xH (qM ho (show B + 1 ≤ w2.heap.size by have := F2.out.x.lt; omega));obtain ⟨y1, y2, rfl⟩ := qN ho;have hbw := qK w3 (.cells (gtC (.slice y1 t.set.length y2) (.ok (some t, z))) 70);have hgn := heap_alloc_new w3 (.cells (gtC (.slice y1 t.set.length y2) (.ok (some t, z))) 70);have F4 := xH (F3.out.step hbw);have HT4 := xH (row_below HT3.out hbw (Nat.succ_pos B));have HO4 := xH (jG HO3.out hbw);have HCT := xH (fun (j : Nat) (u : Value) (hj : (qO (.slice y1 t.set.length y2) t)[j]? = some u) => show (w3.alloc (.cells (gtC (.slice y1 t.set.length y2) (.ok (some t, z))) 70)).cell? ⟨w3.heap.size, j, none⟩ = some u by
        have hj12 : j < 12 := by have := (List.getElem?_eq_some_iff.1 hj).1;simpa [qO] using this
        obtain rfl | rfl | rfl | rfl | rfl | rfl | rfl | rfl | rfl | rfl | rfl | rfl : j = 0 ∨ j = 1 ∨ j = 2 ∨ j = 3 ∨ j = 4 ∨ j = 5 ∨ j = 6 ∨ j = 7 ∨ j = 8 ∨ j = 9 ∨ j = 10 ∨ j = 11 := by omega
        all_goals (simp only [World.cell?, hgn]; simpa [gtC, qO] using hj))
       have ce : (w3.alloc (.cells (gtC (.slice y1 t.set.length y2) (.ok (some t, z))) 70)).cell? ⟨w3.heap.size, 14, none⟩ = some (.int .i64 0) := by unfold World.cell?; rw [hgn]; rfl
       have cs : (w3.alloc (.cells (gtC (.slice y1 t.set.length y2) (.ok (some t, z))) 70)).cell? ⟨w3.heap.size, 12, none⟩ = some (.bool true) := by unfold World.cell?; rw [hgn]; rfl
       have ct : (w3.alloc (.cells (gtC (.slice y1 t.set.length y2) (.ok (some t, z))) 70)).cell? ⟨w3.heap.size, 13, none⟩ = some (.int .i64 z) := by unfold World.cell?; rw [hgn]; rfl
       simp only [gtC, gtS] at ce cs ct hbw hgn F4 HT4 HO4 HCT ⊢;have hB4 : B + 1 ≤ (w3.alloc (.cells (gtC (.slice y1 t.set.length y2) (.ok (some t, z))) 70)).heap.size := by rw [World.size_alloc]; have := F3.out.x.lt; omega
       simp only [gtC] at hB4;clear hb ho hr HM;go_upto_region 29 with (fail)
       go_wp2_with (first
        | (refine wpList_load_tk rfl _ rfl w3.heap.size rfl (.slice y1 t.set.length y2) t HCT.out ?_)
        | (at_builtin; refine wpList_append_t rfl _ _ rfl (B + 1) u10 T rfl HT4.out (.slice y1 t.set.length y2) t HO4.out _ rfl (World.size_alloc ..).symm (by omega) hB4 ?_; intro v5 w5 h5 hb5 hk5; have HT5 := xH h5; have HB5 := xH hb5; have cg := hk5 w3.heap.size (by rw [World.size_alloc]; omega) (row_block HT3.out); have ct5 : w5.cell? ⟨w3.heap.size, 13, none⟩ = some (.int .i64 (z : Int)) := (by unfold World.cell?; rw [cg, hgn]; rfl); clear h5 hb5 hk5 cg))
       exact ⟨⟨k, z, false, T ++ [t], z2, by omega, rfl, rfl, by rw [List.length_append]; simp only [List.length_cons, List.length_nil]; omega, HT5, xH HR.out.symm, xH (F4.out.poke HB5.out)⟩, by simp [intOf]; omega⟩
end rtw
end
section
namespace rtw
open sq
open Go utfp ucdp setp prp tkp rtp
def GE {α : Type} (r : R α) : Prop := ∀ e, r = .error e → e.1 ≠ 0
theorem jq {α : Type} {e : Int × Int} (h : e.1 ≠ 0) : GE (.error e : R α) := fun e' h' => by cases h'; exact h
theorem ge_ok {α : Type} (x : α) : GE (.ok x : R α) := fun e h => by cases h
theorem zL (t : Tk) (f b : Nat) : GE (gtok t f b) := fun e h => by unfold gtok at h; cases h
theorem jD {α : Type} {c : Prop} [Decidable c] {a b : R α} (h1 : GE a) (h2 : GE b) : GE (if c then a else b) := by
 by_cases h : c
 ·rw [if_pos h]; exact h1
 ·rw [if_neg h]; exact h2
theorem refR_e (p : Pt) (f i : Nat) : GE (refR p f i) := by
 unfold refR;simp only
 repeat' (first | exact zL _ _ _ | exact jq (by simp) | refine jD ?_ ?_)
theorem backR_e (p : Pt) (i to_ : Nat) : ∀ l, GE (backR p i to_ l)
 | [] => jq (by simp)
 | (o, z) :: l => by
  rw [backR]
  repeat' (first | exact zL _ _ _ | exact backR_e p i to_ l | refine jD ?_ ?_)
theorem many_e {p : Pt} {c : Int} {i : Nat} {e : Int} (h : many p c i = .error e) : e ≠ 0 := by
 unfold many at h;split at h
 ·split at h
  ·cases h; decide
  ·split at h
   ·cases h
   ·cases h; decide
 ·split at h <;> cases h
theorem escR_e (p : Pt) (i : Nat) : GE (escR p i) := by
 rw [escR_eq]
 repeat' (first | exact zL _ _ _ | exact ge_ok _ | exact jq (by simp) | exact refR_e _ _ _ | exact backR_e _ _ _ _ | refine jD ?_ ?_)
 ·split
  ·exact jq (by simp)
  ·exact zL _ _ _
 ·split
  ·rename_i e he;exact jq (many_e he)
  ·exact zL _ _ _
  ·repeat' (first | exact zL _ _ _ | exact jq (by simp) | refine jD ?_ ?_)
theorem itemE_e (p : Pt) (i b : Nat) : GE (itemE p i b) := by
 unfold itemE;simp only
 repeat' (first | exact ge_ok _ | exact jq (by simp) | refine jD ?_ ?_)
 ·split
  ·exact jq (by simp)
  ·exact ge_ok _
 ·split
  ·rename_i e he;exact jq (many_e he)
  ·exact ge_ok _
  ·repeat' (first | exact ge_ok _ | exact jq (by simp) | refine jD ?_ ?_)
theorem itemR_e (p : Pt) (i : Nat) : GE (itemR p i) := by
 unfold itemR itemC
 repeat' (first | exact ge_ok _ | exact jq (by simp) | exact itemE_e _ _ _ | refine jD ?_ ?_)
theorem rangeR_e (p : Pt) (i : Nat) : GE (rangeR p i) := by
 have h1 := itemR_e p i;unfold rangeR;split
 ·rename_i e he;exact jq (h1 _ he)
 ·rename_i l s to_ _;have h2 := itemR_e p (to_ + 1);refine jD ?_ (ge_ok _);split
  ·rename_i e he;exact jq (h2 _ he)
  ·exact jD (jq (by simp)) (ge_ok _)
theorem clsL_e (p : Pt) (first : Nat) : ∀ (k : Nat) (all : List Rg) (i : Nat), GE (clsL p first k all i)
 | 0, _, _ => jq (by simp)
 | k + 1, all, i => by
  have h1 := rangeR_e p i;rw [clsL];refine jD (jq (by simp)) (jD (ge_ok _) ?_);split
  ·rename_i e he;exact jq (h1 _ he)
  ·exact clsL_e p first k _ _
theorem clsR_e (p : Pt) (f : Nat) : GE (clsR p f) := by
 have h := clsL_e p (if p.has [94] (f + 1) = true then f + 2 else f + 1) (p.n + 1 - (if p.has [94] (f + 1) = true then f + 2 else f + 1)) [] (if p.has [94] (f + 1) = true then f + 2 else f + 1);unfold clsR;simp only;split
 ·rename_i e he;exact jq (h _ he)
 ·exact zL _ _ _
theorem shutR_e (p : Pt) (t : Tk) (f i : Nat) (s : List UInt8) : GE (shutR p t f i s 26) := by
 unfold shutR
 repeat' (first | exact zL _ _ _ | exact jq (by simp) | refine jD ?_ ?_)
theorem callR_e (p : Pt) (t : Tk) (f i : Nat) (s : List UInt8) : GE (callR p t f i s) := by
 unfold callR
 repeat' (first | exact zL _ _ _ | exact jq (by simp) | refine jD ?_ ?_)
theorem flagR_e (p : Pt) (f : Nat) : ∀ (k i : Nat) (off : Bool) (on of_ : Int), GE (flagR p f k i off on of_)
 | 0, _, _, _, _ => jq (by simp)
 | k + 1, i, off, on, of_ => by
  rw [flagR]
  repeat' (first | exact zL _ _ _ | exact jq (by simp) | exact flagR_e p f k _ _ _ _ | refine jD ?_ ?_)
theorem condE_e (p : Pt) (f : Nat) (t : Tk) (to_ : Nat) (ok : Bool) : GE (condE p f t to_ ok) := by
 unfold condE
 repeat' (first | exact zL _ _ _ | exact jq (by simp) | refine jD ?_ ?_)
theorem condR_e (p : Pt) (f i : Nat) : GE (condR p f i) := by
 unfold condR condN
 repeat' (first | exact zL _ _ _ | exact jq (by simp) | exact condE_e _ _ _ _ _ | refine jD ?_ ?_)
theorem verbR_e (p : Pt) (f : Nat) : GE (verbR p f) := by
 have hv : ∀ (f i : Nat) (word arg : ByteArray) (wth : Bool), GE (verbG f i word arg wth) := fun f i word arg wth => by
  unfold verbG
  repeat' (first | exact zL _ _ _ | exact jq (by simp) | refine jD ?_ ?_)
 unfold verbR;split
 ·exact jq (by simp)
 ·split
  ·exact hv _ _ _ _ _
  ·exact hv _ _ _ _ _
theorem kindR_e (p : Pt) (f i : Nat) : ∀ (l : List (List UInt8 × Int)), ∀ g, kindR p f i l = some g → GE g
 | [], g, h => by cases h
 | (s, k) :: l, g, h => by
  rw [kindR] at h;split at h
  ·cases h;exact zL _ _ _
  ·exact kindR_e p f i l g h
theorem numR_e (p : Pt) (f i : Nat) : GE (numR p f i) := by
 have h1 := shutR_e p { kind := 12, n := (sgn p i).1, m := (sgn p i).2.1 } f (sgn p i).2.2.1 [41];unfold numR;simp only;refine jD (jq (by simp)) (jD (jD (jq (by simp)) (jq (by simp))) ?_);split
 ·rename_i e he;exact jq (h1 _ he)
 ·exact jD (jq (by simp)) (ge_ok _)
theorem openK_e (p : Pt) (f i : Nat) : GE (openK p f i) := by
 unfold openK
 repeat' (first | exact callR_e _ _ _ _ _ | exact shutR_e _ _ _ _ _ | exact condR_e _ _ _ | exact numR_e _ _ _ | exact flagR_e _ _ _ _ _ _ _ | exact jq (by simp) | refine jD ?_ ?_)
 split
 ·exact jq (by simp)
 ·exact ge_ok _
theorem openR_e (p : Pt) (f : Nat) : GE (openR p f) := by
 unfold openR;refine jD (verbR_e _ _) (jD (zL _ _ _) (jD (jq (by simp)) ?_));split
 ·rename_i g hg;exact kindR_e p f (f + 2) kindsT g hg
 ·exact openK_e _ _ _
theorem tokR_e (p : Pt) (i : Nat) : GE (tokR p i) := by
 have hq : ∀ (i to_ : Nat) (n m : Int), GE (quan p i to_ n m) := fun i to_ n m => zL _ _ _
 rw [tokR_eq]
 repeat' (first | exact ge_ok _ | exact zL _ _ _ | exact escR_e _ _ | exact clsR_e _ _ | exact openR_e _ _ | exact hq _ _ _ _ | refine jD ?_ ?_)
 split
 ·exact zL _ _ _
 ·repeat' (first | exact jq (by simp) | exact hq _ _ _ _ | refine jD ?_ ?_)
theorem lexF_e (p : Pt) : ∀ (k : Nat) (q : Bool) (T : List Tk) (i : Nat), GE (lexF p k q T i)
 | 0, _, T, _ => ge_ok _
 | k + 1, q, T, i => by
  have h := tokR_e p i;rw [lexF];refine jD (ge_ok _) (jD (jD (lexF_e p k _ _ _) (lexF_e p k _ _ _)) (jD (lexF_e p k _ _ _) ?_));split
  ·rename_i e he;exact jq (h _ he)
  ·exact lexF_e p k _ _ _
  ·exact lexF_e p k _ _ _
theorem rlex_e (g : Nat → Int) (n : Nat) (o : Int) : GE (rlexP g n o) := by unfold rlexP;exact jD (jq (by simp)) (jD (jq (by simp)) (jD (jq (by simp)) (lexF_e _ _ _ _ _)))
end rtw
end
section
namespace rsw
open sq
open Go.Sort Go Go.RowKit Go.Maps setp setw tkp trp trw rpp rsp
open rpw (sees jB qU fC jP FSub vw jQ app_sub jH jm own_below qp oneR zk jV qA qh jU lab_ok rg_nil ql)
open rpw (jc qI)
open tkw (qM)
theorem okF_at {f : F} {i : Nat} {x : Lab} {k r : F} (h : OkF f) (hd : f.drop i = .cons x k r) : OkF (F.one x k) := by have := okF_drop i h;rw [hd] at this;exact ⟨this.1, this.2.1, this.2.2.1, trivial⟩
end rsw
end
section
namespace fgp
open sq
open Go tkp trp rpp rsp setp setw
def ownF (u : Bool) (m : Int) (x : Lab) (k : F) (f : Int) : F :=
 if x.kind = 1 then F.one { bare x with kind := 2, set := setP u m [(x.c, x.c)] (decide (andI f 1 ≠ 0)) false, c := 0 } k
 else if x.kind = 2 then F.one { bare x with set := setP u m x.set (decide (andI f 1 ≠ 0)) x.neg, neg := false } k
 else if x.kind = 3 then F.one { bare x with kind := 2, set := setP u m (if andI f 4 = 0 then [(10, 10)] else []) false true } k
 else if x.kind = 4 then F.one { bare x with n := assN f x.n } k
 else if x.kind = 6 then lineF m x.at_
 else if x.kind = 7 then F.one { bare x with on := if andI f 1 ≠ 0 then 1 else x.on } k
 else F.one { bare x with mode := repM f x.kind x.mode } k
def putP (u : Bool) (m : Int) (rp : Int → F × Int) (rk : Int → F) (x : Lab) (f : Int) : F × Int :=
 if x.kind = 11 then (.nil, turnI f x.on x.off)
 else if x.kind = 12 then rp f
 else if x.kind = 15 then ((rp (turnI f x.on x.off)).1, f)
 else (ownF u m x (rk f) f, f)
def bothP (u : Bool) (m : Int) : F → Int → (F × Int) × F
 | .nil, f => ((.nil, f), .nil)
 | .cons x k r, f =>
  let t := putP u m (fun g => (bothP u m k g).1) (fun g => (bothP u m k g).2) x f
  let q := bothP u m r t.2
  ((F.app t.1 q.1.1, q.1.2), F.app (oneF 12 t.1) q.2)
def noAlt : F → Prop
 | .nil => True
 | .cons x _ r => x.kind ≠ 13 ∧ noAlt r
def bareL (x : Lab) : Prop := x.n = 0 ∧ x.m = 0 ∧ x.mode = 0 ∧ x.name = ⟨#[]⟩ ∧ x.on = 0 ∧ x.off = 0
def RawF : F → Prop
 | .nil => True
 | .cons x k r =>
  (x.kind = 13 → r = .nil) ∧ (x.kind = 12 → noAlt k) ∧ (x.kind = 15 → k.len = 1) ∧
  (x.kind = 1 ∨ x.kind = 2 ∨ x.kind = 3 ∨ x.kind = 4 ∨ x.kind = 7 → k = .nil) ∧
  (x.kind = 1 → bareL x ∧ x.set = [] ∧ x.neg = false) ∧ (x.kind = 2 → bareL x ∧ x.c = 0) ∧
  (x.kind = 3 → bareL x ∧ x.c = 0 ∧ x.set = [] ∧ x.neg = false) ∧ (x.kind = 7 → x.on = 0) ∧
  RawF k ∧ RawF r
def B (f : Int) : BitVec 64 := BitVec.ofInt 64 f
theorem wrap_nat (n : Nat) (h : n < 2 ^ 64) : IntKind.i64.wrap (n : Int) = if n < 2 ^ 63 then (n : Int) else (n : Int) - 2 ^ 64 := by
 show (if true && decide ((n : Int) % (2 ^ 64 : Int) ≥ (2 ^ 63 : Int)) then (n : Int) % (2 ^ 64 : Int) - (2 ^ 64 : Int) else (n : Int) % (2 ^ 64 : Int)) = _;have e : ((n : Int) % 2 ^ 64) = n := by omega
 simp only [e, Bool.true_and, decide_eq_true_eq];by_cases c : n < 2 ^ 63
 ·rw [if_neg (by omega), if_pos c]
 ·rw [if_pos (by omega), if_neg c]
theorem B_wrap (v : BitVec 64) : B (IntKind.i64.wrap (v.toNat : Int)) = v := by unfold B;apply BitVec.eq_of_toNat_eq;rw [BitVec.toNat_ofInt, wrap_nat _ v.isLt];have h := v.isLt;split <;> omega
theorem B_or (f n : Int) : B (bits .or .i64 f n) = B f ||| B n := B_wrap _
theorem B_not (f n : Int) : B (bits .andNot .i64 f n) = B f &&& ~~~B n := B_wrap _
def Ag (f g : Int) : Prop := B f &&& 23#64 = B g &&& 23#64
theorem ag_turn {f g : Int} (h : Ag f g) (on off : Int) : Ag (turnI f on off) (turnI g on off) := by
 unfold Ag turnI at *;rw [B_not, B_not, B_or, B_or];refine BitVec.eq_of_getLsbD_eq fun i hi => ?_
 have e := congrArg (fun v => BitVec.getLsbD v i) h;simp only [BitVec.getLsbD_and, BitVec.getLsbD_or] at e ⊢;cases hc : (23#64).getLsbD i
 ·simp
 ·rw [hc, Bool.and_true, Bool.and_true] at e;rw [e]
theorem ag_and {f g : Int} (h : Ag f g) (b : Int) (hb : B b &&& 23#64 = B b) : andI f b = andI g b := by
 have e : B f &&& B b = B g &&& B b := by rw [← hb, BitVec.and_comm (B b), ← BitVec.and_assoc, ← BitVec.and_assoc, h]
 show IntKind.i64.wrap ((B f &&& B b).toNat : Int) = IntKind.i64.wrap ((B g &&& B b).toNat : Int);rw [e]
theorem own_ag (u : Bool) (m : Int) (x : Lab) (k : F) {f g : Int} (h : Ag f g) : ownF u m x k f = ownF u m x k g := by have h1 := ag_and h 1 rfl;have h2 := ag_and h 2 rfl;have h4 := ag_and h 4 rfl;have h16 := ag_and h 16 rfl;simp only [ownF, assN, repM, h1, h2, h4, h16]
theorem put_ag (u : Bool) (m : Int) (rp : Int → F × Int) (rk : Int → F) (x : Lab) {f g : Int} (h : Ag f g)
 (ih : ∀ {f g}, Ag f g → (rp f).1 = (rp g).1 ∧ Ag (rp f).2 (rp g).2 ∧ rk f = rk g) :
 (putP u m rp rk x f).1 = (putP u m rp rk x g).1 ∧ Ag (putP u m rp rk x f).2 (putP u m rp rk x g).2 := by
 unfold putP;split
 ·exact ⟨rfl, ag_turn h _ _⟩
 split
 ·exact ⟨(ih h).1, (ih h).2.1⟩
 split
 ·exact ⟨(ih (ag_turn h _ _)).1, h⟩
 ·refine ⟨?_, h⟩;show ownF u m x (rk f) f = ownF u m x (rk g) g;rw [(ih h).2.2, own_ag u m x _ h]
theorem both_ag (u : Bool) (m : Int) : ∀ (l : F) {f g : Int}, Ag f g → (bothP u m l f).1.1 = (bothP u m l g).1.1 ∧ Ag (bothP u m l f).1.2 (bothP u m l g).1.2 ∧ (bothP u m l f).2 = (bothP u m l g).2
 | .nil, _, _, h => ⟨rfl, h, rfl⟩
 | .cons x k r, f, g, h => by obtain ⟨a, b⟩ := put_ag u m (fun g => (bothP u m k g).1) (fun g => (bothP u m k g).2) x h (fun h => both_ag u m k h);obtain ⟨c, d, e⟩ := both_ag u m r b;rw [bothP, bothP];simp only;rw [a, c, e];exact ⟨rfl, d, rfl⟩
def answerP (t : Nd) (o : Int) : F := oneF 12 (putP (decide (andI o 32 ≠ 0)) (if andI o 32 ≠ 0 then 1114111 else 255) (fun g => (bothP (decide (andI o 32 ≠ 0)) (if andI o 32 ≠ 0 then 1114111 else 255) t.2 g).1) (fun g => (bothP (decide (andI o 32 ≠ 0)) (if andI o 32 ≠ 0 then 1114111 else 255) t.2 g).2) t.1 o).1
end fgp
end
section
namespace fkw
open sq
open Go.Sort Go Go.RowKit Go.Maps setp setw tkp trp trw rpp rsp rsw fgp
open rpw (sees jB qU fC jP FSub vw jQ app_sub jH jm own_below qp)
structure Ch (b : Nat) (v v' : Value) (w w' : World) : Prop where
 os : w'.os = w.os
 tape : w'.tape = w.tape
 output : w'.output = w.output
 size : w.heap.size ≤ w'.heap.size
 block : ∀ q, q < w.heap.size → q ≠ b → v.ownBlock ≠ some q → w'.heap[q]? = w.heap[q]?
 own : ∀ g, v'.ownBlock = some g → v.ownBlock = some g ∨ w.heap.size ≤ g
theorem Ch.refl (b : Nat) (v : Value) (w : World) : Ch b v v w w := ⟨rfl, rfl, rfl, xL _, fun _ _ _ _ => rfl, fun _ e => Or.inl e⟩
theorem Ch.trans {b : Nat} {v v' v'' : Value} {w w' w'' : World} (h : Ch b v v' w w') (k : Ch b v' v'' w' w'') : Ch b v v'' w w'' :=
 ⟨k.os.trans h.os, k.tape.trans h.tape, k.output.trans h.output, Nat.le_trans h.size k.size, fun q hq hb hv => (k.block q (Nat.lt_of_lt_of_le hq h.size) hb (fun e => by
  rcases h.own q e with e2 | e2
  ·exact hv e2
  ·omega)).trans (h.block q hq hb hv), fun g e => by
  rcases k.own g e with e2 | e2
  ·exact h.own g e2
  ·exact Or.inr (Nat.le_trans h.size e2)⟩
theorem Ch.of_below {w w' : World} (h : Below w.heap.size w w') (b : Nat) (v : Value) : Ch b v v w w' := ⟨h.os, h.tape, h.output, h.size, fun q hq _ _ => h.block q hq, fun _ e => Or.inl e⟩
theorem Ch.inner {b b' : Nat} {v v' : Value} {w w1 w' : World} (hb : Below w.heap.size w w1) (h : Ch b' v v' w1 w') (hb' : w.heap.size ≤ b') : Ch b v v' w w' :=
 ⟨h.os.trans hb.os, h.tape.trans hb.tape, h.output.trans hb.output, Nat.le_trans hb.size h.size, fun q hq _ hv => (h.block q (Nat.lt_of_lt_of_le hq hb.size) (by omega) hv).trans (hb.block q hq), fun g e => by
  rcases h.own g e with e2 | e2
  ·exact Or.inl e2
  ·exact Or.inr (Nat.le_trans hb.size e2)⟩
theorem Ch.below {b N : Nat} {v v' : Value} {w0 w w' : World} (h : Ch b v v' w w') (hB : Below N w0 w) (hN : N ≤ w.heap.size) (hb : N ≤ b) (hv : ∀ g, v.ownBlock = some g → N ≤ g) : Below N w0 w' :=
 ⟨h.os.trans hB.os, h.tape.trans hB.tape, h.output.trans hB.output, Nat.le_trans hB.size h.size, fun q hq => (h.block q (by omega) (by omega) (fun e => by have := hv q e; omega)).trans (hB.block q hq)⟩
theorem Ch.drop {b : Nat} {v v' : Value} {w w' : World} (h : Ch b v v' w w') : Ch b v nil3 w w' := ⟨h.os, h.tape, h.output, h.size, h.block, fun _ e => by cases e⟩
def ScAt (w : World) (b : Nat) (u : Bool) (m f : Int) : Prop := w.heap[b]? = some (.cells #[.bool u, .int .i64 m, .int .i64 f] 50 (0, 0))
theorem ScAt.lt {w : World} {b : Nat} {u : Bool} {m f : Int} (h : ScAt w b u m f) : b < w.heap.size := (Array.getElem?_eq_some_iff.1 h).1
theorem ScAt.keep {w w' : World} {b : Nat} {u : Bool} {m f : Int} (h : ScAt w b u m f) (hb : Below w.heap.size w w') : ScAt w' b u m f := (hb.block b h.lt).trans h
theorem ScAt.ch {w w' : World} {b b' : Nat} {v v' : Value} {u : Bool} {m f : Int} (h : ScAt w b u m f) (hc : Ch b' v v' w w') (hb : b ≠ b') (hv : v.ownBlock ≠ some b) : ScAt w' b u m f := (hc.block b h.lt hb hv).trans h
theorem ownH_ch {h : Nat → Bool} {n b : Nat} {r v' : Value} {w w' : World} {f : F} (H : OwnH h n w r f) (hc : Ch b nil3 v' w w') (hb : h b = true) (hr : r.ownBlock ≠ some b) : OwnH h n w' r f :=
 ⟨tkw.jJ H.1 (fun k hk => hc.block k (own_below H.1 hk).2 (fun e => hr (e ▸ hk)) (by intro e; cases e)), H.2.1,
  vw (qU fun a u h1 hk => ⟨h1, (World.cell?_of_block (hc.block a.block (cell_lt hk) (fun e => by simp [hx, e, hb] at h1) (by intro e; cases e))).trans hk⟩) H.2.2⟩
theorem ownH_hide {h h' : Nat → Bool} {n : Nat} {v : Value} {w w' : World} {f : F} (H : OwnH h n w v f) (hb : Below w.heap.size w w') (hh : ∀ i, h' i = true → h i = true ∨ w.heap.size ≤ i) : OwnH h' n w' v f :=
 ⟨tkw.jJ H.1 (fun k hk => hb.block k (own_below H.1 hk).2), H.2.1, vw (qU fun a u h1 hk => by
  have hl := cell_lt hk;refine ⟨?_, trw.qf hb hk⟩;simp only [hx, Bool.or_eq_false_iff, decide_eq_false_iff_not] at h1 ⊢;refine ⟨?_, h1.2⟩;cases e : h' a.block with
  | false => rfl
  | true =>
   rcases hh _ e with e2 | e2
   ·rw [h1.1] at e2; cases e2
   ·omega) H.2.2⟩
theorem ownH_show {h h' : Nat → Bool} {n : Nat} {v : Value} {w : World} {f : F} (H : OwnH h' n w v f) (hh : ∀ i, h i = true → h' i = true) : OwnH h n w v f :=
 ⟨H.1, H.2.1, vw (qU fun a u h1 hk => by
  refine ⟨?_, hk⟩;simp only [hx, Bool.or_eq_false_iff, decide_eq_false_iff_not] at h1 ⊢;refine ⟨?_, h1.2⟩;cases e : h a.block with
  | false => rfl
  | true => rw [hh _ e] at h1; exact absurd h1.1 (by simp)) H.2.2⟩
theorem nd_show {h h' : Nat → Bool} {w : World} {t : Nd} (H : NdAt (sees h' w) t) (hh : ∀ i, h i = true → h' i = true) : NdAt (sees h w) t :=
 qY (qU fun a u h1 hk => by
  refine ⟨?_, hk⟩;cases e : h a.block with
  | false => rfl
  | true =>
   rw [hh _ e] at h1;cases h1) H
end fkw
end
section
namespace fgp
open sq
open Go ucdp tkp rsp setp setw
theorem others_low {c d : Int} (h : c ∈ jy d false) : d ≤ 255 := by
 unfold jy at h;rw [if_pos rfl] at h;by_cases a : 65 ≤ d ∧ d ≤ 90
 ·omega
 rw [if_neg a] at h;by_cases b : 97 ≤ d ∧ d ≤ 122
 ·omega
 rw [if_neg b] at h;cases h
theorem class_is {u : Bool} {m : Int} {l N C W Z : List Rg} {cl neg : Bool} (hu : (u = true ∧ m = 1114111) ∨ (u = false ∧ m = 255))
 (hc : ∀ c, (Has (caseM (normR m l) u) c ∧ 0 ≤ c ∧ c ≤ min 1114111 1114111) ↔ Has (normR m l) c ∨ ∃ d, Has (normR m l) d ∧ c ∈ jy d u)
 (hN : ∀ c, Has N c ↔ Has l c ∧ 0 ≤ c ∧ c ≤ 1114111) (hC : ∀ c, Has C c ↔ Has N c ∨ ∃ d, Has N d ∧ c ∈ jy d u)
 (hW : Canon W) (hW2 : ∀ c, Has W c ↔ Has (if cl = true then C else l) c ∧ 0 ≤ c ∧ c ≤ m)
 (hZ : neg = true → Canon Z ∧ ∀ c, Has Z c ↔ 0 ≤ c ∧ c ≤ m ∧ ¬ Has W c) : (if neg = true then Z else W) = setP u m l cl neg := by
 have hm : m ≤ 1114111 := by rcases hu with h | h <;> omega
 have y : W = if cl = true then normR m (caseM (normR m l) u) else normR m l := by
  cases cl with
  | false => exact normR_only hm hW hW2
  | true =>
   refine normR_only hm hW fun c => ?_
   rw [hW2];constructor
   ·rintro ⟨a, h0, h1⟩;refine ⟨((hc c).2 ?_).1, h0, h1⟩;rcases (hC c).1 a with a | ⟨d, a, b⟩
    ·exact .inl ((normR_has hm l c).2 ⟨((hN c).1 a).1, h0, h1⟩)
    ·have a := (hN d).1 a;refine .inr ⟨d, (normR_has hm l d).2 ⟨a.1, a.2.1, ?_⟩, b⟩;rcases hu with ⟨rfl, rfl⟩ | ⟨rfl, rfl⟩
     ·exact a.2.2
     ·exact others_low b
   ·rintro ⟨a, h0, h1⟩;refine ⟨(hC c).2 ?_, h0, h1⟩;rcases (hc c).1 ⟨a, h0, by omega⟩ with a | ⟨d, a, b⟩
    ·have a := (normR_has hm l c).1 a;exact .inl ((hN c).2 ⟨a.1, h0, by omega⟩)
    ·have a := (normR_has hm l d).1 a;exact .inr ⟨d, (hN d).2 ⟨a.1, a.2.1, by omega⟩, b⟩
 have yn : normR m W = W := (normR_only hm hW fun c => ⟨fun e => ⟨e, ((hW2 c).1 e).2⟩, fun e => e.1⟩).symm;unfold setP;simp only;rw [← y, yn];cases neg with
 | false => rfl
 | true => exact notR_only hm (hZ rfl).1 hW (hZ rfl).2
end fgp
end
end Go.Proofs.YtikjhfmmfpeaoaaGreatDoor
