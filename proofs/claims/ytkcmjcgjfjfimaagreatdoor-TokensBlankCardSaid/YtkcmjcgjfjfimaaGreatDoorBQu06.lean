/- Texts that TokensQuoteLaw leans on, merged: what the functions of the program answer. -/
import Derived.BigQuiet
import Derived.Deep.QuietTactic
import Derived.Deep.RegionHeld3
import Derived.IntWalk
import Derived.Laws.Cover2
import Derived.Laws.Cover3
import Derived.Laws.FloatArith
import Derived.Lib.OwnBridge
import Derived.Outline
import Derived.Shelf.Lays8
import Derived.Shelf.SlLaysC2
import Derived.Shelf.SlLaysE
import Derived.Shelf.SlLaysE0
import Derived.Shelf.SlLaysF
import Derived.Shelf.SlLaysH
import Derived.Shelf.SlSortCmp.NoneTotal
import Derived.Shelf.SlicesE.Equal
import Derived.Shelf.SlicesE.IndexFunc
import Derived.Shelf.SlicesG.Cmp
import Derived.Sort.Walk0
import Derived.StillTailTactics
import Derived.Test.YtkcmjcgjfjfimaaGreatDoorChecked
import Derived.WalkLawsBesides
import GoSem.Core.Float
import Derived.Test.YtkcmjcgjfjfimaaGreatDoorBQu02
section
namespace Go.Proofs.YtkcmjcgjfjfimaaGreatDoor.flt
open Go Ieee
def fwn (n : Nat) : Nat := FloatKind.f64.nearest (n : Int)
theorem lim1 {L m B : Nat} (hL : L ≤ 52) (hm : m < 2 * B) : (L + 1022) * B + m ≤ 2047 * B := by
 have h := Nat.mul_le_mul_right B (show L + 1022 ≤ 1074 by omega)
 omega
theorem up_lt {n : Nat} (hL : n.log2 ≤ 52) : n * 2 ^ (52 - n.log2) < 2 * 2 ^ 52 := by
 have h1 : n < 2 ^ (n.log2 + 1) := Nat.lt_log2_self
 have h2 : 2 ^ (n.log2 + 1) * 2 ^ (52 - n.log2) = 2 * 2 ^ 52 := by
   rw [← Nat.pow_add, show n.log2 + 1 + (52 - n.log2) = 52 + 1 by omega, Nat.pow_succ, Nat.mul_comm]
 rw [← h2]
 exact Nat.mul_lt_mul_of_pos_right h1 (Nat.two_pow_pos _)
theorem up_ge {n : Nat} (h0 : n ≠ 0) (hL : n.log2 ≤ 52) : 2 ^ 52 ≤ n * 2 ^ (52 - n.log2) := by
 have h1 : 2 ^ n.log2 ≤ n := Nat.log2_self_le h0
 have h2 : 2 ^ n.log2 * 2 ^ (52 - n.log2) = 2 ^ 52 := by
   rw [← Nat.pow_add, show n.log2 + (52 - n.log2) = 52 by omega]
 rw [← h2]
 exact Nat.mul_le_mul_right _ h1
theorem log_le {n : Nat} (h0 : n ≠ 0) (h : n < 2 ^ 53) : n.log2 ≤ 52 := by
 have := (Nat.log2_lt h0).2 h
 omega
theorem least : double.leastPlace = -1074 := by decide
theorem rungs : double.infRung = 2047 * 2 ^ 52 := by decide +kernel
theorem cut_none (n : Nat) : Toward.even.cut false n 0 = n := by
 simp [Toward.cut, Nat.mod_one]
theorem binade_eq : double.binade = 2 ^ 52 := rfl
theorem fraction_eq : double.fractionBits = 52 := rfl
theorem near_any (f : Format) (n B : Nat) (hf : f.fractionBits = 52) (hl : f.leastPlace = -1074) (hb : f.binade = B) (hr : f.infRung = 2047 * B) (h0 : n ≠ 0) (hL : n.log2 ≤ 52) (hup : n * 2 ^ (52 - n.log2) < 2 * B) : f.nearest false n 0 = (n.log2 + 1022) * B + n * 2 ^ (52 - n.log2) := by
 unfold Format.nearest
 rw [if_neg h0, hl, hr, hf, hb]
 have e1 : max ((0 : Int) + (n.log2 : Int) - ((52 : Nat) : Int)) (-1074) = (n.log2 : Int) - 52 := by omega
 have e2 : ((0 : Int) - ((n.log2 : Int) - 52)).toNat = 52 - n.log2 := by omega
 have e3 : ((n.log2 : Int) - 52 - 0).toNat = 0 := by omega
 have e4 : ((n.log2 : Int) - 52 - (-1074)).toNat = n.log2 + 1022 := by omega
 simp only [e1, e2, e3, e4, cut_none, Nat.shiftLeft_eq]
 rw [Nat.min_eq_left (lim1 hL hup)]
 rfl
theorem near (n : Nat) (h0 : n ≠ 0) (hL : n.log2 ≤ 52) : double.nearest false n 0 = (n.log2 + 1022) * 2 ^ 52 + n * 2 ^ (52 - n.log2) :=
 near_any double n (2 ^ 52) fraction_eq least binade_eq rungs h0 hL (up_lt hL)
theorem fw_pos {n : Nat} (h0 : n ≠ 0) (h : n < 2 ^ 53) : fwn n = (n.log2 + 1022) * 2 ^ 52 + n * 2 ^ (52 - n.log2) := by
 have hd : fwn n = double.nearest (decide ((n : Int) < 0)) (n : Int).natAbs 0 := rfl
 rw [hd, show decide ((n : Int) < 0) = false by simp, Int.natAbs_natCast, near n h0 (log_le h0 h)]
theorem read_any (L m B : Nat) (hL : L ≤ 52) (hB : 0 < B) (h1 : B ≤ m) (h2 : m < 2 * B) : ((L + 1022) * B + m) / (2048 * B) = 0 ∧ ((L + 1022) * B + m) % (2048 * B) = (L + 1022) * B + m ∧ ((L + 1022) * B + m) / B = L + 1023 ∧ ((L + 1022) * B + m) % B = m - B := by
 obtain ⟨r, rfl⟩ : ∃ r, m = B + r := ⟨m - B, by omega⟩
 have hr : r < B := by omega
 have h := Nat.mul_le_mul_right B (show L + 1022 ≤ 1074 by omega)
 have e : (L + 1022) * B + (B + r) = r + B * (L + 1023) := by
   rw [show L + 1023 = L + 1022 + 1 by omega, Nat.mul_add B, Nat.mul_one, Nat.mul_comm B]; omega
 refine ⟨Nat.div_eq_of_lt (by omega), Nat.mod_eq_of_lt (by omega), ?_, ?_⟩
 · rw [e, Nat.add_mul_div_left _ _ hB, Nat.div_eq_of_lt hr, Nat.zero_add]
 · rw [e, Nat.add_mul_mod_self_left, Nat.mod_eq_of_lt hr]; omega
theorem read_f (f : Format) (L m B : Nat) (hl : f.leastPlace = -1074) (hb : f.binade = B) (hr : f.infRung = 2047 * B) (hs : f.signWeight = 2048 * B) (hL : L ≤ 52) (hlo : B ≤ m) (hup : m < 2 * B) (hB : 0 < B) : f.read ((L + 1022) * B + m) = .number false m ((L : Int) - 52) := by
 unfold Format.read
 rw [hl, hr, hs, hb]
 obtain ⟨e1, e2, e3, e4⟩ := read_any L m B hL hB hlo hup
 have h5 := Nat.mul_le_mul_right B (show L + 1022 ≤ 1074 by omega)
 have h6 : ¬ ((L + 1022) * B + m < B) := by omega
 have h7 : (L + 1022) * B + m < 2047 * B := by omega
 simp only [e1, e2, e3, e4, if_neg h6, if_pos h7]
 have e5 : B + (m - B) = m := by omega
 have e6 : (-1074 : Int) + ((L + 1023 - 1 : Nat) : Int) = (L : Int) - 52 := by omega
 rw [e5, e6]
 rfl
theorem sign_eq : double.signWeight = 2048 * 2 ^ 52 := by decide +kernel
theorem read_fw {n : Nat} (h0 : n ≠ 0) (h : n < 2 ^ 53) : FloatKind.f64.decode (fwn n) = .number false (n * 2 ^ (52 - n.log2)) ((n.log2 : Int) - 52) := by
 rw [fw_pos h0 h]
 exact read_f double _ _ (2 ^ 52) least binade_eq rungs sign_eq (log_le h0 h) (up_ge h0 (log_le h0 h)) (up_lt (log_le h0 h)) (Nat.two_pow_pos _)
theorem toInt_fw {n : Nat} (h : n < 2 ^ 53) : (FloatKind.f64.decode (fwn n)).toInt .zero = some (n : Int) := by
 by_cases h0 : n = 0
 · subst h0; decide +kernel
 · have hL := log_le h0 h
   have hne : n * 2 ^ (52 - n.log2) ≠ 0 := Nat.mul_ne_zero h0 (Nat.pos_iff_ne_zero.1 (Nat.two_pow_pos _))
   have hlog : 52 - n.log2 ≤ (n * 2 ^ (52 - n.log2)).log2 := (Nat.le_log2 hne).2 (Nat.le_mul_of_pos_left _ (Nat.pos_of_ne_zero h0))
   rw [read_fw h0 h]
   unfold Datum.toInt Datum.integral
   simp only []
   have e1 : ((n.log2 : Int) - 52).toNat = 0 := by omega
   have e2 : (-((n.log2 : Int) - 52)).toNat = 52 - n.log2 := by omega
   rw [e1, e2, Nat.shiftLeft_zero]
   have hc : Toward.zero.cut false (n * 2 ^ (52 - n.log2)) (52 - n.log2) = n := by
     unfold Toward.cut
     rw [Nat.min_eq_left (by omega), Nat.shiftLeft_eq, Nat.one_mul]
     simp only [Nat.mul_div_cancel _ (Nat.two_pow_pos (52 - n.log2))]
     rfl
   rw [hc]
   simp [signed]
def cl (x : Int) : Int := max 0 (min x 1114111)
def fw (x : Int) : Nat := FloatKind.f64.nearest (cl x)
theorem cl_bd (x : Int) : 0 ≤ cl x ∧ cl x ≤ 1114111 := by unfold cl; omega
theorem cl_id {x : Int} (h0 : 0 ≤ x) (h1 : x ≤ 1114111) : cl x = x := by unfold cl; omega
theorem fw_eq (x : Int) : fw x = fwn (cl x).toNat := by
 unfold fw fwn
 rw [Int.toNat_of_nonneg (cl_bd x).1]
theorem small (x : Int) : (cl x).toNat < 2 ^ 53 := by
 have := cl_bd x
 omega
theorem fw_int (x : Int) : (FloatKind.f64.decode (fw x)).toInt .zero = some (cl x) := by
 rw [fw_eq, toInt_fw (small x), Int.toNat_of_nonneg (cl_bd x).1]
theorem fw_near {x : Int} (h0 : 0 ≤ x) (h1 : x ≤ 1114111) : FloatKind.f64.nearest x = fw x := by
 unfold fw
 rw [cl_id h0 h1]
end Go.Proofs.YtkcmjcgjfjfimaaGreatDoor.flt
end
section
namespace Go.Proofs.YtkcmjcgjfjfimaaGreatDoor.setw
open Go Go.RowKit bulk ucdp ucdw setp flt
def zc (r : Rg) : Value := .complex .f64 (fw r.1) (fw r.2)
theorem fw_val (x : Int) : floatToIntVal .f64 (fw x) .i64 = some (cl x) := by
 unfold floatToIntVal
 rw [fw_int]
 have := cl_bd x
 have h : IntKind.i64.min ≤ cl x ∧ cl x ≤ IntKind.i64.max := by
   rw [show IntKind.i64.min = -9223372036854775808 by decide, show IntKind.i64.max = 9223372036854775807 by decide]
   omega
 simp only [if_pos h]
theorem conv_int (x : Int) (w : World) : (convert 163 3 (.float .f64 (fw x))).run Tryz.prog w = .ok (.int .i64 (cl x)) w :=
 run_convert_float_int w _ _ .f64 .i64 _ _ (by kernel_rfl) Tryz.underlying3 (fw_val x)
theorem first_any (a b : Int) (w : World) : Calls Tryz.prog 124 #[.complex .f64 (fw a) (fw b)] w fun e w' => e = .returned (.int .i64 (cl a)) ∧ w = w' := by
 have hc := conv_int a
 go_enter Tryz.func124, Tryz.ntmps124
 go_wp2
 go_ret
 exact ⟨rfl, rfl⟩
theorem last_any (a b : Int) (w : World) : Calls Tryz.prog 125 #[.complex .f64 (fw a) (fw b)] w fun e w' => e = .returned (.int .i64 (cl b)) ∧ w = w' := by
 have hc := conv_int b
 go_enter Tryz.func125, Tryz.ntmps125
 go_wp2
 go_ret
 exact ⟨rfl, rfl⟩
theorem first_in {a b : Int} (w : World) (h : cl a = a) : Calls Tryz.prog 124 #[.complex .f64 (fw a) (fw b)] w fun e w' => e = .returned (.int .i64 a) ∧ w = w' := by
 have := first_any a b w
 rwa [h] at this
theorem last_in {a b : Int} (w : World) (h : cl b = b) : Calls Tryz.prog 125 #[.complex .f64 (fw a) (fw b)] w fun e w' => e = .returned (.int .i64 b) ∧ w = w' := by
 have := last_any a b w
 rwa [h] at this
theorem first_q {a b : Int} (w : World) (h : cl a = a) : Calls Tryz.prog 124 #[.complex .f64 (fw a) (fw b)] w fun e w' => e = .returned (.int .i64 a) ∧ w' = w := (first_in w h).mono fun _ _ ⟨h, k⟩ => ⟨h, k.symm⟩
theorem last_q {a b : Int} (w : World) (h : cl b = b) : Calls Tryz.prog 125 #[.complex .f64 (fw a) (fw b)] w fun e w' => e = .returned (.int .i64 b) ∧ w' = w := (last_in w h).mono fun _ _ ⟨h, k⟩ => ⟨h, k.symm⟩
theorem span_any (a b : Int) (w : World) (ha : 0 ≤ a) (ha2 : a ≤ 1114111) (hb : 0 ≤ b) (hb2 : b ≤ 1114111) : Calls Tryz.prog 149 #[.int .i64 a, .int .i64 b] w fun e w' => e = .returned (.complex .f64 (fw a) (fw b)) ∧ w = w' := by
 have h1 : floatOfInt .f64 a = fw a := fw_near ha ha2
 have h2 : floatOfInt .f64 b = fw b := fw_near hb hb2
 have c1 : ∀ w, (convert 3 163 (.int .i64 a)).run Tryz.prog w = .ok (.float .f64 (fw a)) w := fun w => by rw [← h1]; exact run_convert_int_float w _ _ _ _ _ (by kernel_rfl) Tryz.underlying163
 have c2 : ∀ w, (convert 3 163 (.int .i64 b)).run Tryz.prog w = .ok (.float .f64 (fw b)) w := fun w => by rw [← h2]; exact run_convert_int_float w _ _ _ _ _ (by kernel_rfl) Tryz.underlying163
 clear h1 h2
 go_enter Tryz.func149, Tryz.ntmps149
 go_wp2
 go_ret
 exact ⟨rfl, rfl⟩
theorem span_q (a b : Int) (w : World) (ha : 0 ≤ a) (ha2 : a ≤ 1114111) (hb : 0 ≤ b) (hb2 : b ≤ 1114111) : Calls Tryz.prog 149 #[.int .i64 a, .int .i64 b] w fun e w' => e = .returned (.complex .f64 (fw a) (fw b)) ∧ w' = w := (span_any a b w ha ha2 hb hb2).mono fun _ _ ⟨h, k⟩ => ⟨h, k.symm⟩
theorem infoSpan : (Tryz.prog.info? 138).map (fun i => (i.zero, i.size, i.bytes)) = some (some (.complex .f64 0 0), 1, 16) := by kernel_rfl
def zcs (l : List Rg) : List Value := l.map zc
def OwnZ (w : World) (base : Nat) (v : Value) (D : List Rg) : Prop := w.ownsRow base 138 1 v D.length (zcs D) ∧ (D = [] → v = .slice none 0 0)
theorem ownZ_nil (w : World) (base : Nat) : OwnZ w base (.slice none 0 0) [] := ⟨World.ownsRow_nil w base _ 1, fun _ => rfl⟩
theorem ownZ_below {w w' : World} {base : Nat} {v : Value} {D : List Rg} (h : OwnZ w base v D) (hb : Below w.heap.size w w') : OwnZ w' base v D := by
 obtain ⟨⟨h1, h2⟩, hn⟩ := h
 refine ⟨⟨h1, ?_⟩, hn⟩
 rcases h2 with h2 | ⟨g, cap, cur, hv, hg, hh, r⟩
 · exact Or.inl h2
 · refine Or.inr ⟨g, cap, cur, hv, hg, ?_, r⟩
   have hlt : g < w.heap.size := by
     rcases Nat.lt_or_ge g w.heap.size with h | h
     · exact h
     · rw [Array.getElem?_eq_none h] at hh; cases hh
   rw [hb.block g hlt]
   exact hh
theorem wpList_append_z {ops : Array Oper} {rest : List Oper} {o : Oper} {a : Act} {w : World} {Q : Exit → Act → World → Prop} (hgd : o.guard = none) (s x : Operand)
   (ho : o.op = .call { callee := .builtin .append, args := #[s, x], argTypes := #[111, 111] }) (base : Nat) (v : Value) (D : List Rg) (hs : a.eval s = v) (hown : OwnZ w base v D)
   (q1 q2 : Int) (B : Nat) (hx : a.eval x = .slice (some ⟨B, 0, none⟩) 1 1) (hB : B = w.heap.size) (hlen : D.length ≤ 100000000) (hbase : base ≤ w.heap.size)
   (h : ∀ v' w', OwnZ w' base v' (D ++ [(q1, q2)]) → (∀ B w1, Below B w1 w → B ≤ base → Below B w1 w') → wpList Tryz.prog ops Q rest (a.put o.dst v') w') :
   wpList Tryz.prog ops Q (o :: rest) a (w.alloc (.cells #[.complex .f64 (fw q1) (fw q2)] 138)) := by
 subst hB
 obtain ⟨i0, hi, hz0, hz1, hz2⟩ := info_parts infoSpan
 refine wpList_append_own _ hgd s x _ ho base 138 i0 (.complex .f64 0 0) 1 16 Tryz.underlying111 hi hz0 hz1 hz2 rfl (by decide) v _ _ hs (World.ownsRow.alloc hown.1 _) ⟨w.heap.size, 0, none⟩ 1 1 [.complex .f64 (fw q1) (fw q2)] hx rfl ?_ ?_ (by unfold maxLen; omega) (by omega) (by rw [World.size_alloc]; omega) ?_
 · intro j u hj
   have hj0 : j = 0 := by
     cases j with
     | zero => rfl
     | succ j => simp at hj
   subst hj0
   simp only [List.getElem?_cons_zero, Option.some.injEq] at hj
   subst hj
   have hplain : (⟨w.heap.size, 0, none⟩ : Addr).add 0 = ⟨w.heap.size, 0, none⟩ := by unfold Addr.add; split <;> simp_all
   rw [hplain, World.cell?_alloc_new]
   rfl
 · intro u hu
   simp only [List.mem_cons, List.not_mem_nil, or_false] at hu
   subst hu
   rfl
 · intro v' w' hown' hgr _
   refine h v' w' ?_ (fun B w1 hb hB => (hb.alloc (by have := hb.size; omega) _).grown hgr (by rw [World.size_alloc]; omega) (fun k hk => ?_))
   · have e : zcs (D ++ [(q1, q2)]) = zcs D ++ [.complex .f64 (fw q1) (fw q2)] := by simp [zcs, zc]
     unfold OwnZ
     rw [e]
     exact ⟨by simpa using hown', fun h => absurd h (by simp)⟩
   · have := (World.ownsRow.lt hown.1) k hk
     omega
def OwnB (base : Nat) (D : List Rg) (w : World) (e : Ending) (w' : World) : Prop := ∃ v, e = .returned v ∧ OwnZ w' base v D ∧ Below base w w'
theorem ownB_of {base : Nat} {D D' : List Rg} {w w' : World} {v : Value} (h : D' = D) (ho : OwnZ w' base v D') (hb : Below base w w') : OwnB base D w (.returned v) w' := by
 subst h
 exact ⟨v, rfl, ho, hb⟩
set_option maxHeartbeats 1000000 in
theorem add_any (v : Value) (D : List Rg) (a b : Int) (base : Nat) (w : World) (hown : OwnZ w base v D) (h0 : 0 ≤ a) (h1 : b ≤ 1114111) (hlen : D.length ≤ 100000000) (hbase : base ≤ w.heap.size)
   (ha : a ≤ 9223372036854775807) (hb : -9223372036854775808 ≤ b) : Calls Tryz.prog 122 #[v, .int .i64 a, .int .i64 b] w (OwnB base (addP D a b) w) := by
 have HO := Lib.hid hown
 clear hown
 by_cases hab : b < a
 · have HE := Lib.hid (show D = addP D a b by unfold addP; rw [if_pos hab])
   go_enter Tryz.func122, Tryz.ntmps122
   go_wp2_with fail
   go_ret
   exact ownB_of HE.out HO.out (Below.refl _ _)
 · have HE := Lib.hid (show D ++ [(a, b)] = addP D a b by unfold addP; rw [if_neg hab])
   have hS := Lib.hid (fun w => span_any a b w h0 (by omega) (by omega) h1)
   have HL := Lib.hid hlen
   clear hlen
   go_enter Tryz.func122, Tryz.ntmps122
   go_wp2_with fail
   refine (hS.out _).mono ?_
   rintro e w' ⟨rfl, rfl⟩
   go_wp2_with (at_builtin; refine wpList_append_z rfl _ _ rfl base v D rfl HO.out a b _ rfl rfl HL.out hbase ?_; intro va wa hoa hba; have HOa := Lib.hid hoa; have hwa := hba _ _ (Below.refl base w) (Nat.le_refl _); clear hoa hba)
   go_ret
   exact ownB_of HE.out HOa.out hwa
end Go.Proofs.YtkcmjcgjfjfimaaGreatDoor.setw
end
section
namespace Go.Proofs.YtkcmjcgjfjfimaaGreatDoor.setl
open Go Go.Shelf
def sortZ_ren : Go.Shelf.Ren := ⟨fun | 6 => 150 | 15 => 165 | 14 => 164 | 28 => 189 | 29 => 190 | 20 => 181 | 21 => 182 | 22 => 183 | 23 => 184 | 24 => 185 | 25 => 186 | 26 => 187 | 27 => 188 | 46 => 198 | 47 => 199 | 48 => 200 | 49 => 201 | 50 => 202 | 57 => 204 | n => n, fun | 22 => 111 | 24 => 138 | 25 => 162 | 3 => 3 | 39 => 66 | 0 => 0 | 53 => 175 | 55 => 179 | 4 => 4 | 46 => 189 | 45 => 188 | 50 => 37 | 5 => 5 | 9 => 9 | 66 => 204 | 70 => 208 | 76 => 214 | 77 => 47 | n => n, fun | n => n⟩
theorem sortZ : Go.Proofs.SlLaysF.n6 Tryz.prog sortZ_ren := {
 mixed := by kernel_rfl,
 f6 := ⟨Tryz.f150.name, by decide, Tryz.func150.trans (congrArg some (by kernel_rfl))⟩,
 f14 := ⟨Tryz.f164.name, by decide, Tryz.func164.trans (congrArg some (by kernel_rfl))⟩,
 f15 := Tryz.func165.trans (congrArg some (by kernel_rfl)),
 f20 := ⟨Tryz.f181.name, by decide, Tryz.func181.trans (congrArg some (by kernel_rfl))⟩,
 f21 := ⟨Tryz.f182.name, by decide, Tryz.func182.trans (congrArg some (by kernel_rfl))⟩,
 f22 := ⟨Tryz.f183.name, by decide, Tryz.func183.trans (congrArg some (by kernel_rfl))⟩,
 f23 := ⟨Tryz.f184.name, by decide, Tryz.func184.trans (congrArg some (by kernel_rfl))⟩,
 f24 := ⟨Tryz.f185.name, by decide, Tryz.func185.trans (congrArg some (by kernel_rfl))⟩,
 f25 := ⟨Tryz.f186.name, by decide, Tryz.func186.trans (congrArg some (by kernel_rfl))⟩,
 f26 := ⟨Tryz.f187.name, by decide, Tryz.func187.trans (congrArg some (by kernel_rfl))⟩,
 f27 := ⟨Tryz.f188.name, by decide, Tryz.func188.trans (congrArg some (by kernel_rfl))⟩,
 f28 := Tryz.func189.trans (congrArg some (by kernel_rfl)),
 f29 := Tryz.func190.trans (congrArg some (by kernel_rfl)),
 f46 := ⟨Tryz.f198.name, by decide, Tryz.func198.trans (congrArg some (by kernel_rfl))⟩,
 f47 := Tryz.func199.trans (congrArg some (by kernel_rfl)),
 f48 := Tryz.func200.trans (congrArg some (by kernel_rfl)),
 f49 := ⟨Tryz.f201.name, by decide, Tryz.func201.trans (congrArg some (by kernel_rfl))⟩,
 f50 := ⟨Tryz.f202.name, by decide, Tryz.func202.trans (congrArg some (by kernel_rfl))⟩,
 f57 := ⟨Tryz.f204.name, by decide, Tryz.func204.trans (congrArg some (by kernel_rfl))⟩,
 t0 := Tryz.underlying0,
 a0 := Tryz.isAgg0,
 z0 := Tryz.sizeOf0,
 v0 := Tryz.zeroValue0,
 t3 := Tryz.underlying3,
 a3 := Tryz.isAgg3,
 z3 := Tryz.sizeOf3,
 v3 := Tryz.zeroValue3,
 t4 := Tryz.underlying4,
 a4 := Tryz.isAgg4,
 z4 := Tryz.sizeOf4,
 v4 := Tryz.zeroValue4,
 t5 := Tryz.underlying5,
 a5 := Tryz.isAgg5,
 z5 := Tryz.sizeOf5,
 v5 := Tryz.zeroValue5,
 t9 := Tryz.underlying9,
 a9 := Tryz.isAgg9,
 z9 := Tryz.sizeOf9,
 v9 := Tryz.zeroValue9,
 t22 := Tryz.underlying111,
 a22 := Tryz.isAgg111,
 z22 := Tryz.sizeOf111,
 v22 := Tryz.zeroValue111,
 a24 := Tryz.isAgg138,
 z24 := Tryz.sizeOf138,
 t25 := Tryz.underlying162,
 a25 := Tryz.isAgg162,
 z25 := Tryz.sizeOf162,
 v25 := Tryz.zeroValue162,
 t39 := Tryz.underlying66,
 a39 := Tryz.isAgg66,
 z39 := Tryz.sizeOf66,
 v39 := Tryz.zeroValue66,
 t45 := Tryz.underlying188,
 a45 := Tryz.isAgg188,
 z45 := Tryz.sizeOf188,
 v45 := Tryz.zeroValue188,
 t46 := Tryz.underlying189,
 a46 := Tryz.isAgg189,
 z46 := Tryz.sizeOf189,
 v46 := Tryz.zeroValue189,
 t50 := Tryz.underlying37,
 a50 := Tryz.isAgg37,
 z50 := Tryz.sizeOf37,
 v50 := Tryz.zeroValue37,
 t53 := Tryz.underlying175,
 a53 := Tryz.isAgg175,
 z53 := Tryz.sizeOf175,
 v53 := Tryz.zeroValue175,
 t55 := Tryz.underlying179,
 a55 := Tryz.isAgg179,
 z55 := Tryz.sizeOf179,
 v55 := Tryz.zeroValue179,
 t66 := Tryz.underlying204,
 a66 := Tryz.isAgg204,
 z66 := Tryz.sizeOf204,
 v66 := Tryz.zeroValue204,
 t70 := Tryz.underlying208,
 a70 := Tryz.isAgg208,
 z70 := Tryz.sizeOf208,
 v70 := Tryz.zeroValue208,
 t76 := Tryz.underlying214,
 a76 := Tryz.isAgg214,
 z76 := Tryz.sizeOf214,
 v76 := Tryz.zeroValue214,
 t77 := Tryz.underlying47,
 a77 := Tryz.isAgg47,
 z77 := Tryz.sizeOf47,
 v77 := Tryz.zeroValue47 }
def cmpZ_ren : Go.Shelf.Ren := ⟨fun | 5 => 152 | 7 => 166 | n => n, fun | 22 => 3 | 3 => 3 | 4 => 4 | n => n, fun | n => n⟩
theorem cmpZ : Go.Proofs.SlLaysC2.n5 Tryz.prog cmpZ_ren := {
 mixed := by kernel_rfl,
 f5 := ⟨Tryz.f152.name, by decide, Tryz.func152.trans (congrArg some (by kernel_rfl))⟩,
 f7 := ⟨Tryz.f166.name, by decide, Tryz.func166.trans (congrArg some (by kernel_rfl))⟩,
 t3 := Tryz.underlying3,
 a3 := Tryz.isAgg3,
 z3 := Tryz.sizeOf3,
 v3 := Tryz.zeroValue3,
 t4 := Tryz.underlying4,
 a4 := Tryz.isAgg4,
 z4 := Tryz.sizeOf4,
 v4 := Tryz.zeroValue4,
 t22 := Tryz.underlying3,
 a22 := Tryz.isAgg3,
 z22 := Tryz.sizeOf3,
 v22 := Tryz.zeroValue3 }
end Go.Proofs.YtkcmjcgjfjfimaaGreatDoor.setl
end
section
namespace Go.Proofs.YtkcmjcgjfjfimaaGreatDoor.setw
open Go Go.RowKit Go.Shelf bulk ucdp ucdw setp flt setl
def cf (x y : Rg) : Int := Lib.compareInt (cl x.1) (cl y.1)
theorem ltf (x y : Rg) : ltOf cf x y = decide (cl x.1 < cl y.1) := by
 unfold ltOf cf Lib.compareInt
 by_cases h1 : cl x.1 < cl y.1
 · simp [h1]
 · by_cases h2 : cl y.1 < cl x.1 <;> simp [h1, h2]
theorem swof : Sort.SWO (ltOf cf) where
 irrefl x := by rw [ltf]; simp
 trans x y z h1 h2 := by rw [ltf] at *; simp at *; omega
 ntrans x y z h1 h2 := by rw [ltf] at *; simp at *; omega
theorem closure_any (x y : Rg) (W : World) : Calls Tryz.prog 151 #[zc x, zc y] W fun e w' => e = .returned (.int .i64 (cf x y)) ∧ ∃ q, w' = W.drewN q := by
 have h1 := first_any x.1 x.2
 have h2 := first_any y.1 y.2
 have hcon := fun W => AnyG.cmp_Compare_int cmpZ (cl x.1) (cl y.1) W
 change ∀ W, Calls Tryz.prog 152 _ W _ at hcon
 unfold cf
 generalize Lib.compareInt (cl x.1) (cl y.1) = r at hcon ⊢
 have H1 := Lib.hid h1
 have H2 := Lib.hid h2
 have H3 := Lib.hid hcon
 clear h1 h2 hcon
 unfold zc
 go_enter Tryz.func151, Tryz.ntmps151
 go_wp2_with fail
 refine (H1.out _).mono ?_
 rintro e w' ⟨rfl, rfl⟩
 go_wp2_with fail
 refine (H2.out _).mono ?_
 rintro e w' ⟨rfl, rfl⟩
 go_wp2_with fail
 refine (H3.out _).mono ?_
 rintro e w' ⟨rfl, rfl⟩
 go_wp2_with fail
 go_ret
 exact ⟨rfl, 0, rfl⟩
theorem cmpReads (blk off size : Nat) (w : World) : CmpReads Tryz.prog 151 #[] zc cf blk off size w :=
 fun _ _ _ _ x y => closure_any x y _
theorem below_grown (B : Nat) (w : World) (hB : B ≤ w.heap.size) (os : Array Obj) : Below B w (Sort.grow w os) :=
 ⟨rfl, rfl, rfl, by show w.heap.size ≤ (w.heap ++ os).size; rw [Array.size_append]; omega, fun j hj => Sort.heap_grow_old w os (by omega)⟩
theorem below_draws {B : Nat} {w w' : World} (h : Below B w w') (n : Nat) : Below B w (w'.drewN n) := ⟨h.os, h.tape, h.output, h.size, h.block⟩
theorem ownZ_draws {w : World} {base : Nat} {v : Value} {D : List Rg} (h : OwnZ w base v D) (n : Nat) : OwnZ (w.drewN n) base v D := h
def SortPost (v : Value) (D : List Rg) (base : Nat) (w : World) (e : Ending) (w' : World) : Prop := e = .returned (.tuple #[]) ∧ ∃ D' : List Rg, D'.Perm D ∧ Rises D' ∧ OwnZ w' base v D' ∧ Below base w w'
theorem permList {D : List Rg} {d : Array Rg} (h : Sort.PermIn 0 D.toArray.size D.toArray d) : d.toList.Perm D ∧ d.size = D.length := by
 obtain ⟨h1, _, h2⟩ := h
 have e1 : d.extract 0 D.toArray.size = d := by rw [← h1]; simp
 have e2 : D.toArray.extract 0 D.toArray.size = D.toArray := by simp
 rw [e1, e2] at h2
 exact ⟨by simpa using h2, by simpa using h1⟩
theorem sort_any (v : Value) (D : List Rg) (base : Nat) (w : World) (hown : OwnZ w base v D) (hR : InR D) (hlen : D.length ≤ 100000000) :
   Calls Tryz.prog 150 #[v, .func (.func 151) #[] #[]] w (SortPost v D base w) := by
 by_cases hD : D = []
 · subst hD
   obtain rfl := hown.2 rfl
   refine (AnyF.slices_SortFunc_none (P := Tryz.prog) (ρ := sortZ_ren) { sortZ with } none 0 _ w).mono ?_
   rintro e w' ⟨rfl, rfl⟩
   exact ⟨rfl, [], List.Perm.refl _, List.Pairwise.nil, ownZ_nil _ _, Below.refl _ _⟩
 · obtain ⟨g, cap, rfl, hb, hg, hn, hm, hl, hH⟩ := Lib.holds_of_ownsRow hown.1 (by
     rintro rfl
     obtain ⟨_, h2⟩ := hown.1
     rcases h2 with ⟨_, hn⟩ | ⟨g, cap, cur, hv, _⟩
     · exact hD (List.eq_nil_of_length_eq_zero hn)
     · cases hv)
   have eg : ∀ args w, (callFunc 151 args).run Tryz.prog w = .ok (.enter 151 args) w := enters_of Tryz.func151 (by kernel_rfl) rfl
   have hs := Any.slices_SortFunc (P := Tryz.prog) (ρ := sortZ_ren) sortZ zc (fun _ => rfl) cf swof 151 #[] g 0 cap D.toArray w eg (cmpReads g 0 _ w).lays hH hg (by simp; omega)
   refine hs.mono ?_
   rintro e w' ⟨rfl, d', n, os, hp, hso, rfl⟩
   obtain ⟨hp1, hp2⟩ := permList hp
   refine ⟨rfl, d'.toList, hp1, ?_, ?_, ?_⟩
   · refine List.pairwise_iff_getElem.2 fun i j hi hj hij => ?_
     have hi2 : i < d'.size := by simpa using hi
     have hj2 : j < d'.size := by simpa using hj
     have h1 := hso i j (Nat.zero_le _) hij (by simp; omega)
     rw [ltf, getElem!_pos d' j hj2, getElem!_pos d' i hi2] at h1
     have hr1 := hR _ (hp1.mem_iff.1 (List.getElem_mem hi))
     have hr2 := hR _ (hp1.mem_iff.1 (List.getElem_mem hj))
     rw [Array.getElem_toList] at hr1 hr2
     rw [cl_id hr1.1 (by omega), cl_id hr2.1 (by omega)] at h1
     simp only [Array.getElem_toList]
     simpa using h1
   · have h1 := Lib.ownsRow_putRow (q := n) (k := D.length) (ys := d'.toList) hown.1 (by simpa using hp2) (Nat.le_refl _)
     have h3 : d'.toList.take D.length = d'.toList := List.take_of_length_le (by simp; omega)
     rw [h3] at h1
     have h4 : d'.toList.length = D.length := by simpa using hp2
     have h6 : OwnZ (Sort.putRow zc (Sort.ahead w n) g 0 d') base (.slice (some ⟨g, 0, none⟩) D.length cap) d'.toList := by
       refine ⟨?_, fun h => absurd (by have h5 := congrArg List.length h; rw [h4] at h5; exact List.eq_nil_of_length_eq_zero h5) hD⟩
       rw [h4]
       simpa [zcs] using h1
     exact ownZ_below h6 (below_grown _ _ (Nat.le_refl _) os)
   · have h1 := Lib.below_putRow (enc := zc) (q := n) (d := d') (Below.refl base w) hb
     exact h1.trans (below_grown base _ (Nat.le_trans (by omega) h1.size) os)
theorem ownZ_slice {w : World} {base : Nat} {v : Value} {D : List Rg} (h : OwnZ w base v D) (hD : D ≠ []) : ∃ g cap : Nat, v = .slice (some ⟨g, 0, none⟩) D.length cap ∧ base ≤ g ∧ g < w.heap.size ∧ D.length ≤ cap ∧ cap ≤ 9223372036854775807 ∧ ∀ i (hi : i < D.length), w.cell? ⟨g, i, none⟩ = some (zc D[i]) := by
 have h' := h.1
 obtain ⟨_, h2⟩ := h.1
 rcases h2 with ⟨_, hn⟩ | ⟨g, cap, cur, hv, hg, hh, hnc, hcm, _⟩
 · exact absurd (List.eq_nil_of_length_eq_zero hn) hD
 · unfold maxLen at hcm
   have hlt : g < w.heap.size := by
     rcases Nat.lt_or_ge g w.heap.size with h | h
     · exact h
     · rw [Array.getElem?_eq_none h] at hh; cases hh
   refine ⟨g, cap, hv, hg, hlt, hnc, by omega, fun k hk => ?_⟩
   rw [hv] at h'
   rw [h'.cellAt k (by omega)]
   simp [zcs, hk]
theorem ownZ_len {w : World} {base : Nat} {v : Value} {D : List Rg} (h : OwnZ w base v D) : ∃ a cap, v = .slice a D.length cap := by
 by_cases hD : D = []
 · subst hD
   exact ⟨none, 0, h.2 rfl⟩
 · obtain ⟨g, cap, hv, _⟩ := ownZ_slice h hD
   exact ⟨_, _, hv⟩
def ZsAt (base : Nat) (w : World) (v : Value) (S : List Rg) : Prop :=
 (S = [] ∧ v = .slice none 0 0) ∨ (S ≠ [] ∧ ∃ b cap : Nat, v = .slice (some ⟨b, 0, none⟩) S.length cap ∧ base ≤ b ∧ S.length ≤ cap ∧ cap ≤ 9223372036854775807 ∧ ∀ i (hi : i < S.length), w.cell? ⟨b, i, none⟩ = some (zc S[i]))
theorem zsAt_own {w : World} {base : Nat} {v : Value} {D : List Rg} (h : OwnZ w base v D) : ZsAt base w v D := by
 by_cases hD : D = []
 · subst hD
   exact Or.inl ⟨rfl, h.2 rfl⟩
 · obtain ⟨g, cap, hv, h1, _, h3, h4, hc⟩ := ownZ_slice h hD
   exact Or.inr ⟨hD, g, cap, hv, h1, h3, h4, hc⟩
theorem zsAt_below {base : Nat} {w w' : World} {v : Value} {S : List Rg} (h : ZsAt base w v S) (hb : Below w.heap.size w w') : ZsAt base w' v S := by
 rcases h with h | ⟨hS, b, cap, hv, h0, h1, h2, hc⟩
 · exact Or.inl h
 · exact Or.inr ⟨hS, b, cap, hv, h0, h1, h2, fun i hi => below_cell hb (hc i hi)⟩
theorem zsAt_mono {base base' : Nat} {w : World} {v : Value} {S : List Rg} (h : ZsAt base w v S) (hb : base' ≤ base) : ZsAt base' w v S := by
 rcases h with h | ⟨hS, b, cap, hv, h0, r⟩
 · exact Or.inl h
 · exact Or.inr ⟨hS, b, cap, hv, Nat.le_trans hb h0, r⟩
theorem zsAt_len {base : Nat} {w : World} {v : Value} {S : List Rg} (h : ZsAt base w v S) : ∃ a cap, v = .slice a S.length cap := by
 rcases h with ⟨h, hv⟩ | ⟨_, b, cap, hv, _⟩
 · subst h; exact ⟨_, _, hv⟩
 · exact ⟨_, _, hv⟩
theorem zsAt_set {base : Nat} {w : World} {v : Value} {S : List Rg} (h : ZsAt base w v S) {a : Addr} (ha : a.block < base) (u : Value) : ZsAt base (w.setCell a u) v S := by
 rcases h with h | ⟨hS, b, cap, hv, h0, h1, h2, hc⟩
 · exact Or.inl h
 · refine Or.inr ⟨hS, b, cap, hv, h0, h1, h2, fun i hi => ?_⟩
   rw [← hc i hi]
   exact World.cell?_of_block (Below.heap_setCell w a u _ (by show b ≠ a.block; omega))
theorem ownZ_last {w : World} {base g m cap : Nat} {W0 : List Rg} {e r : Rg} (hm : W0.length = m) (h : OwnZ w base (.slice (some ⟨g, 0, none⟩) (m + 1) cap) (W0 ++ [e])) :
   OwnZ (w.setCell ⟨g, m, none⟩ (zc r)) base (.slice (some ⟨g, 0, none⟩) (m + 1) cap) (W0 ++ [r]) ∧ w.frozen? ⟨g, m, none⟩ = false ∧ ∀ B w0, Below B w0 w → B ≤ base → Below B w0 (w.setCell ⟨g, m, none⟩ (zc r)) := by
 subst hm
 have hl : (W0 ++ [e]).length = W0.length + 1 := by simp
 have h1 := h.1
 rw [hl] at h1
 have h2 := World.ownsRow.stored h1 W0.length (zc r)
 have he : (zcs (W0 ++ [e])).set W0.length (zc r) = zcs (W0 ++ [r]) := by
   simp only [zcs, List.map_append, List.map_cons, List.map_nil]
   rw [List.set_append_right _ _ (by simp)]
   simp
 rw [he] at h2
 refine ⟨⟨by rw [show (W0 ++ [r]).length = W0.length + 1 by simp]; exact h2.1, fun h => absurd h (by simp)⟩, World.ownsRow.frozenAt h1 _, fun B w0 hb hB => ?_⟩
 have := (World.ownsRow.lt h1) g rfl
 exact hb.setCell (by show B ≤ g; omega) _
def JRel (D : List Rg) (w1 : World) (v i : Value) (wr : World) : Prop :=
 ∃ (k : Nat) (W : List Rg), k ≤ D.length ∧ i = .int .i64 k ∧ OwnZ wr w1.heap.size v W ∧ Below w1.heap.size w1 wr ∧ JInv D k W
def JPost (base : Nat) (D : List Rg) (w : World) (e : Ending) (w' : World) : Prop := ∃ v S, e = .returned v ∧ Canon S ∧ (∀ c, Has S c ↔ Has D c) ∧ ZsAt w.heap.size w' v S ∧ Below base w w'
theorem jpost_of {base : Nat} {D D' W : List Rg} {w w1 wr : World} {v : Value} (hp : D'.Perm D) (hb : Below base w w1) (hbase : base ≤ w1.heap.size) (ho : OwnZ wr w1.heap.size v W) (hb2 : Below w1.heap.size w1 wr) (hj : JInv D' D'.length W) : JPost base D w (.returned v) wr :=
 ⟨v, W, rfl, (jinv_end hj).1, fun c => ((jinv_end hj).2 c).trans (has_perm hp c), zsAt_mono (zsAt_own ho) hb.size, hb.trans (hb2.mono hbase)⟩
set_option maxRecDepth 100000 in
set_option maxHeartbeats 2000000 in
theorem joined_any (v : Value) (D : List Rg) (base : Nat) (w : World) (hown : OwnZ w base v D) (hR : InR D) (hlen : D.length ≤ 100000000) (hbase : base ≤ w.heap.size) :
   Calls Tryz.prog 123 #[v] w (JPost base D w) := by
 have HS := Lib.hid (sort_any v D base w hown hR hlen)
 have HO := Lib.hid hown
 clear hown
 go_enter Tryz.func123, Tryz.ntmps123
 go_wp2_with fail
 refine HS.out.mono ?_
 rintro e w1 ⟨rfl, D', hp, hs, ho, hb⟩
 have hl : D'.length = D.length := hp.length_eq
 have hR' : InR D' := fun r hr => hR r (hp.mem_iff.1 hr)
 obtain ⟨a, cap, hv⟩ := ownZ_len ho
 have HO' := Lib.hid ho
 have HP := Lib.hid hp
 have HSo := Lib.hid hs
 have HB := Lib.hid hb
 have HR := Lib.hid hR'
 have HL := Lib.hid hl
 have hn : D'.length ≤ 100000000 := by omega
 have hw1 : base ≤ w1.heap.size := Nat.le_trans hbase hb.size
 subst hv
 clear hp hs hb hR hR' ho hl
 go_wp2_with fail
 go_loopw [3, 11] (fun v i wr => JRel D' w1 v i wr) (fun _ i _ => D'.length - (intOf i).toNat)
 case atStart => exact ⟨0, [], Nat.zero_le _, rfl, ownZ_nil _ _, Below.refl _ _, jinv_start _⟩
 case round =>
   obtain ⟨k, W, hk, rfl, ho, hb, hj⟩ := hrel
   have HJ := Lib.hid hj
   have HBr := Lib.hid hb
   have HW := Lib.hid ho
   have hWl := hj.2.2.2
   clear hj
   by_cases hlt : k < D'.length
   · obtain ⟨g, cap', hv, hg1, hg2, hg3, hg4, hc⟩ := ownZ_slice HO'.out (by intro h; rw [h] at hlt; simp at hlt)
     cases hv
     have hcell := below_cell hb (hc k hlt)
     obtain ⟨x, y, hxy⟩ : ∃ x y, D'[k] = (x, y) := ⟨_, _, rfl⟩
     have hr := HR.out _ (List.getElem_mem hlt)
     rw [hxy] at hr hcell
     obtain ⟨hx0, hxy1, hy1⟩ := hr
     simp only at hx0 hxy1 hy1
     have HXY := Lib.hid hxy
     have HX := Lib.hid (fun w => first_q (b := y) w (cl_id hx0 (by omega)))
     have HY := Lib.hid (fun w => last_q (a := x) w (cl_id (by omega) hy1))
     unfold zc at hcell
     simp only at hcell
     clear hc hxy hb ho
     rcases List.eq_nil_or_concat W with hW | ⟨W0, e, hW⟩
     · subst hW
       obtain rfl := HW.out.2 rfl
       have HJ1 := Lib.hid (jinv_first HR.out HSo.out hlt HJ.out)
       go_wp2_with fail
       go_quiet (fail)
       go_wp2_with (at_builtin; refine wpList_append_z rfl _ _ rfl w1.heap.size (.slice none 0 0) [] rfl (ownZ_nil _ _) x y _ rfl rfl (Nat.zero_le _) HBr.out.size ?_; intro va wa hoa hba; have HOa := Lib.hid hoa; have HBa := Lib.hid (hba _ _ (below_draws HBr.out _) (Nat.le_refl _)); clear hoa hba)
       go_roundw
       case rel => exact ⟨k + 1, [(x, y)], by omega, by go_num, HOa.out, HBa.out, by have := HJ1.out; rwa [HXY.out] at this⟩
       case measure => simp [intOf]; omega
     · subst hW
       rw [List.concat_eq_append] at *
       obtain ⟨gw, cw, hv, hw1', hw2, hw3, hw4, hcw⟩ := ownZ_slice HW.out (by simp)
       have hce := hcw W0.length (by simp)
       have hlen : (W0 ++ [e]).length = W0.length + 1 := by simp
       rw [hlen] at hv hw3 hWl
       have he := HJ.out.1.2 e (by simp)
       obtain ⟨e1, e2⟩ := e
       obtain ⟨he0, he1, he2⟩ := he
       simp only at he0 he1 he2
       simp only [List.getElem_concat_length, zc] at hce
       have HV := Lib.hid hv
       obtain ⟨m, hm⟩ : ∃ m, W0.length = m := ⟨_, rfl⟩
       have HM := Lib.hid hm
       rw [hm] at hv hw3 hce hWl
       subst hv
       have HE1 := Lib.hid (fun w => first_q (b := e2) w (cl_id he0 (by omega)))
       have HE2 := Lib.hid (fun w => last_q (a := e1) w (cl_id (by omega) he2))
       have hwr : IntKind.i64.wrap (e2 + 1) = e2 + 1 := IntWalk.i64_in _ (by omega)
       clear hcw hlen hm
       by_cases hj : x ≤ e2 + 1
       · have HS1 := Lib.hid (fun w => span_q e1 (max e2 y) w he0 (by omega) (by omega) (by omega))
         go_wp2_with fail
         go_quiet ((first | (go_at_call 124; exact Calls.quiet_of_same (HX.out _)) | (go_at_call 125; exact Calls.quiet_of_same (HE2.out _))))
         go_wp2_with fail
         generalize hwq : wr.drewN _ = wq
         obtain ⟨hcq, hoq, hbq⟩ : wq.drew.cell? ⟨gw, m, none⟩ = some (.complex .f64 (fw e1) (fw e2)) ∧ OwnZ wq.drew w1.heap.size (.slice (some ⟨gw, 0, none⟩) (m + 1) cw) (W0 ++ [(e1, e2)]) ∧ Below w1.heap.size w1 wq.drew := by
           rw [← hwq]
           exact ⟨hce, HW.out, (below_draws HBr.out _).drew⟩
         clear hwq
         have hix : (m : Int) < (m : Int) + 1 := by omega
         refine wp_region_still_tail 17 (by kernel_rfl) (by kernel_rfl) ?_
         simp only [List.take_succ_cons, List.take_zero, List.drop_succ_cons, List.drop_zero]
         change wpStill _ _ wq.drew _ _ _
         generalize hwd : wq.drew = wd at *
         repeat still_step
         still_call (HE1.out _)
         repeat still_step
         still_call (HE2.out _)
         repeat still_step
         still_call (HY.out _)
         repeat still_step
         still_call (HS1.out _)
         repeat still_step
         refine wpStill_nil ?_
         change wpList _ _ _ _ _ wq.drew
         rw [hwd]
         clear hwd
         obtain ⟨hn1, hn2, hn3⟩ := ownZ_last (r := (e1, max e2 y)) HM.out hoq
         have HN := Lib.hid hn1
         have HNB := Lib.hid (hn3 _ _ hbq (Nat.le_refl _))
         have HJ2 := Lib.hid (jinv_join HR.out hlt HJ.out (by rw [HXY.out]; exact hj))
         have hst := fun (a : Addr) (md : Mode) (w : World) => run_store Tryz.prog w a (.complex .f64 (fw e1) (fw (max e2 y))) md rfl
         clear hn1 hn3 hoq hbq
         go_wp2_with fail
         go_roundw
         case rel => exact ⟨k + 1, W0 ++ [(e1, max e2 y)], by omega, by go_num, HN.out, HNB.out, by have := HJ2.out; rwa [HXY.out] at this⟩
         case measure => simp [intOf]; omega
       · have HJ2 := Lib.hid (jinv_apart HR.out HSo.out hlt HJ.out (by rw [HXY.out]; show e2 + 1 < x; omega))
         have hjb : decide (x ≤ e2 + 1) = false := decide_eq_false hj
         go_wp2_with fail
         go_quiet ((first | (go_at_call 124; exact Calls.quiet_of_same (HX.out _)) | (go_at_call 125; exact Calls.quiet_of_same (HE2.out _))))
         go_wp2_with (at_builtin; refine wpList_append_z rfl _ _ rfl w1.heap.size (.slice (some ⟨gw, 0, none⟩) (m + 1) cw) (W0 ++ [(e1, e2)]) rfl (ownZ_draws HW.out _) x y _ rfl rfl (by have := HM.out; simp only [List.length_append, List.length_cons, List.length_nil]; omega) HBr.out.size ?_; intro va wa hoa hba; have HOa := Lib.hid hoa; have HBa := Lib.hid (hba _ _ (below_draws HBr.out _) (Nat.le_refl _)); clear hoa hba)
         go_roundw
         case rel => exact ⟨k + 1, W0 ++ [(e1, e2)] ++ [(x, y)], by omega, by go_num, HOa.out, HBa.out, by have := HJ2.out; rwa [HXY.out] at this⟩
         case measure => simp [intOf]; omega
   · go_wp2_with fail
     go_ret
     obtain rfl : k = D'.length := by omega
     exact jpost_of HP.out HB.out hw1 HW.out HBr.out HJ.out
end Go.Proofs.YtkcmjcgjfjfimaaGreatDoor.setw
end
section
namespace Go.Proofs.YtkcmjcgjfjfimaaGreatDoor.setw
open Go Go.RowKit Go.Shelf bulk ucdp ucdw setp flt setl
def SetB (p : Int → Prop) (w : World) (e : Ending) (w' : World) : Prop := ∃ v S, e = .returned (.agg #[v]) ∧ Canon S ∧ (∀ c, Has S c ↔ p c) ∧ ZsAt w.heap.size w' v S ∧ Below w.heap.size w w'
def NRel (l : List Rg) (m : Int) (w1 : World) (v i : Value) (wr : World) : Prop :=
 ∃ (k : Nat) (D : List Rg), k ≤ l.length ∧ i = .int .i64 k ∧ OwnZ wr w1.heap.size v D ∧ Below w1.heap.size w1 wr ∧ AInv l m k D
theorem cell_new (w : World) (v : Value) (T : TypeId) : (w.alloc (.cells #[v] T)).cell? ⟨w.heap.size, 0, none⟩ = some v ∧ (w.alloc (.cells #[v] T)).frozen? ⟨w.heap.size, 0, none⟩ = false ∧ w.heap.size < (w.alloc (.cells #[v] T)).heap.size ∧ Below w.heap.size w (w.alloc (.cells #[v] T)) := by
 refine ⟨?_, ?_, by simp, below_alloc _ _⟩
 · rw [World.cell?_alloc_new]; rfl
 · exact World.frozen?_alloc_new _ _ _ _
theorem keeps {w1 wr : World} {b : Nat} {v : Value} (hb : Below w1.heap.size w1 wr) (hlt : b < w1.heap.size) (hc : w1.cell? ⟨b, 0, none⟩ = some v) (hf : w1.frozen? ⟨b, 0, none⟩ = false) : wr.cell? ⟨b, 0, none⟩ = some v ∧ wr.frozen? ⟨b, 0, none⟩ = false :=
 ⟨(hb.cell (p := ⟨b, 0, none⟩) hlt).trans hc, (hb.frozen (p := ⟨b, 0, none⟩) hlt).trans hf⟩
set_option maxRecDepth 100000 in
set_option maxHeartbeats 2000000 in
theorem new_any (v : Value) (l : List Rg) (most : Int) (w : World) (hv : RsAt w v l) (hl : l.length ≤ 1000000) (h1 : -9223372036854775808 ≤ most) (h2 : most ≤ 9223372036854775807) :
   Calls Tryz.prog 96 #[v, .int .i64 most] w (SetB (fun c => Has l c ∧ 0 ≤ c ∧ c ≤ min most 1114111) w) := by
 obtain ⟨a, cap, rfl⟩ := rsAt_len hv
 have HV := Lib.hid hv
 have HL := Lib.hid hl
 obtain ⟨m, hm⟩ : ∃ m, min most 1114111 = m := ⟨_, rfl⟩
 have hm1 : m ≤ 1114111 := by omega
 have hm2 : -9223372036854775808 ≤ m := by omega
 clear hv
 go_enter Tryz.func96, Tryz.ntmps96
 go_wp2_with fail
 obtain ⟨c4, f4, hlt4, hb4⟩ := cell_new w (.slice none 0 0) 113
 generalize w.alloc _ = w1 at *
 have C4 := Lib.hid c4
 have F4 := Lib.hid f4
 have HM := Lib.hid hm
 clear c4 f4 hm
 go_loopw [5, 12] (fun v i wr => NRel l m w1 v i wr) (fun _ i _ => l.length - (intOf i).toNat)
 case atStart => exact ⟨0, [], Nat.zero_le _, rfl, ownZ_nil _ _, Below.refl _ _, ainv_start _ _⟩
 case round =>
   obtain ⟨k, D, hk, rfl, ho, hb, hA⟩ := hrel
   have HA := Lib.hid hA
   have HB := Lib.hid hb
   have HO := Lib.hid ho
   have HV1 := Lib.hid (rsAt_below HV.out (below_trans hb4 hb))
   clear hA ho hb
   by_cases hlt : k < l.length
   · obtain ⟨hwf, ⟨h0, _⟩ | ⟨_, b, off, cap', hv, hc1, hc2, hc⟩⟩ := HV1.out
     · subst h0; simp at hlt
     cases hv
     obtain ⟨hx, hy⟩ := hc k hlt
     obtain ⟨x, y, hxy⟩ : ∃ x y, l[k] = (x, y) := ⟨_, _, rfl⟩
     have hw := hwf _ (List.getElem_mem hlt)
     rw [hxy] at hx hy hw
     simp only at hx hy hw
     obtain ⟨⟨hx1, hx2⟩, hy1, hy2⟩ := hw
     have HXY := Lib.hid hxy
     clear hc hxy hwf
     go_wp2_with fail
     have hDl := HA.out.2.2
     refine (add_any _ D (max x 0) (min y m) w1.heap.size _ (ownZ_below HO.out (below_alloc _ _)) (by omega) (by omega) (by omega) (Nat.le_trans HB.out.size (below_alloc _ _).size) (by omega) (by omega)).mono ?_
     rintro e w2 ⟨va, rfl, ho2, hb2⟩
     have HO2 := Lib.hid ho2
     have HB2 := Lib.hid (HB.out.trans (((below_alloc _ _).mono HB.out.size).trans hb2))
     have HA2 := Lib.hid (ainv_step hm1 hlt HA.out)
     clear ho2 hb2
     go_wp2_with fail
     go_roundw
     case rel => exact ⟨k + 1, addP D (max x 0) (min y m), by omega, by go_num, HO2.out, HB2.out, by have := HA2.out; rwa [HXY.out] at this⟩
     case measure => simp [intOf]; omega
   · obtain rfl : k = l.length := by omega
     have hA := HA.out
     have HJ := Lib.hid (joined_any _ D w1.heap.size wr HO.out hA.1 (by have := hA.2.2; omega) HB.out.size)
     clear hA
     go_wp2_with fail
     refine HJ.out.mono ?_
     rintro e w2 ⟨va, S, rfl, hS, hh, hz, hb2⟩
     obtain ⟨k4, g4⟩ := keeps (HB.out.trans hb2) hlt4 C4.out F4.out
     obtain ⟨a2, cap2, rfl⟩ := zsAt_len hz
     have HS := Lib.hid hS
     have HH := Lib.hid hh
     have HZ := Lib.hid hz
     have HB2 := Lib.hid (HB.out.trans hb2)
     clear hS hh hz hb2
     go_wp2_with fail
     refine bodyPost_ret (v := .agg #[.slice a2 S.length cap2]) (by simp [results, Tryz.results96, go_sem, k4]) rfl ?_
     refine ⟨_, S, rfl, HS.out, fun c => ?_, zsAt_mono (zsAt_set (zsAt_mono HZ.out HB.out.size) hlt4 _) (Nat.le_of_lt hlt4), ?_⟩
     · rw [HH.out, HA.out.2.1, List.take_length, HM.out]
     · exact (hb4.trans (HB2.out.mono (Nat.le_of_lt hlt4))).setCell (Nat.le_refl _) _
def RRel (S : List Rg) (w : World) (v i : Value) (wr : World) : Prop :=
 ∃ k : Nat, k ≤ S.length ∧ i = .int .i64 k ∧ OwnR wr w.heap.size v (S.take k) ∧ Below w.heap.size w wr
def RsB (S : List Rg) (w : World) (e : Ending) (w' : World) : Prop := ∃ v, e = .returned v ∧ OwnR w' w.heap.size v S ∧ Below w.heap.size w w'
theorem rsB_of {S S' : List Rg} {w w' : World} {v : Value} (he : S' = S) (ho : OwnR w' w.heap.size v S') (hb : Below w.heap.size w w') : RsB S w (.returned v) w' := by
 subst he
 exact ⟨v, rfl, ho, hb⟩
set_option maxRecDepth 100000 in
set_option maxHeartbeats 2000000 in
theorem ranges_any (v : Value) (S : List Rg) (base : Nat) (w : World) (hS : Canon S) (hv : ZsAt base w v S) :
   Calls Tryz.prog 97 #[.agg #[v]] w (RsB S w) := by
 obtain ⟨a, cap, rfl⟩ := zsAt_len hv
 have hl := canon_len hS
 have HV := Lib.hid hv
 have HS := Lib.hid hS
 clear hv hS
 go_enter Tryz.func97, Tryz.ntmps97
 go_wp2_with fail
 go_loopw [3, 9] (fun v i wr => RRel S w v i wr) (fun _ i _ => S.length - (intOf i).toNat)
 case atStart => exact ⟨0, Nat.zero_le _, rfl, ownR_nil _ _, below_alloc _ _⟩
 case round =>
   obtain ⟨k, hk, rfl, ho, hb⟩ := hrel
   have HB := Lib.hid hb
   have HO := Lib.hid ho
   have HZ := Lib.hid (zsAt_below HV.out hb)
   clear ho hb
   by_cases hlt : k < S.length
   · rcases HZ.out with ⟨h0, _⟩ | ⟨_, b, cap', hv, hb0, hc1, hc2, hc⟩
     · subst h0; simp at hlt
     cases hv
     have hcell := hc k hlt
     obtain ⟨x, y, hxy⟩ : ∃ x y, S[k] = (x, y) := ⟨_, _, rfl⟩
     have hr := HS.out.2 _ (List.getElem_mem hlt)
     have HT := Lib.hid (take_snoc hlt)
     rw [hxy] at hcell hr HT
     simp only [zc] at hcell
     simp only at hr
     obtain ⟨hx0, hxy1, hy1⟩ := hr
     have HX := Lib.hid (fun w => first_in (b := y) w (cl_id hx0 (by omega)))
     have HY := Lib.hid (fun w => last_in (a := x) w (cl_id (by omega) hy1))
     have hkl : (S.take k).length ≤ 100000000 := by rw [List.length_take]; omega
     have HKL := Lib.hid hkl
     clear hc hxy hkl
     go_wp2_with fail
     refine (HX.out _).mono ?_
     rintro e w' ⟨rfl, rfl⟩
     go_wp2_with fail
     refine (HY.out _).mono ?_
     rintro e w' ⟨rfl, rfl⟩
     go_wp2_with (at_builtin; refine wpList_append_r rfl _ _ rfl w.heap.size _ (S.take k) rfl HO.out x y _ rfl rfl HKL.out HB.out.size ?_; intro va wa hoa hba; have HOa := Lib.hid hoa; have HBa := Lib.hid (hba _ _ HB.out (Nat.le_refl _)); clear hoa hba)
     go_roundw
     case rel => exact ⟨k + 1, by omega, by go_num, by rw [HT.out]; exact HOa.out, HBa.out⟩
     case measure => simp [intOf]; omega
   · obtain rfl : k = S.length := by omega
     go_wp2_with fail
     go_ret
     exact rsB_of List.take_length HO.out HB.out
end Go.Proofs.YtkcmjcgjfjfimaaGreatDoor.setw
end
section
namespace Go.Proofs.YtkcmjcgjfjfimaaGreatDoor.setw
open Go Go.RowKit Go.Shelf bulk ucdp ucdw setp flt setl
theorem two_new (w : World) (v1 v2 : Value) (T1 T2 : TypeId) : ((w.alloc (.cells #[v1] T1)).alloc (.cells #[v2] T2)).cell? ⟨w.heap.size + 1, 0, none⟩ = some v2 ∧ ((w.alloc (.cells #[v1] T1)).alloc (.cells #[v2] T2)).frozen? ⟨w.heap.size + 1, 0, none⟩ = false ∧ w.heap.size + 1 < ((w.alloc (.cells #[v1] T1)).alloc (.cells #[v2] T2)).heap.size ∧ Below w.heap.size w ((w.alloc (.cells #[v1] T1)).alloc (.cells #[v2] T2)) := by
 have h := cell_new (w.alloc (.cells #[v1] T1)) v2 T2
 rw [World.size_alloc] at h
 exact ⟨h.1, h.2.1, h.2.2.1, below_trans (below_alloc _ _) (below_alloc _ _)⟩
def NtRel (S : List Rg) (m : Int) (w1 : World) (v f i : Value) (wr : World) : Prop :=
 ∃ (k : Nat) (fr : Int) (D : List Rg), k ≤ S.length ∧ i = .int .i64 k ∧ f = .int .i64 fr ∧ OwnZ wr w1.heap.size v D ∧ Below w1.heap.size w1 wr ∧ NInv S m k fr D
set_option maxRecDepth 100000 in
set_option maxHeartbeats 2000000 in
theorem not_any (v : Value) (S : List Rg) (base : Nat) (most : Int) (w : World) (hS : Canon S) (hv : ZsAt base w v S) (h1 : -9223372036854775808 ≤ most) (h2 : most ≤ 9223372036854775807) :
   Calls Tryz.prog 121 #[.agg #[v], .int .i64 most] w (SetB (fun c => 0 ≤ c ∧ c ≤ min most 1114111 ∧ ¬ Has S c) w) := by
 obtain ⟨a, cap, rfl⟩ := zsAt_len hv
 have hl := canon_len hS
 have HV := Lib.hid hv
 have HS := Lib.hid hS
 obtain ⟨m, hm⟩ : ∃ m, min most 1114111 = m := ⟨_, rfl⟩
 have hm1 : m ≤ 1114111 := by omega
 have hm2 : -9223372036854775808 ≤ m := by omega
 clear hv hS
 go_enter Tryz.func121, Tryz.ntmps121
 go_wp2_with fail
 obtain ⟨c4, f4, hlt4, hb4⟩ := two_new w (.slice a S.length cap) (.slice none 0 0) 113 113
 generalize (w.alloc _).alloc _ = w1 at *
 have C4 := Lib.hid c4
 have F4 := Lib.hid f4
 have HM := Lib.hid hm
 have HB4 := Lib.hid hb4
 clear c4 f4 hm hb4
 go_loopw [5, 6, 14] (fun v f i wr => NtRel S m w1 v f i wr) (fun _ _ i _ => S.length - (intOf i).toNat)
 case atStart => exact ⟨0, 0, [], Nat.zero_le _, rfl, rfl, ownZ_nil _ _, Below.refl _ _, ninv_start HS.out _⟩
 case round =>
   obtain ⟨k, fr, D, hk, rfl, rfl, ho, hb, hA⟩ := hrel
   have HA := Lib.hid hA
   have HB := Lib.hid hb
   have HO := Lib.hid ho
   have HZ := Lib.hid (zsAt_below HV.out (below_trans HB4.out hb))
   have hf0 := hA.2.2.2.2.2.1
   have hf1 := hA.2.2.2.2.2.2.1
   have hDl := hA.2.2.2.2.2.2.2
   clear hA ho hb
   by_cases hlt : k < S.length
   · rcases HZ.out with ⟨h0, _⟩ | ⟨_, b, cap', hv, hb0, hc1, hc2, hc⟩
     · subst h0; simp at hlt
     cases hv
     have hcell := hc k hlt
     have hr := HS.out.2 _ (List.getElem_mem hlt)
     have HA2 := Lib.hid (ninv_step HS.out hm1 hlt HA.out)
     obtain ⟨x, y, hxy⟩ : ∃ x y, S[k] = (x, y) := ⟨_, _, rfl⟩
     rw [hxy] at hcell hr HA2
     simp only [zc] at hcell
     simp only at hr HA2
     obtain ⟨hx0, hxy1, hy1⟩ := hr
     have HX := Lib.hid (fun w => first_in (b := y) w (cl_id hx0 (by omega)))
     have HY := Lib.hid (fun w => last_in (a := x) w (cl_id (by omega) hy1))
     clear hc hxy
     go_wp2_with fail
     refine (HX.out _).mono ?_
     rintro e w' ⟨rfl, rfl⟩
     go_wp2_with fail
     refine (add_any _ D fr (min (x - 1) m) w1.heap.size _ HO.out hf0 (by omega) (by omega) HB.out.size (by omega) (by omega)).mono ?_
     rintro e w2 ⟨va, rfl, ho2, hb2⟩
     have HO2 := Lib.hid ho2
     have HB2 := Lib.hid (HB.out.trans hb2)
     clear ho2 hb2
     go_wp2_with fail
     refine (HY.out _).mono ?_
     rintro e w' ⟨rfl, rfl⟩
     go_wp2_with fail
     go_roundw
     case rel => exact ⟨k + 1, y + 1, _, by omega, by go_num, rfl, HO2.out, HB2.out, HA2.out⟩
     case measure => simp [intOf]; omega
   · obtain rfl : k = S.length := by omega
     have HE := Lib.hid (ninv_end hm1 HA.out)
     go_wp2_with fail
     refine (add_any _ D fr m w1.heap.size _ HO.out hf0 (by omega) (by omega) HB.out.size (by omega) (by omega)).mono ?_
     rintro e w2 ⟨va, rfl, ho2, hb2⟩
     obtain ⟨k4, g4⟩ := keeps (HB.out.trans hb2) hlt4 C4.out F4.out
     have HZ2 := Lib.hid (zsAt_own ho2)
     have HB2 := Lib.hid (HB.out.trans hb2)
     obtain ⟨a2, cap2, rfl⟩ := ownZ_len ho2
     clear ho2 hb2
     go_wp2_with fail
     refine bodyPost_ret (v := .agg #[.slice a2 (addP D fr m).length cap2]) (by simp [results, Tryz.results121, go_sem, k4]) rfl ?_
     refine ⟨_, addP D fr m, rfl, HE.out.1, fun c => ?_, zsAt_mono (zsAt_set HZ2.out hlt4 _) (by omega), ?_⟩
     · rw [HE.out.2, HM.out]
     · exact (HB4.out.trans (HB2.out.mono (by omega))).setCell (Nat.le_succ _) _
end Go.Proofs.YtkcmjcgjfjfimaaGreatDoor.setw
end
section
namespace Go.Proofs.YtkcmjcgjfjfimaaGreatDoor.ucdw
open Go Go.RowKit bulk ucdp
set_option maxHeartbeats 400000 in
theorem category_any (c : Int) (w : World) (h1 : -9223372036854775808 ≤ c) (h2 : c ≤ 9223372036854775807) : Calls Tryz.prog 143 #[.int .i64 c] w (StrB (catB (cls c).1) w) := by
 have HF := Lib.hid (find_any c w h1 h2)
 have hf := field1
 clear h1 h2
 go_enter Tryz.func143, Tryz.ntmps143
 go_wp2_with fail
 refine HF.out.mono ?_
 rintro e w1 ⟨t, rfl, hb1⟩
 go_wp2_with fail
 go_ret
 exact ⟨rfl, hb1⟩
set_option maxHeartbeats 400000 in
theorem script_any (c : Int) (w : World) (h1 : -9223372036854775808 ≤ c) (h2 : c ≤ 9223372036854775807) : Calls Tryz.prog 147 #[.int .i64 c] w (StrB (scrB (cls c).2.1) w) := by
 have HF := Lib.hid (find_any c w h1 h2)
 have hf := field2
 clear h1 h2
 go_enter Tryz.func147, Tryz.ntmps147
 go_wp2_with fail
 refine HF.out.mono ?_
 rintro e w1 ⟨t, rfl, hb1⟩
 go_wp2_with fail
 go_ret
 exact ⟨rfl, hb1⟩
end Go.Proofs.YtkcmjcgjfjfimaaGreatDoor.ucdw
end
section
namespace Go.Proofs.YtkcmjcgjfjfimaaGreatDoor.prw
open Go Go.RowKit bulk ucdp ucdw setp prp
def BolB (r : Bool) (w : World) (e : Ending) (w' : World) : Prop := e = .returned (.bool r) ∧ Below w.heap.size w w'
def BolQ (r : Bool) (w : World) (e : Ending) (w' : World) : Prop := e = .returned (.bool r) ∧ ∃ q, w' = w.drewN q
theorem bolQ_of {r s : Bool} {w : World} {q : Nat} (h : s = r) : BolQ r w (.returned (.bool s)) (w.drewN q) := by
 subst h
 exact ⟨rfl, q, rfl⟩
theorem below_dn {B : Nat} {w w' : World} (h : Below B w w') (n : Nat) : Below B w (w'.drewN n) := ⟨h.os, h.tape, h.output, h.size, h.block⟩
theorem beqS (a b : ByteArray) : (a.toList == b.toList) = decide (a = b) := by
 rw [Lib.toList_data, Lib.toList_data]
 by_cases h : a = b
 · subst h; simp
 · rw [decide_eq_false h, beq_eq_false_iff_ne]
   intro e
   exact h (by
     obtain ⟨x⟩ := a
     obtain ⟨y⟩ := b
     congr 1
     exact Array.toList_inj.1 e)
theorem prefix_lite (s t : ByteArray) (w : World) : Calls Tryz.prog 162 #[.string s, .string t] w (BolQ (pre s t) w) := by
 have HP := Lib.hid (show (decide (t.size ≤ s.size) && decide (s.extract 0 t.size = t)) = pre s t from rfl)
 by_cases h : t.size ≤ s.size
 · have hi : (t.size : Int) ≤ (s.size : Int) := by omega
   go_enter Tryz.func162, Tryz.ntmps162
   go_wp2_with fail
   go_ret
   exact bolQ_of (q := 0) (by rw [beqS, ← HP.out]; simp [h])
 · have hi : ¬ (t.size : Int) ≤ (s.size : Int) := by omega
   go_enter Tryz.func162, Tryz.ntmps162
   go_wp2_with fail
   go_ret
   exact bolQ_of (q := 0) (by rw [← HP.out]; simp [h])
theorem prefix_any (s t : ByteArray) (w : World) : Calls Tryz.prog 142 #[.string s, .string t] w (BolQ (pre s t) w) := by
 have HL := Lib.hid (prefix_lite s t w)
 go_enter Tryz.func142, Tryz.ntmps142
 go_wp2_with fail
 refine HL.out.mono ?_
 rintro e w1 ⟨rfl, q, rfl⟩
 go_wp2_with fail
 go_ret
 exact bolQ_of rfl
theorem eqS (a b : ByteArray) : a.toList = b.toList ↔ a = b := by
 rw [← beq_iff_eq, beqS, decide_eq_true_iff]
theorem cased_any (s : ByteArray) (w : World) : Calls Tryz.prog 145 #[.string s] w (BolQ (cased s) w) := by
 have HP := Lib.hid (show (decide (s = ⟨#[76, 117]⟩) || decide (s = ⟨#[76, 108]⟩)) = cased s from rfl)
 have f1 : s.toList = [76, 117] ↔ s = ⟨#[76, 117]⟩ := by rw [← eqS, show (⟨#[76, 117]⟩ : ByteArray).toList = [76, 117] from Lib.toList_data _]
 have f2 : s.toList = [76, 108] ↔ s = ⟨#[76, 108]⟩ := by rw [← eqS, show (⟨#[76, 108]⟩ : ByteArray).toList = [76, 108] from Lib.toList_data _]
 have F1 := Lib.hid f1
 have F2 := Lib.hid f2
 clear f1 f2
 by_cases h1 : s.toList = [76, 117]
 · have HR := Lib.hid (show true = cased s by rw [← HP.out, decide_eq_true (F1.out.1 h1)]; rfl)
   go_enter Tryz.func145, Tryz.ntmps145
   go_wp2_with fail
   go_ret
   exact bolQ_of (q := 0) HR.out
 · by_cases h2 : s.toList = [76, 108]
   · have HR := Lib.hid (show true = cased s by rw [← HP.out, decide_eq_true (F2.out.1 h2), Bool.or_true])
     go_enter Tryz.func145, Tryz.ntmps145
     go_wp2_with fail
     go_ret
     exact bolQ_of (q := 0) HR.out
   · have HR := Lib.hid (show false = cased s by rw [← HP.out, decide_eq_false (fun h => h1 (F1.out.2 h)), decide_eq_false (fun h => h2 (F2.out.2 h))]; rfl)
     have b1 : (s.toList == [76, 117]) = false := by simp [h1]
     have b2 : (s.toList == [76, 108]) = false := by simp [h2]
     go_enter Tryz.func145, Tryz.ntmps145
     go_wp2_with fail
     go_ret
     exact bolQ_of (q := 0) HR.out
theorem clo1_any (c : Int) (w : World) : Calls Tryz.prog 140 #[.int .i64 c] w (BolB true w) := by
 go_enter Tryz.func140, Tryz.ntmps140
 go_wp2_with fail
 go_ret
 exact ⟨rfl, Below.refl _ _⟩
theorem clo3_any (c : Int) (w : World) (h1 : -9223372036854775808 ≤ c) (h2 : c ≤ 9223372036854775807) : Calls Tryz.prog 144 #[.int .i64 c] w (BolB (cased (catB (cls c).1)) w) := by
 have HC := Lib.hid (category_any c w h1 h2)
 have HI := Lib.hid (fun w => cased_any (catB (cls c).1) w)
 generalize catB (cls c).1 = s at *
 generalize cased s = r at *
 clear h1 h2
 go_enter Tryz.func144, Tryz.ntmps144
 go_wp2_with fail
 refine HC.out.mono ?_
 rintro e w1 ⟨rfl, hb⟩
 go_wp2_with fail
 refine (HI.out _).mono ?_
 rintro e w2 ⟨rfl, q, rfl⟩
 go_wp2_with fail
 go_ret
 exact ⟨rfl, below_dn hb _⟩
theorem clo2_any (c : Int) (n : ByteArray) (b : Nat) (w : World) (hc : w.cell? ⟨b, 0, none⟩ = some (.string n)) (h1 : -9223372036854775808 ≤ c) (h2 : c ≤ 9223372036854775807) :
   Calls Tryz.prog 141 #[.int .i64 c, .pointer (some ⟨b, 0, none⟩)] w (BolB (pre (catB (cls c).1) n) w) := by
 have HC := Lib.hid (fun w => category_any c w h1 h2)
 have HI := Lib.hid (fun w => prefix_any (catB (cls c).1) n w)
 generalize catB (cls c).1 = s at *
 generalize pre s n = r at *
 clear h1 h2
 go_enter Tryz.func141, Tryz.ntmps141
 go_wp2_with fail
 go_region_held3 (fun w' => w'.cell? ⟨b, 0, none⟩ = some (.string n) ∧ Below w.heap.size w w') (first | exact ⟨by simpa using hc, below_drew _⟩ | (go_split_ands; exact ⟨below_cell hb1 (by assumption), below_trans (by assumption) hb1⟩) | (go_split_ands; exact ⟨by assumption, below_dn (by assumption) _⟩))
   (first | (go_at_call 143; refine (HC.out _).mono ?_; rintro e w1 ⟨rfl, hb1⟩) | (go_at_call 142; refine (HI.out _).mono ?_; rintro e w1 ⟨rfl, q1, rfl⟩))
 go_wp2_with fail
 go_ret
 go_split_ands
 exact ⟨rfl, by assumption⟩
theorem clo4_any (c : Int) (n : ByteArray) (b : Nat) (w : World) (hc : w.cell? ⟨b, 0, none⟩ = some (.string n)) (h1 : -9223372036854775808 ≤ c) (h2 : c ≤ 9223372036854775807) :
   Calls Tryz.prog 146 #[.int .i64 c, .pointer (some ⟨b, 0, none⟩)] w (BolB (decide (scrB (cls c).2.1 = n)) w) := by
 have HC := Lib.hid (fun w => script_any c w h1 h2)
 generalize scrB (cls c).2.1 = s at *
 have HB := Lib.hid (beqS s n)
 clear h1 h2
 go_enter Tryz.func146, Tryz.ntmps146
 go_wp2_with fail
 go_region_held3 (fun w' => w'.cell? ⟨b, 0, none⟩ = some (.string n) ∧ Below w.heap.size w w') (first | exact ⟨by simpa using hc, below_drew _⟩ | (go_split_ands; exact ⟨below_cell hb1 (by assumption), below_trans (by assumption) hb1⟩))
   (first | (go_at_call 147; refine (HC.out _).mono ?_; rintro e w1 ⟨rfl, hb1⟩))
 go_wp2_with fail
 go_ret
 go_split_ands
 exact ⟨by first | rfl | (simp; exact HB.out), by assumption⟩
end Go.Proofs.YtkcmjcgjfjfimaaGreatDoor.prw
end
