/- T -/
import Derived.BigQuiet
import Derived.Deep.QuietTactic
import Derived.Deep.RegionHeld3
import Derived.IntWalk
import Derived.Laws.Cover2
import Derived.Laws.Cover3
import Derived.Laws.FloatArith
import Derived.Lib.Hide
import Derived.Lib.OwnBridge
import Derived.Outline
import Derived.Shelf.Lays8
import Derived.Shelf.SlLaysC2
import Derived.Shelf.SlLaysE
import Derived.Shelf.SlLaysE0
import Derived.Shelf.SlLaysF
import Derived.Shelf.SlLaysH
import Derived.Shelf.SlSortCmp.NoneTotal
import Derived.Shelf.SlicesE.Equal
import Derived.Shelf.SlicesE.IndexFunc
import Derived.Shelf.SlicesG.Cmp
import Derived.Sort.Walk0
import Derived.StillTailTactics
import Derived.Test.YtikjhfmmfpeaoaaGreatDoorChecked
import Derived.WalkLawsBesides
import Derived.Test.YtikjhfmmfpeaoaaGreatDoorBFs05
set_option maxHeartbeats 16000000
set_option maxRecDepth 1000000
namespace Go.Proofs.YtikjhfmmfpeaoaaGreatDoor
section
namespace setw
open sq
open Go Go.RowKit bulk ucdp ucdw setp flt
def zc (r : Rg) : Value := .complex .f64 (fw r.1) (fw r.2)
theorem fw_val (x : Int) : floatToIntVal .f64 (fw x) .i64 = some (cl x) := by
 unfold floatToIntVal;rw [fw_int];have := cl_bd x;have h : IntKind.i64.min ≤ cl x ∧ cl x ≤ IntKind.i64.max := by rw [show IntKind.i64.min = -9223372036854775808 by decide, show IntKind.i64.max = 9223372036854775807 by decide];omega
 simp only [if_pos h]
theorem conv_int (x : Int) (w : World) : (convert 151 3 (.float .f64 (fw x))).run Tryz.prog w = .ok (.int .i64 (cl x)) w :=
 run_convert_float_int w _ _ .f64 .i64 _ _ (by kernel_rfl) Tryz.underlying3 (fw_val x)
theorem first_any (a b : Int) (w : World) : Calls Tryz.prog 110 #[.complex .f64 (fw a) (fw b)] w fun e w' => e = .returned (.int .i64 (cl a)) ∧ w = w' := by
 have hc := conv_int a;go_enter Tryz.func110, Tryz.ntmps110
 go_wp2
 go_ret
 exact ⟨rfl, rfl⟩
theorem last_any (a b : Int) (w : World) : Calls Tryz.prog 111 #[.complex .f64 (fw a) (fw b)] w fun e w' => e = .returned (.int .i64 (cl b)) ∧ w = w' := by
 have hc := conv_int b;go_enter Tryz.func111, Tryz.ntmps111
 go_wp2
 go_ret
 exact ⟨rfl, rfl⟩
theorem first_in {a b : Int} (w : World) (h : cl a = a) : Calls Tryz.prog 110 #[.complex .f64 (fw a) (fw b)] w fun e w' => e = .returned (.int .i64 a) ∧ w = w' := by have := first_any a b w;rwa [h] at this
theorem last_in {a b : Int} (w : World) (h : cl b = b) : Calls Tryz.prog 111 #[.complex .f64 (fw a) (fw b)] w fun e w' => e = .returned (.int .i64 b) ∧ w = w' := by have := last_any a b w;rwa [h] at this
theorem first_q {a b : Int} (w : World) (h : cl a = a) : Calls Tryz.prog 110 #[.complex .f64 (fw a) (fw b)] w fun e w' => e = .returned (.int .i64 a) ∧ w' = w := (first_in w h).mono fun _ _ ⟨h, k⟩ => ⟨h, k.symm⟩
theorem last_q {a b : Int} (w : World) (h : cl b = b) : Calls Tryz.prog 111 #[.complex .f64 (fw a) (fw b)] w fun e w' => e = .returned (.int .i64 b) ∧ w' = w := (last_in w h).mono fun _ _ ⟨h, k⟩ => ⟨h, k.symm⟩
theorem span_any (a b : Int) (w : World) (ha : 0 ≤ a) (ha2 : a ≤ 1114111) (hb : 0 ≤ b) (hb2 : b ≤ 1114111) : Calls Tryz.prog 113 #[.int .i64 a, .int .i64 b] w fun e w' => e = .returned (.complex .f64 (fw a) (fw b)) ∧ w = w' := by
 have h1 : floatOfInt .f64 a = fw a := fw_near ha ha2;have h2 : floatOfInt .f64 b = fw b := fw_near hb hb2;have c1 : ∀ w, (convert 3 151 (.int .i64 a)).run Tryz.prog w = .ok (.float .f64 (fw a)) w := fun w => by rw [← h1]; exact run_convert_int_float w _ _ _ _ _ (by kernel_rfl) Tryz.underlying151
 have c2 : ∀ w, (convert 3 151 (.int .i64 b)).run Tryz.prog w = .ok (.float .f64 (fw b)) w := fun w => by rw [← h2]; exact run_convert_int_float w _ _ _ _ _ (by kernel_rfl) Tryz.underlying151
 clear h1 h2;go_enter Tryz.func113, Tryz.ntmps113
 go_wp2
 go_ret
 exact ⟨rfl, rfl⟩
theorem span_q (a b : Int) (w : World) (ha : 0 ≤ a) (ha2 : a ≤ 1114111) (hb : 0 ≤ b) (hb2 : b ≤ 1114111) : Calls Tryz.prog 113 #[.int .i64 a, .int .i64 b] w fun e w' => e = .returned (.complex .f64 (fw a) (fw b)) ∧ w' = w := (span_any a b w ha ha2 hb hb2).mono fun _ _ ⟨h, k⟩ => ⟨h, k.symm⟩
theorem infoSpan : (Tryz.prog.info? 146).map (fun i => (i.zero, i.size, i.bytes)) = some (some (.complex .f64 0 0), 1, 16) := by kernel_rfl
def zcs (l : List Rg) : List Value := l.map zc
def OwnZ (w : World) (base : Nat) (v : Value) (D : List Rg) : Prop := w.ownsRow base 146 1 v D.length (zcs D) ∧ (D = [] → v = .slice none 0 0)
theorem ownZ_nil (w : World) (base : Nat) : OwnZ w base (.slice none 0 0) [] := ⟨World.ownsRow_nil w base _ 1, fun _ => rfl⟩
theorem ownZ_below {w w' : World} {base : Nat} {v : Value} {D : List Rg} (h : OwnZ w base v D) (hb : Below w.heap.size w w') : OwnZ w' base v D := by
 obtain ⟨⟨h1, h2⟩, hn⟩ := h;refine ⟨⟨h1, ?_⟩, hn⟩;rcases h2 with h2 | ⟨g, cap, cur, hv, hg, hh, r⟩
 ·exact Or.inl h2
 ·refine Or.inr ⟨g, cap, cur, hv, hg, ?_, r⟩;have hlt : g < w.heap.size := by exact z131
  rw [hb.block g hlt];exact hh
theorem wpList_append_z {ops : Array Oper} {rest : List Oper} {o : Oper} {a : Act} {w : World} {Q : Exit → Act → World → Prop} (hgd : o.guard = none) (s x : Operand)
 (ho : o.op = .call { callee := .builtin .append, args := #[s, x], argTypes := #[137, 137] }) (base : Nat) (v : Value) (D : List Rg) (hs : a.eval s = v) (hown : OwnZ w base v D)
 (q1 q2 : Int) (B : Nat) (hx : a.eval x = .slice (some ⟨B, 0, none⟩) 1 1) (hB : B = w.heap.size) (hlen : D.length ≤ 100000000) (hbase : base ≤ w.heap.size)
 (h : ∀ v' w', OwnZ w' base v' (D ++ [(q1, q2)]) → (∀ B w1, Below B w1 w → B ≤ base → Below B w1 w') → wpList Tryz.prog ops Q rest (a.put o.dst v') w') :
 wpList Tryz.prog ops Q (o :: rest) a (w.alloc (.cells #[.complex .f64 (fw q1) (fw q2)] 146)) := by
 subst hB;obtain ⟨i0, hi, hz0, hz1, hz2⟩ := info_parts infoSpan;refine wpList_append_own _ hgd s x _ ho base 146 i0 (.complex .f64 0 0) 1 16 Tryz.underlying137 hi hz0 hz1 hz2 rfl (by decide) v _ _ hs (World.ownsRow.alloc hown.1 _) ⟨w.heap.size, 0, none⟩ 1 1 [.complex .f64 (fw q1) (fw q2)] hx rfl ?_ ?_ (by unfold maxLen; omega) (by omega) (by rw [World.size_alloc]; omega) ?_
 ·intro j u hj;exact z47
 ·intro u hu;simp only [List.mem_cons, dM, or_false] at hu;subst hu;rfl
 ·intro v' w' hown' hgr _;refine h v' w' ?_ (fun B w1 hb hB => (hb.alloc (by have := hb.size; omega) _).grown hgr (by rw [World.size_alloc]; omega) (fun k hk => ?_))
  ·have e : zcs (D ++ [(q1, q2)]) = zcs D ++ [.complex .f64 (fw q1) (fw q2)] := by simp [zcs, zc]
   unfold OwnZ;rw [e];exact ⟨by simpa using hown', fun h => absurd h (by simp)⟩
  ·have := (World.ownsRow.lt hown.1) k hk;omega
def OwnB (base : Nat) (D : List Rg) (w : World) (e : Ending) (w' : World) : Prop := ∃ v, e = .returned v ∧ OwnZ w' base v D ∧ Below base w w'
theorem ownB_of {base : Nat} {D D' : List Rg} {w w' : World} {v : Value} (h : D' = D) (ho : OwnZ w' base v D') (hb : Below base w w') : OwnB base D w (.returned v) w' := by subst h;exact ⟨v, rfl, ho, hb⟩
theorem add_any (v : Value) (D : List Rg) (a b : Int) (base : Nat) (w : World) (hown : OwnZ w base v D) (h0 : 0 ≤ a) (h1 : b ≤ 1114111) (hlen : D.length ≤ 100000000) (hbase : base ≤ w.heap.size)
 (ha : a ≤ 9223372036854775807) (hb : -9223372036854775808 ≤ b) : Calls Tryz.prog 107 #[v, .int .i64 a, .int .i64 b] w (OwnB base (addP D a b) w) := by
 have HO := xH hown;clear hown;by_cases hab : b < a
 ·have HE := xH (show D = addP D a b by unfold addP; rw [if_pos hab]);go_enter Tryz.func107, Tryz.ntmps107;go_wp2_with fail
  go_ret
  exact ownB_of HE.out HO.out (Below.refl _ _)
 ·have HE := xH (show D ++ [(a, b)] = addP D a b by unfold addP; rw [if_neg hab]);have hS := xH (fun w => span_any a b w h0 (by omega) (by omega) h1);have HL := xH hlen;clear hlen;go_enter Tryz.func107, Tryz.ntmps107;go_wp2_with fail
  refine (hS.out _).mono ?_;rintro e w' ⟨rfl, rfl⟩;go_wp2_with (at_builtin; refine wpList_append_z rfl _ _ rfl base v D rfl HO.out a b _ rfl rfl HL.out hbase ?_; intro va wa hoa hba; have HOa := xH hoa; have hwa := hba _ _ (Below.refl base w) (xL _); clear hoa hba)
  go_ret
  exact ownB_of HE.out HOa.out hwa
end setw
end
section
namespace setl
open sq
open Go Go.Shelf
def sortZ_ren : Go.Shelf.Ren := ⟨fun | 6 => 114 | 15 => 120 | 14 => 119 | 28 => 134 | 29 => 135 | 20 => 126 | 21 => 127 | 22 => 128 | 23 => 129 | 24 => 130 | 25 => 131 | 26 => 132 | 27 => 133 | 46 => 136 | 47 => 137 | 48 => 138 | 49 => 139 | 50 => 140 | 57 => 141 | n => n, fun | 22 => 137 | 24 => 146 | 25 => 150 | 3 => 3 | 39 => 160 | 0 => 0 | 53 => 171 | 55 => 173 | 4 => 4 | 46 => 165 | 45 => 164 | 50 => 62 | 5 => 5 | 9 => 9 | 66 => 176 | 70 => 180 | 76 => 182 | 77 => 65 | n => n, fun | n => n⟩
theorem sortZ : Go.Proofs.SlLaysF.n6 Tryz.prog sortZ_ren := {
 mixed := by kernel_rfl,
 f6 := ⟨Tryz.f114.name, by decide, Tryz.func114.trans (congrArg some (by kernel_rfl))⟩,
 f14 := ⟨Tryz.f119.name, by decide, Tryz.func119.trans (congrArg some (by kernel_rfl))⟩,
 f15 := Tryz.func120.trans (congrArg some (by kernel_rfl)),
 f20 := ⟨Tryz.f126.name, by decide, Tryz.func126.trans (congrArg some (by kernel_rfl))⟩,
 f21 := ⟨Tryz.f127.name, by decide, Tryz.func127.trans (congrArg some (by kernel_rfl))⟩,
 f22 := ⟨Tryz.f128.name, by decide, Tryz.func128.trans (congrArg some (by kernel_rfl))⟩,
 f23 := ⟨Tryz.f129.name, by decide, Tryz.func129.trans (congrArg some (by kernel_rfl))⟩,
 f24 := ⟨Tryz.f130.name, by decide, Tryz.func130.trans (congrArg some (by kernel_rfl))⟩,
 f25 := ⟨Tryz.f131.name, by decide, Tryz.func131.trans (congrArg some (by kernel_rfl))⟩,
 f26 := ⟨Tryz.f132.name, by decide, Tryz.func132.trans (congrArg some (by kernel_rfl))⟩,
 f27 := ⟨Tryz.f133.name, by decide, Tryz.func133.trans (congrArg some (by kernel_rfl))⟩,
 f28 := Tryz.func134.trans (congrArg some (by kernel_rfl)),
 f29 := Tryz.func135.trans (congrArg some (by kernel_rfl)),
 f46 := ⟨Tryz.f136.name, by decide, Tryz.func136.trans (congrArg some (by kernel_rfl))⟩,
 f47 := Tryz.func137.trans (congrArg some (by kernel_rfl)),
 f48 := Tryz.func138.trans (congrArg some (by kernel_rfl)),
 f49 := ⟨Tryz.f139.name, by decide, Tryz.func139.trans (congrArg some (by kernel_rfl))⟩,
 f50 := ⟨Tryz.f140.name, by decide, Tryz.func140.trans (congrArg some (by kernel_rfl))⟩,
 f57 := ⟨Tryz.f141.name, by decide, Tryz.func141.trans (congrArg some (by kernel_rfl))⟩,
 t0 := Tryz.underlying0,
 a0 := Tryz.isAgg0,
 z0 := Tryz.sizeOf0,
 v0 := Tryz.zeroValue0,
 t3 := Tryz.underlying3,
 a3 := Tryz.isAgg3,
 z3 := Tryz.sizeOf3,
 v3 := Tryz.zeroValue3,
 t4 := Tryz.underlying4,
 a4 := Tryz.isAgg4,
 z4 := Tryz.sizeOf4,
 v4 := Tryz.zeroValue4,
 t5 := Tryz.underlying5,
 a5 := Tryz.isAgg5,
 z5 := Tryz.sizeOf5,
 v5 := Tryz.zeroValue5,
 t9 := Tryz.underlying9,
 a9 := Tryz.isAgg9,
 z9 := Tryz.sizeOf9,
 v9 := Tryz.zeroValue9,
 t22 := Tryz.underlying137,
 a22 := Tryz.isAgg137,
 z22 := Tryz.sizeOf137,
 v22 := Tryz.zeroValue137,
 a24 := Tryz.isAgg146,
 z24 := Tryz.sizeOf146,
 t25 := Tryz.underlying150,
 a25 := Tryz.isAgg150,
 z25 := Tryz.sizeOf150,
 v25 := Tryz.zeroValue150,
 t39 := Tryz.underlying160,
 a39 := Tryz.isAgg160,
 z39 := Tryz.sizeOf160,
 v39 := Tryz.zeroValue160,
 t45 := Tryz.underlying164,
 a45 := Tryz.isAgg164,
 z45 := Tryz.sizeOf164,
 v45 := Tryz.zeroValue164,
 t46 := Tryz.underlying165,
 a46 := Tryz.isAgg165,
 z46 := Tryz.sizeOf165,
 v46 := Tryz.zeroValue165,
 t50 := Tryz.underlying62,
 a50 := Tryz.isAgg62,
 z50 := Tryz.sizeOf62,
 v50 := Tryz.zeroValue62,
 t53 := Tryz.underlying171,
 a53 := Tryz.isAgg171,
 z53 := Tryz.sizeOf171,
 v53 := Tryz.zeroValue171,
 t55 := Tryz.underlying173,
 a55 := Tryz.isAgg173,
 z55 := Tryz.sizeOf173,
 v55 := Tryz.zeroValue173,
 t66 := Tryz.underlying176,
 a66 := Tryz.isAgg176,
 z66 := Tryz.sizeOf176,
 v66 := Tryz.zeroValue176,
 t70 := Tryz.underlying180,
 a70 := Tryz.isAgg180,
 z70 := Tryz.sizeOf180,
 v70 := Tryz.zeroValue180,
 t76 := Tryz.underlying182,
 a76 := Tryz.isAgg182,
 z76 := Tryz.sizeOf182,
 v76 := Tryz.zeroValue182,
 t77 := Tryz.underlying65,
 a77 := Tryz.isAgg65,
 z77 := Tryz.sizeOf65,
 v77 := Tryz.zeroValue65 }
def cloneZ_ren : Go.Shelf.Ren := ⟨fun | 41 => 109 | n => n, fun | 22 => 137 | 23 => 146 | 4 => 4 | n => n, fun | n => n⟩
theorem cloneZ : Go.Proofs.SlLaysE0.n41 Tryz.prog cloneZ_ren := {
 mixed := by kernel_rfl,
 f41 := ⟨Tryz.f109.name, by decide, Tryz.func109.trans (congrArg some (by kernel_rfl))⟩,
 t4 := Tryz.underlying4,
 a4 := Tryz.isAgg4,
 z4 := Tryz.sizeOf4,
 v4 := Tryz.zeroValue4,
 t22 := Tryz.underlying137,
 a22 := Tryz.isAgg137,
 z22 := Tryz.sizeOf137,
 v22 := Tryz.zeroValue137 }
def cmpZ_ren : Go.Shelf.Ren := ⟨fun | 5 => 116 | 7 => 121 | n => n, fun | 22 => 3 | 3 => 3 | 4 => 4 | n => n, fun | n => n⟩
theorem cmpZ : Go.Proofs.SlLaysC2.n5 Tryz.prog cmpZ_ren := {
 mixed := by kernel_rfl,
 f5 := ⟨Tryz.f116.name, by decide, Tryz.func116.trans (congrArg some (by kernel_rfl))⟩,
 f7 := ⟨Tryz.f121.name, by decide, Tryz.func121.trans (congrArg some (by kernel_rfl))⟩,
 t3 := Tryz.underlying3,
 a3 := Tryz.isAgg3,
 z3 := Tryz.sizeOf3,
 v3 := Tryz.zeroValue3,
 t4 := Tryz.underlying4,
 a4 := Tryz.isAgg4,
 z4 := Tryz.sizeOf4,
 v4 := Tryz.zeroValue4,
 t22 := Tryz.underlying3,
 a22 := Tryz.isAgg3,
 z22 := Tryz.sizeOf3,
 v22 := Tryz.zeroValue3 }
end setl
end
section
namespace setw
open sq
open Go Go.RowKit Go.Shelf bulk ucdp ucdw setp flt setl
def cf (x y : Rg) : Int := Lib.compareInt (cl x.1) (cl y.1)
theorem ltf (x y : Rg) : ltOf cf x y = decide (cl x.1 < cl y.1) := by
 unfold ltOf cf Lib.compareInt;by_cases h1 : cl x.1 < cl y.1
 ·simp [h1]
 ·by_cases h2 : cl y.1 < cl x.1 <;> simp [h1, h2]
theorem swof : Sort.SWO (ltOf cf) where
 irrefl x := by rw [ltf]; simp
 trans x y z h1 h2 := by rw [ltf] at *; simp at *; omega
 ntrans x y z h1 h2 := by rw [ltf] at *; simp at *; omega
theorem closure_any (x y : Rg) (W : World) : Calls Tryz.prog 115 #[zc x, zc y] W fun e w' => e = .returned (.int .i64 (cf x y)) ∧ ∃ q, w' = W.drewN q := by
 have h1 := first_any x.1 x.2;have h2 := first_any y.1 y.2;have hcon := fun W => AnyG.cmp_Compare_int cmpZ (cl x.1) (cl y.1) W
 change ∀ W, Calls Tryz.prog 116 _ W _ at hcon;unfold cf;generalize Lib.compareInt (cl x.1) (cl y.1) = r at hcon ⊢;have H1 := xH h1;have H2 := xH h2;have H3 := xH hcon;clear h1 h2 hcon;unfold zc;go_enter Tryz.func115, Tryz.ntmps115;go_wp2_with fail
 refine (H1.out _).mono ?_;rintro e w' ⟨rfl, rfl⟩;go_wp2_with fail
 refine (H2.out _).mono ?_;rintro e w' ⟨rfl, rfl⟩;go_wp2_with fail
 refine (H3.out _).mono ?_;rintro e w' ⟨rfl, rfl⟩;go_wp2_with fail
 go_ret
 exact ⟨rfl, 0, rfl⟩
theorem cmpReads (blk off size : Nat) (w : World) : CmpReads Tryz.prog 115 #[] zc cf blk off size w :=
 fun _ _ _ _ x y => closure_any x y _
theorem below_grown (B : Nat) (w : World) (hB : B ≤ w.heap.size) (os : Array Obj) : Below B w (Sort.grow w os) :=
 ⟨rfl, rfl, rfl, by show w.heap.size ≤ (w.heap ++ os).size; rw [Array.size_append]; omega, fun j hj => Sort.heap_grow_old w os (by omega)⟩
theorem below_draws {B : Nat} {w w' : World} (h : Below B w w') (n : Nat) : Below B w (w'.drewN n) := ⟨h.os, h.tape, h.output, h.size, h.block⟩
theorem ownZ_draws {w : World} {base : Nat} {v : Value} {D : List Rg} (h : OwnZ w base v D) (n : Nat) : OwnZ (w.drewN n) base v D := h
def SortPost (v : Value) (D : List Rg) (base : Nat) (w : World) (e : Ending) (w' : World) : Prop := e = .returned (.tuple #[]) ∧ ∃ D' : List Rg, D'.Perm D ∧ Rises D' ∧ OwnZ w' base v D' ∧ Below base w w'
theorem permList {D : List Rg} {d : Array Rg} (h : Sort.PermIn 0 D.toArray.size D.toArray d) : d.toList.Perm D ∧ d.size = D.length := by
 obtain ⟨h1, _, h2⟩ := h;have e1 : d.extract 0 D.toArray.size = d := by rw [← h1]; simp
 have e2 : D.toArray.extract 0 D.toArray.size = D.toArray := by simp
 rw [e1, e2] at h2;exact ⟨by simpa using h2, by simpa using h1⟩
theorem sort_any (v : Value) (D : List Rg) (base : Nat) (w : World) (hown : OwnZ w base v D) (hR : InR D) (hlen : D.length ≤ 100000000) :
 Calls Tryz.prog 114 #[v, .func (.func 115) #[] #[]] w (SortPost v D base w) := by
 by_cases hD : D = []
 ·subst hD;obtain rfl := hown.2 rfl;refine (AnyF.slices_SortFunc_none (P := Tryz.prog) (ρ := sortZ_ren) { sortZ with } none 0 _ w).mono ?_;rintro e w' ⟨rfl, rfl⟩;exact ⟨rfl, [], List.Perm.refl _, List.Pairwise.nil, ownZ_nil _ _, Below.refl _ _⟩
 ·obtain ⟨g, cap, rfl, hb, hg, hn, hm, hl, hH⟩ := Lib.holds_of_ownsRow hown.1 (by
   rintro rfl;obtain ⟨_, h2⟩ := hown.1;rcases h2 with ⟨_, hn⟩ | ⟨g, cap, cur, hv, _⟩
   ·exact hD (List.eq_nil_of_length_eq_zero hn)
   ·cases hv)
  have eg : ∀ args w, (callFunc 115 args).run Tryz.prog w = .ok (.enter 115 args) w := enters_of Tryz.func115 (by kernel_rfl) rfl;have hs := Any.slices_SortFunc (P := Tryz.prog) (ρ := sortZ_ren) sortZ zc (fun _ => rfl) cf swof 115 #[] g 0 cap D.toArray w eg (cmpReads g 0 _ w).lays hH hg (by simp; omega);refine hs.mono ?_;rintro e w' ⟨rfl, d', n, os, hp, hso, rfl⟩;obtain ⟨hp1, hp2⟩ := permList hp;refine ⟨rfl, d'.toList, hp1, ?_, ?_, ?_⟩
  ·refine List.pairwise_iff_getElem.2 fun i j hi hj hij => ?_
   have hi2 : i < d'.size := by simpa using hi
   have hj2 : j < d'.size := by simpa using hj
   have h1 := hso i j (Nat.zero_le _) hij (by simp; omega);rw [ltf, getElem!_pos d' j hj2, getElem!_pos d' i hi2] at h1;have hr1 := hR _ (hp1.mem_iff.1 (dI hi));have hr2 := hR _ (hp1.mem_iff.1 (dI hj));rw [Array.getElem_toList] at hr1 hr2;rw [cl_id hr1.1 (by omega), cl_id hr2.1 (by omega)] at h1;simp only [Array.getElem_toList];simpa using h1
  ·have h1 := Lib.ownsRow_putRow (q := n) (k := D.length) (ys := d'.toList) hown.1 (by simpa using hp2) (xL _);have h3 : d'.toList.take D.length = d'.toList := List.take_of_length_le (by simp; omega);rw [h3] at h1;have h4 : d'.toList.length = D.length := by simpa using hp2
   have h6 : OwnZ (Sort.putRow zc (Sort.ahead w n) g 0 d') base (.slice (some ⟨g, 0, none⟩) D.length cap) d'.toList := by refine ⟨?_, fun h => absurd (by have h5 := congrArg List.length h; rw [h4] at h5; exact List.eq_nil_of_length_eq_zero h5) hD⟩;rw [h4];simpa [zcs] using h1
   exact ownZ_below h6 (below_grown _ _ (xL _) os)
  ·have h1 := Lib.below_putRow (enc := zc) (q := n) (d := d') (Below.refl base w) hb;exact h1.trans (below_grown base _ (Nat.le_trans (by omega) h1.size) os)
theorem ownZ_slice {w : World} {base : Nat} {v : Value} {D : List Rg} (h : OwnZ w base v D) (hD : D ≠ []) : ∃ g cap : Nat, v = .slice (some ⟨g, 0, none⟩) D.length cap ∧ base ≤ g ∧ g < w.heap.size ∧ D.length ≤ cap ∧ cap ≤ 9223372036854775807 ∧ ∀ i (hi : i < D.length), w.cell? ⟨g, i, none⟩ = some (zc D[i]) := by
 have h' := h.1;obtain ⟨_, h2⟩ := h.1;rcases h2 with ⟨_, hn⟩ | ⟨g, cap, cur, hv, hg, hh, hnc, hcm, _⟩
 ·exact absurd (List.eq_nil_of_length_eq_zero hn) hD
 ·unfold maxLen at hcm;have hlt : g < w.heap.size := by exact z131
  refine ⟨g, cap, hv, hg, hlt, hnc, by omega, fun k hk => ?_⟩;rw [hv] at h';rw [h'.cellAt k (by omega)];simp [zcs, hk]
theorem ownZ_len {w : World} {base : Nat} {v : Value} {D : List Rg} (h : OwnZ w base v D) : ∃ a cap, v = .slice a D.length cap := by
 by_cases hD : D = []
 ·subst hD;exact ⟨none, 0, h.2 rfl⟩
 ·obtain ⟨g, cap, hv, _⟩ := ownZ_slice h hD;exact ⟨_, _, hv⟩
def ZsAt (base : Nat) (w : World) (v : Value) (S : List Rg) : Prop :=
 (S = [] ∧ v = .slice none 0 0) ∨ (S ≠ [] ∧ ∃ b cap : Nat, v = .slice (some ⟨b, 0, none⟩) S.length cap ∧ base ≤ b ∧ S.length ≤ cap ∧ cap ≤ 9223372036854775807 ∧ ∀ i (hi : i < S.length), w.cell? ⟨b, i, none⟩ = some (zc S[i]))
theorem zsAt_own {w : World} {base : Nat} {v : Value} {D : List Rg} (h : OwnZ w base v D) : ZsAt base w v D := by
 by_cases hD : D = []
 ·subst hD;exact Or.inl ⟨rfl, h.2 rfl⟩
 ·obtain ⟨g, cap, hv, h1, _, h3, h4, hc⟩ := ownZ_slice h hD;exact Or.inr ⟨hD, g, cap, hv, h1, h3, h4, hc⟩
theorem zsAt_below {base : Nat} {w w' : World} {v : Value} {S : List Rg} (h : ZsAt base w v S) (hb : Below w.heap.size w w') : ZsAt base w' v S := by
 rcases h with h | ⟨hS, b, cap, hv, h0, h1, h2, hc⟩
 ·exact Or.inl h
 ·exact Or.inr ⟨hS, b, cap, hv, h0, h1, h2, fun i hi => qf hb (hc i hi)⟩
theorem zsAt_mono {base base' : Nat} {w : World} {v : Value} {S : List Rg} (h : ZsAt base w v S) (hb : base' ≤ base) : ZsAt base' w v S := by
 rcases h with h | ⟨hS, b, cap, hv, h0, r⟩
 ·exact Or.inl h
 ·exact Or.inr ⟨hS, b, cap, hv, Nat.le_trans hb h0, r⟩
theorem zsAt_len {base : Nat} {w : World} {v : Value} {S : List Rg} (h : ZsAt base w v S) : ∃ a cap, v = .slice a S.length cap := by
 rcases h with ⟨h, hv⟩ | ⟨_, b, cap, hv, _⟩
 ·subst h; exact ⟨_, _, hv⟩
 ·exact ⟨_, _, hv⟩
theorem zsAt_set {base : Nat} {w : World} {v : Value} {S : List Rg} (h : ZsAt base w v S) {a : Addr} (ha : a.block < base) (u : Value) : ZsAt base (w.setCell a u) v S := by
 rcases h with h | ⟨hS, b, cap, hv, h0, h1, h2, hc⟩
 ·exact Or.inl h
 ·refine Or.inr ⟨hS, b, cap, hv, h0, h1, h2, fun i hi => ?_⟩;rw [← hc i hi];exact World.cell?_of_block (Below.heap_setCell w a u _ (by show b ≠ a.block; omega))
theorem ownZ_last {w : World} {base g m cap : Nat} {W0 : List Rg} {e r : Rg} (hm : W0.length = m) (h : OwnZ w base (.slice (some ⟨g, 0, none⟩) (m + 1) cap) (W0 ++ [e])) :
 OwnZ (w.setCell ⟨g, m, none⟩ (zc r)) base (.slice (some ⟨g, 0, none⟩) (m + 1) cap) (W0 ++ [r]) ∧ w.frozen? ⟨g, m, none⟩ = false ∧ ∀ B w0, Below B w0 w → B ≤ base → Below B w0 (w.setCell ⟨g, m, none⟩ (zc r)) := by
 subst hm;have hl : (W0 ++ [e]).length = W0.length + 1 := by simp
 have h1 := h.1;rw [hl] at h1;have h2 := World.ownsRow.stored h1 W0.length (zc r);have he : (zcs (W0 ++ [e])).set W0.length (zc r) = zcs (W0 ++ [r]) := by simp only [zcs, List.map_append, List.map_cons, List.map_nil];rw [List.set_append_right _ _ (by simp)];simp
 rw [he] at h2;refine ⟨⟨by rw [show (W0 ++ [r]).length = W0.length + 1 by simp]; exact h2.1, fun h => absurd h (by simp)⟩, World.ownsRow.frozenAt h1 _, fun B w0 hb hB => ?_⟩;have := (World.ownsRow.lt h1) g rfl;exact hb.setCell (by show B ≤ g; omega) _
def JRel (D : List Rg) (w1 : World) (v i : Value) (wr : World) : Prop :=
 ∃ (k : Nat) (W : List Rg), k ≤ D.length ∧ i = .int .i64 k ∧ OwnZ wr w1.heap.size v W ∧ Below w1.heap.size w1 wr ∧ JInv D k W
def JPost (base : Nat) (D : List Rg) (w : World) (e : Ending) (w' : World) : Prop := ∃ v S, e = .returned v ∧ Canon S ∧ (∀ c, Has S c ↔ Has D c) ∧ ZsAt w.heap.size w' v S ∧ Below base w w'
theorem jpost_of {base : Nat} {D D' W : List Rg} {w w1 wr : World} {v : Value} (hp : D'.Perm D) (hb : Below base w w1) (hbase : base ≤ w1.heap.size) (ho : OwnZ wr w1.heap.size v W) (hb2 : Below w1.heap.size w1 wr) (hj : JInv D' D'.length W) : JPost base D w (.returned v) wr :=
 ⟨v, W, rfl, (jinv_end hj).1, fun c => ((jinv_end hj).2 c).trans (has_perm hp c), zsAt_mono (zsAt_own ho) hb.size, hb.trans (hb2.mono hbase)⟩
theorem joined_any (v : Value) (D : List Rg) (base : Nat) (w : World) (hown : OwnZ w base v D) (hR : InR D) (hlen : D.length ≤ 100000000) (hbase : base ≤ w.heap.size) :
 Calls Tryz.prog 108 #[v] w (JPost base D w) := by
 have HS := xH (sort_any v D base w hown hR hlen);have HO := xH hown;clear hown;go_enter Tryz.func108, Tryz.ntmps108;go_wp2_with fail
 refine HS.out.mono ?_;rintro e w1 ⟨rfl, D', hp, hs, ho, hb⟩;have hl : D'.length = D.length := hp.length_eq;have hR' : InR D' := fun r hr => hR r (hp.mem_iff.1 hr)
 obtain ⟨a, cap, hv⟩ := ownZ_len ho;have HO' := xH ho;have HP := xH hp;have HSo := xH hs;have HB := xH hb;have HR := xH hR';have HL := xH hl;have hn : D'.length ≤ 100000000 := by omega
 have hw1 : base ≤ w1.heap.size := Nat.le_trans hbase hb.size;subst hv;clear hp hs hb hR hR' ho hl;go_wp2_with fail
 go_loopw [3, 11] (fun v i wr => JRel D' w1 v i wr) (fun _ i _ => D'.length - (intOf i).toNat)
 case atStart => exact ⟨0, [], Nat.zero_le _, rfl, ownZ_nil _ _, Below.refl _ _, jinv_start _⟩
 case round =>
  obtain ⟨k, W, hk, rfl, ho, hb, hj⟩ := hrel;have HJ := xH hj;have HBr := xH hb;have HW := xH ho;have hWl := hj.2.2.2;clear hj;by_cases hlt : k < D'.length
  ·obtain ⟨g, cap', hv, hg1, hg2, hg3, hg4, hc⟩ := ownZ_slice HO'.out (by intro h; rw [h] at hlt; simp at hlt);cases hv;have hcell := qf hb (hc k hlt);obtain ⟨x, y, hxy⟩ : ∃ x y, D'[k] = (x, y) := ⟨_, _, rfl⟩;have hr := HR.out _ (dI hlt);rw [hxy] at hr hcell;obtain ⟨hx0, hxy1, hy1⟩ := hr;simp only at hx0 hxy1 hy1;have HXY := xH hxy;have HX := xH (fun w => first_q (b := y) w (cl_id hx0 (by omega)));have HY := xH (fun w => last_q (a := x) w (cl_id (by omega) hy1));unfold zc at hcell;simp only at hcell;clear hc hxy hb ho;rcases List.eq_nil_or_concat W with hW | ⟨W0, e, hW⟩
   ·subst hW;obtain rfl := HW.out.2 rfl;have HJ1 := xH (jinv_first HR.out HSo.out hlt HJ.out);go_wp2_with fail
    go_quiet (fail)
    go_wp2_with (at_builtin; refine wpList_append_z rfl _ _ rfl w1.heap.size (.slice none 0 0) [] rfl (ownZ_nil _ _) x y _ rfl rfl (Nat.zero_le _) HBr.out.size ?_; intro va wa hoa hba; have HOa := xH hoa; have HBa := xH (hba _ _ (below_draws HBr.out _) (xL _)); clear hoa hba)
    go_roundw
    case rel => exact ⟨k + 1, [(x, y)], by omega, by go_num, HOa.out, HBa.out, by have := HJ1.out; rwa [HXY.out] at this⟩
    case measure => simp [intOf]; omega
   ·subst hW;rw [List.concat_eq_append] at *;obtain ⟨gw, cw, hv, hw1', hw2, hw3, hw4, hcw⟩ := ownZ_slice HW.out (by simp);have hce := hcw W0.length (by simp);have hlen : (W0 ++ [e]).length = W0.length + 1 := by simp
    rw [hlen] at hv hw3 hWl;have he := HJ.out.1.2 e (by simp);obtain ⟨e1, e2⟩ := e;obtain ⟨he0, he1, he2⟩ := he;simp only at he0 he1 he2;simp only [List.getElem_concat_length, zc] at hce;have HV := xH hv;obtain ⟨m, hm⟩ : ∃ m, W0.length = m := ⟨_, rfl⟩;have HM := xH hm;rw [hm] at hv hw3 hce hWl;subst hv;have HE1 := xH (fun w => first_q (b := e2) w (cl_id he0 (by omega)));have HE2 := xH (fun w => last_q (a := e1) w (cl_id (by omega) he2));have hwr : IntKind.i64.wrap (e2 + 1) = e2 + 1 := IntWalk.i64_in _ (by omega);clear hcw hlen hm;by_cases hj : x ≤ e2 + 1
    ·have HS1 := xH (fun w => span_q e1 (max e2 y) w he0 (by omega) (by omega) (by omega));go_wp2_with fail
     go_quiet ((first | (go_at_call 110; exact Calls.quiet_of_same (HX.out _)) | (go_at_call 111; exact Calls.quiet_of_same (HE2.out _))))
     go_wp2_with fail
     generalize hwq : wr.drewN _ = wq;obtain ⟨hcq, hoq, hbq⟩ : wq.drew.cell? ⟨gw, m, none⟩ = some (.complex .f64 (fw e1) (fw e2)) ∧ OwnZ wq.drew w1.heap.size (.slice (some ⟨gw, 0, none⟩) (m + 1) cw) (W0 ++ [(e1, e2)]) ∧ Below w1.heap.size w1 wq.drew := by rw [← hwq];exact ⟨hce, HW.out, (below_draws HBr.out _).drew⟩
     clear hwq;have hix : (m : Int) < (m : Int) + 1 := by omega
     refine wp_region_still_tail 17 (by kernel_rfl) (by kernel_rfl) ?_;simp only [List.take_succ_cons, List.take_zero, List.drop_succ_cons, List.drop_zero];change wpStill _ _ wq.drew _ _ _;generalize hwd : wq.drew = wd at *
     repeat still_step
     still_call (HE1.out _)
     repeat still_step
     still_call (HE2.out _)
     repeat still_step
     still_call (HY.out _)
     repeat still_step
     still_call (HS1.out _)
     repeat still_step
     refine wpStill_nil ?_;change wpList _ _ _ _ _ wq.drew;rw [hwd];clear hwd;obtain ⟨hn1, hn2, hn3⟩ := ownZ_last (r := (e1, max e2 y)) HM.out hoq;have HN := xH hn1;have HNB := xH (hn3 _ _ hbq (xL _));have HJ2 := xH (jinv_join HR.out hlt HJ.out (by rw [HXY.out]; exact hj));have hst := fun (a : Addr) (md : Mode) (w : World) => run_store Tryz.prog w a (.complex .f64 (fw e1) (fw (max e2 y))) md rfl
     clear hn1 hn3 hoq hbq;go_wp2_with fail
     go_roundw
     case rel => exact ⟨k + 1, W0 ++ [(e1, max e2 y)], by omega, by go_num, HN.out, HNB.out, by have := HJ2.out; rwa [HXY.out] at this⟩
     case measure => simp [intOf]; omega
    ·have HJ2 := xH (jinv_apart HR.out HSo.out hlt HJ.out (by rw [HXY.out]; show e2 + 1 < x; omega));have hjb : decide (x ≤ e2 + 1) = false := decide_eq_false hj;go_wp2_with fail
     go_quiet ((first | (go_at_call 110; exact Calls.quiet_of_same (HX.out _)) | (go_at_call 111; exact Calls.quiet_of_same (HE2.out _))))
     go_wp2_with (at_builtin; refine wpList_append_z rfl _ _ rfl w1.heap.size (.slice (some ⟨gw, 0, none⟩) (m + 1) cw) (W0 ++ [(e1, e2)]) rfl (ownZ_draws HW.out _) x y _ rfl rfl (by have := HM.out; simp only [List.length_append, dB, dA]; omega) HBr.out.size ?_; intro va wa hoa hba; have HOa := xH hoa; have HBa := xH (hba _ _ (below_draws HBr.out _) (xL _)); clear hoa hba)
     go_roundw
     case rel => exact ⟨k + 1, W0 ++ [(e1, e2)] ++ [(x, y)], by omega, by go_num, HOa.out, HBa.out, by have := HJ2.out; rwa [HXY.out] at this⟩
     case measure => simp [intOf]; omega
  ·go_wp2_with fail
   go_ret
   obtain rfl : k = D'.length := by omega
   exact jpost_of HP.out HB.out hw1 HW.out HBr.out HJ.out
def SetB (p : Int → Prop) (w : World) (e : Ending) (w' : World) : Prop := ∃ v S, e = .returned (.agg #[v]) ∧ Canon S ∧ (∀ c, Has S c ↔ p c) ∧ ZsAt w.heap.size w' v S ∧ Below w.heap.size w w'
def NRel (l : List Rg) (m : Int) (w1 : World) (v i : Value) (wr : World) : Prop :=
 ∃ (k : Nat) (D : List Rg), k ≤ l.length ∧ i = .int .i64 k ∧ OwnZ wr w1.heap.size v D ∧ Below w1.heap.size w1 wr ∧ AInv l m k D
theorem cell_new (w : World) (v : Value) (T : TypeId) : (w.alloc (.cells #[v] T)).cell? ⟨w.heap.size, 0, none⟩ = some v ∧ (w.alloc (.cells #[v] T)).frozen? ⟨w.heap.size, 0, none⟩ = false ∧ w.heap.size < (w.alloc (.cells #[v] T)).heap.size ∧ Below w.heap.size w (w.alloc (.cells #[v] T)) := by
 refine ⟨?_, ?_, by simp, qg _ _⟩
 ·rw [World.cell?_alloc_new]; rfl
 ·exact World.frozen?_alloc_new _ _ _ _
theorem keeps {w1 wr : World} {b : Nat} {v : Value} (hb : Below w1.heap.size w1 wr) (hlt : b < w1.heap.size) (hc : w1.cell? ⟨b, 0, none⟩ = some v) (hf : w1.frozen? ⟨b, 0, none⟩ = false) : wr.cell? ⟨b, 0, none⟩ = some v ∧ wr.frozen? ⟨b, 0, none⟩ = false :=
 ⟨(hb.cell (p := ⟨b, 0, none⟩) hlt).trans hc, (hb.frozen (p := ⟨b, 0, none⟩) hlt).trans hf⟩
theorem new_any (v : Value) (l : List Rg) (most : Int) (w : World) (hv : RsAt w v l) (hl : l.length ≤ 1000000) (h1 : -9223372036854775808 ≤ most) (h2 : most ≤ 9223372036854775807) :
 Calls Tryz.prog 103 #[v, .int .i64 most] w (SetB (fun c => Has l c ∧ 0 ≤ c ∧ c ≤ min most 1114111) w) := by
 obtain ⟨a, cap, rfl⟩ := jg hv;have HV := xH hv;have HL := xH hl;obtain ⟨m, hm⟩ : ∃ m, min most 1114111 = m := ⟨_, rfl⟩;have hm1 : m ≤ 1114111 := by omega
 have hm2 : -9223372036854775808 ≤ m := by omega
 clear hv;go_enter Tryz.func103, Tryz.ntmps103;go_wp2_with fail
 obtain ⟨c4, f4, hlt4, hb4⟩ := cell_new w (.slice none 0 0) 139;generalize w.alloc _ = w1 at *;have C4 := xH c4;have F4 := xH f4;have HM := xH hm;clear c4 f4 hm
 go_loopw [5, 12] (fun v i wr => NRel l m w1 v i wr) (fun _ i _ => l.length - (intOf i).toNat)
 case atStart => exact ⟨0, [], Nat.zero_le _, rfl, ownZ_nil _ _, Below.refl _ _, ainv_start _ _⟩
 case round =>
  obtain ⟨k, D, hk, rfl, ho, hb, hA⟩ := hrel;have HA := xH hA;have HB := xH hb;have HO := xH ho;have HV1 := xH (jl HV.out (qi hb4 hb));clear hA ho hb;by_cases hlt : k < l.length
  ·obtain ⟨hwf, ⟨h0, _⟩ | ⟨_, b, off, cap', hv, hc1, hc2, hc⟩⟩ := HV1.out
   ·subst h0; simp at hlt
   cases hv;obtain ⟨hx, hy⟩ := hc k hlt;obtain ⟨x, y, hxy⟩ : ∃ x y, l[k] = (x, y) := ⟨_, _, rfl⟩;have hw := hwf _ (dI hlt);rw [hxy] at hx hy hw;simp only at hx hy hw;obtain ⟨⟨hx1, hx2⟩, hy1, hy2⟩ := hw;have HXY := xH hxy;clear hc hxy hwf;go_wp2_with fail
   have hDl := HA.out.2.2;refine (add_any _ D (max x 0) (min y m) w1.heap.size _ (ownZ_below HO.out (qg _ _)) (by omega) (by omega) (by omega) (Nat.le_trans HB.out.size (qg _ _).size) (by omega) (by omega)).mono ?_;rintro e w2 ⟨va, rfl, ho2, hb2⟩;have HO2 := xH ho2;have HB2 := xH (HB.out.trans (((qg _ _).mono HB.out.size).trans hb2));have HA2 := xH (ainv_step hm1 hlt HA.out);clear ho2 hb2;go_wp2_with fail
   go_roundw
   case rel => exact ⟨k + 1, addP D (max x 0) (min y m), by omega, by go_num, HO2.out, HB2.out, by have := HA2.out; rwa [HXY.out] at this⟩
   case measure => simp [intOf]; omega
  ·obtain rfl : k = l.length := by omega
   have hA := HA.out;have HJ := xH (joined_any _ D w1.heap.size wr HO.out hA.1 (by have := hA.2.2; omega) HB.out.size);clear hA;go_wp2_with fail
   refine HJ.out.mono ?_;rintro e w2 ⟨va, S, rfl, hS, hh, hz, hb2⟩;obtain ⟨k4, g4⟩ := keeps (HB.out.trans hb2) hlt4 C4.out F4.out;obtain ⟨a2, cap2, rfl⟩ := zsAt_len hz;have HS := xH hS;have HH := xH hh;have HZ := xH hz;have HB2 := xH (HB.out.trans hb2);clear hS hh hz hb2;go_wp2_with fail
   refine xB (v := .agg #[.slice a2 S.length cap2]) (by simp [results, Tryz.results103, go_sem, k4]) rfl ?_;refine ⟨_, S, rfl, HS.out, fun c => ?_, zsAt_mono (zsAt_set (zsAt_mono HZ.out HB.out.size) hlt4 _) (Nat.le_of_lt hlt4), ?_⟩
   ·rw [HH.out, HA.out.2.1, List.take_length, HM.out]
   ·exact (hb4.trans (HB2.out.mono (Nat.le_of_lt hlt4))).setCell (xL _) _
def RRel (S : List Rg) (w : World) (v i : Value) (wr : World) : Prop :=
 ∃ k : Nat, k ≤ S.length ∧ i = .int .i64 k ∧ OwnR wr w.heap.size v (S.take k) ∧ Below w.heap.size w wr
def RsB (S : List Rg) (w : World) (e : Ending) (w' : World) : Prop := ∃ v, e = .returned v ∧ OwnR w' w.heap.size v S ∧ Below w.heap.size w w'
theorem rsB_of {S S' : List Rg} {w w' : World} {v : Value} (he : S' = S) (ho : OwnR w' w.heap.size v S') (hb : Below w.heap.size w w') : RsB S w (.returned v) w' := by subst he;exact ⟨v, rfl, ho, hb⟩
theorem ranges_any (v : Value) (S : List Rg) (base : Nat) (w : World) (hS : Canon S) (hv : ZsAt base w v S) :
 Calls Tryz.prog 105 #[.agg #[v]] w (RsB S w) := by
 obtain ⟨a, cap, rfl⟩ := zsAt_len hv;have hl := canon_len hS;have HV := xH hv;have HS := xH hS;clear hv hS;go_enter Tryz.func105, Tryz.ntmps105;go_wp2_with fail
 go_loopw [3, 9] (fun v i wr => RRel S w v i wr) (fun _ i _ => S.length - (intOf i).toNat)
 case atStart => exact ⟨0, Nat.zero_le _, rfl, qm _ _, qg _ _⟩
 case round =>
  obtain ⟨k, hk, rfl, ho, hb⟩ := hrel;have HB := xH hb;have HO := xH ho;have HZ := xH (zsAt_below HV.out hb);clear ho hb;by_cases hlt : k < S.length
  ·rcases HZ.out with ⟨h0, _⟩ | ⟨_, b, cap', hv, hb0, hc1, hc2, hc⟩
   ·subst h0; simp at hlt
   cases hv;have hcell := hc k hlt;obtain ⟨x, y, hxy⟩ : ∃ x y, S[k] = (x, y) := ⟨_, _, rfl⟩;have hr := HS.out.2 _ (dI hlt);have HT := xH (take_snoc hlt);rw [hxy] at hcell hr HT;simp only [zc] at hcell;simp only at hr;obtain ⟨hx0, hxy1, hy1⟩ := hr;have HX := xH (fun w => first_in (b := y) w (cl_id hx0 (by omega)));have HY := xH (fun w => last_in (a := x) w (cl_id (by omega) hy1));have hkl : (S.take k).length ≤ 100000000 := by rw [List.length_take]; omega
   have HKL := xH hkl;clear hc hxy hkl;go_wp2_with fail
   refine (HX.out _).mono ?_;rintro e w' ⟨rfl, rfl⟩;go_wp2_with fail
   refine (HY.out _).mono ?_;rintro e w' ⟨rfl, rfl⟩;go_wp2_with (at_builtin; refine wpList_append_r rfl _ _ rfl w.heap.size _ (S.take k) rfl HO.out x y _ rfl rfl HKL.out HB.out.size ?_; intro va wa hoa hba; have HOa := xH hoa; have HBa := xH (hba _ _ HB.out (xL _)); clear hoa hba)
   go_roundw
   case rel => exact ⟨k + 1, by omega, by go_num, by rw [HT.out]; exact HOa.out, HBa.out⟩
   case measure => simp [intOf]; omega
  ·obtain rfl : k = S.length := by omega
   go_wp2_with fail
   go_ret
   exact rsB_of List.take_length HO.out HB.out
def IntB (n : Int) (w : World) (e : Ending) (w' : World) : Prop := e = .returned (.int .i64 n) ∧ Below w.heap.size w w'
theorem two_new (w : World) (v1 v2 : Value) (T1 T2 : TypeId) : ((w.alloc (.cells #[v1] T1)).alloc (.cells #[v2] T2)).cell? ⟨w.heap.size + 1, 0, none⟩ = some v2 ∧ ((w.alloc (.cells #[v1] T1)).alloc (.cells #[v2] T2)).frozen? ⟨w.heap.size + 1, 0, none⟩ = false ∧ w.heap.size + 1 < ((w.alloc (.cells #[v1] T1)).alloc (.cells #[v2] T2)).heap.size ∧ Below w.heap.size w ((w.alloc (.cells #[v1] T1)).alloc (.cells #[v2] T2)) := by have h := cell_new (w.alloc (.cells #[v1] T1)) v2 T2;rw [World.size_alloc] at h;exact ⟨h.1, h.2.1, h.2.2.1, qi (qg _ _) (qg _ _)⟩
def NtRel (S : List Rg) (m : Int) (w1 : World) (v f i : Value) (wr : World) : Prop :=
 ∃ (k : Nat) (fr : Int) (D : List Rg), k ≤ S.length ∧ i = .int .i64 k ∧ f = .int .i64 fr ∧ OwnZ wr w1.heap.size v D ∧ Below w1.heap.size w1 wr ∧ NInv S m k fr D
theorem not_any (v : Value) (S : List Rg) (base : Nat) (most : Int) (w : World) (hS : Canon S) (hv : ZsAt base w v S) (h1 : -9223372036854775808 ≤ most) (h2 : most ≤ 9223372036854775807) :
 Calls Tryz.prog 106 #[.agg #[v], .int .i64 most] w (SetB (fun c => 0 ≤ c ∧ c ≤ min most 1114111 ∧ ¬ Has S c) w) := by
 obtain ⟨a, cap, rfl⟩ := zsAt_len hv;have hl := canon_len hS;have HV := xH hv;have HS := xH hS;obtain ⟨m, hm⟩ : ∃ m, min most 1114111 = m := ⟨_, rfl⟩;have hm1 : m ≤ 1114111 := by omega
 have hm2 : -9223372036854775808 ≤ m := by omega
 clear hv hS;go_enter Tryz.func106, Tryz.ntmps106;go_wp2_with fail
 obtain ⟨c4, f4, hlt4, hb4⟩ := two_new w (.slice a S.length cap) (.slice none 0 0) 139 139;generalize (w.alloc _).alloc _ = w1 at *;have C4 := xH c4;have F4 := xH f4;have HM := xH hm;have HB4 := xH hb4;clear c4 f4 hm hb4
 go_loopw [5, 6, 14] (fun v f i wr => NtRel S m w1 v f i wr) (fun _ _ i _ => S.length - (intOf i).toNat)
 case atStart => exact ⟨0, 0, [], Nat.zero_le _, rfl, rfl, ownZ_nil _ _, Below.refl _ _, ninv_start HS.out _⟩
 case round =>
  obtain ⟨k, fr, D, hk, rfl, rfl, ho, hb, hA⟩ := hrel;have HA := xH hA;have HB := xH hb;have HO := xH ho;have HZ := xH (zsAt_below HV.out (qi HB4.out hb));have hf0 := hA.2.2.2.2.2.1;have hf1 := hA.2.2.2.2.2.2.1;have hDl := hA.2.2.2.2.2.2.2;clear hA ho hb;by_cases hlt : k < S.length
  ·rcases HZ.out with ⟨h0, _⟩ | ⟨_, b, cap', hv, hb0, hc1, hc2, hc⟩
   ·subst h0; simp at hlt
   cases hv;have hcell := hc k hlt;have hr := HS.out.2 _ (dI hlt);have HA2 := xH (ninv_step HS.out hm1 hlt HA.out);obtain ⟨x, y, hxy⟩ : ∃ x y, S[k] = (x, y) := ⟨_, _, rfl⟩;rw [hxy] at hcell hr HA2;simp only [zc] at hcell;simp only at hr HA2;obtain ⟨hx0, hxy1, hy1⟩ := hr;have HX := xH (fun w => first_in (b := y) w (cl_id hx0 (by omega)));have HY := xH (fun w => last_in (a := x) w (cl_id (by omega) hy1));clear hc hxy;go_wp2_with fail
   refine (HX.out _).mono ?_;rintro e w' ⟨rfl, rfl⟩;go_wp2_with fail
   refine (add_any _ D fr (min (x - 1) m) w1.heap.size _ HO.out hf0 (by omega) (by omega) HB.out.size (by omega) (by omega)).mono ?_;rintro e w2 ⟨va, rfl, ho2, hb2⟩;have HO2 := xH ho2;have HB2 := xH (HB.out.trans hb2);clear ho2 hb2;go_wp2_with fail
   refine (HY.out _).mono ?_;rintro e w' ⟨rfl, rfl⟩;go_wp2_with fail
   go_roundw
   case rel => exact ⟨k + 1, y + 1, _, by omega, by go_num, rfl, HO2.out, HB2.out, HA2.out⟩
   case measure => simp [intOf]; omega
  ·obtain rfl : k = S.length := by omega
   have HE := xH (ninv_end hm1 HA.out);go_wp2_with fail
   refine (add_any _ D fr m w1.heap.size _ HO.out hf0 (by omega) (by omega) HB.out.size (by omega) (by omega)).mono ?_;rintro e w2 ⟨va, rfl, ho2, hb2⟩;obtain ⟨k4, g4⟩ := keeps (HB.out.trans hb2) hlt4 C4.out F4.out;have HZ2 := xH (zsAt_own ho2);have HB2 := xH (HB.out.trans hb2);obtain ⟨a2, cap2, rfl⟩ := ownZ_len ho2;clear ho2 hb2;go_wp2_with fail
   refine xB (v := .agg #[.slice a2 (addP D fr m).length cap2]) (by simp [results, Tryz.results106, go_sem, k4]) rfl ?_;refine ⟨_, addP D fr m, rfl, HE.out.1, fun c => ?_, zsAt_mono (zsAt_set HZ2.out hlt4 _) (by omega), ?_⟩
   ·rw [HE.out.2, HM.out]
   ·exact (HB4.out.trans (HB2.out.mono (by omega))).setCell (Nat.le_succ _) _
end setw
end
section
namespace prw
open sq
open Go Go.RowKit bulk ucdp ucdw setp prp
theorem zI {B : Nat} {w w' : World} (h : Below B w w') (n : Nat) : Below B w (w'.drewN n) := ⟨h.os, h.tape, h.output, h.size, h.block⟩
theorem beqS (a b : ByteArray) : (a.toList == b.toList) = decide (a = b) := by
 rw [Lib.toList_data, Lib.toList_data];by_cases h : a = b
 ·subst h; simp
 ·rw [decide_eq_false h, beq_eq_false_iff_ne];intro e;exact h (by
   obtain ⟨x⟩ := a;obtain ⟨y⟩ := b
   congr 1
   exact Array.toList_inj.1 e)
theorem eqS (a b : ByteArray) : a.toList = b.toList ↔ a = b := by rw [← beq_iff_eq, beqS, decide_eq_true_iff]
end prw
end
section
namespace setw
open sq
open Go Go.RowKit bulk ucdp ucdw
def Up (l : List Int) : Prop := l.Pairwise (· < ·)
def PutP (l : List Int) (n : Int) (l' : List Int) : Prop := Up l' ∧ (∀ x, x ∈ l' ↔ x ∈ l ∨ x = n) ∧ l'.length ≤ l.length + 1
theorem putP_same {l : List Int} {n : Int} (hU : Up l) {k : Nat} (hk : k < l.length) (he : l[k] = n) : PutP l n l :=
 ⟨hU, fun x => ⟨Or.inl, fun h => h.elim id (fun e => by subst e; rw [← he]; exact dI hk)⟩, by omega⟩
theorem putP_new {l : List Int} {n : Int} (hU : Up l) {k : Nat} (hk : k < l.length) (hlo : ∀ x ∈ l.take k, x < n) (hgt : n < l[k]) : PutP l n (([] ++ l.take k ++ [n]) ++ l.drop k) := by
 have hd : ∀ x ∈ l.drop k, n < x := by
  have h1 := hU.sublist (List.drop_sublist k l);rw [List.drop_eq_getElem_cons hk] at h1 ⊢;intro x hx;rcases List.mem_cons.1 hx with rfl | hx
  ·exact hgt
  ·have := (List.pairwise_cons.1 h1).1 x hx;omega
 refine ⟨?_, fun x => ?_, by simp; omega⟩
 ·refine List.pairwise_append.2 ⟨List.pairwise_append.2 ⟨by simpa using hU.sublist (List.take_sublist k l), List.pairwise_singleton _ _, ?_⟩, hU.sublist (List.drop_sublist k l), ?_⟩
  ·intro a ha b hb;obtain rfl := List.mem_singleton.1 hb;exact hlo a (by simpa using ha)
  ·intro a ha b hb;have h2 := hd b hb;rcases List.mem_append.1 ha with ha | ha
   ·have := hlo a (by simpa using ha);omega
   ·obtain rfl := List.mem_singleton.1 ha;exact h2
 ·have e : x ∈ l ↔ x ∈ l.take k ∨ x ∈ l.drop k := by rw [← List.mem_append, List.take_append_drop]
  rw [e];simp only [List.mem_append, List.nil_append, List.mem_singleton];constructor
  ·rintro ((h | h) | h)
   ·exact Or.inl (Or.inl h)
   ·exact Or.inr h
   ·exact Or.inl (Or.inr h)
  ·rintro ((h | h) | h)
   ·exact Or.inl (Or.inl h)
   ·exact Or.inr h
   ·exact Or.inl (Or.inr h)
theorem wpList_append_is {ops : Array Oper} {rest : List Oper} {o : Oper} {a : Act} {w : World} {Q : Exit → Act → World → Prop} (hgd : o.guard = none) (s x : Operand)
 (ho : o.op = .call { callee := .builtin .append, args := #[s, x], argTypes := #[35, 35] }) (base : Nat) (v : Value) (D : List Int) (hs : a.eval s = v) (hown : OwnI w base v D)
 (S : List Int) (g off m cap : Nat) (hx : a.eval x = .slice (some ⟨g, off, none⟩) m cap) (hS : S.length = m) (hc : ∀ i, i < m → w.cell? ⟨g, off + i, none⟩ = some (.int .i64 (S.getD i 0))) (hlen : D.length + S.length ≤ 100000000) (hbase : base ≤ w.heap.size)
 (h : ∀ v' w', OwnI w' base v' (D ++ S) → (∀ B w1, Below B w1 w → B ≤ base → Below B w1 w') → wpList Tryz.prog ops Q rest (a.put o.dst v') w') :
 wpList Tryz.prog ops Q (o :: rest) a w := by
 subst hS;obtain ⟨i0, hi, hz0, hz1, hz2⟩ := info_parts infoInt;refine wpList_append_own w hgd s x _ ho base 3 i0 (.int .i64 0) 1 8 Tryz.underlying35 hi hz0 hz1 hz2 rfl (by decide) v _ _ hs hown ⟨g, off, none⟩ S.length cap (ic S) hx (by simp [ic]) ?_ ?_ (by unfold maxLen; omega) (by omega) hbase ?_
 ·intro j u hj;have hjm : j < S.length := by
   rcases Nat.lt_or_ge j S.length with h | h
   ·exact h
   ·rw [List.getElem?_eq_none (by simpa [ic] using h)] at hj; cases hj
  have hplain : (⟨g, off, none⟩ : Addr).add j = ⟨g, off + j, none⟩ := by unfold Addr.add; split <;> simp_all
  rw [hplain, hc j hjm];simp [ic, hjm] at hj;rw [← hj];simp [List.getD, hjm]
 ·intro u hu;simp only [ic, List.mem_map] at hu;obtain ⟨y, _, rfl⟩ := hu;rfl
 ·intro v' w' hown' hgr _;refine h v' w' ?_ (fun B w0 hb hB => hb.grown hgr (by omega) (fun k hk => ?_))
  ·have e : ic (D ++ S) = ic D ++ ic S := by simp [ic]
   unfold OwnI;rw [e];simpa using hown'
  ·have := (World.ownsRow.lt hown) k hk;omega
theorem wpList_append_i' {ops : Array Oper} {rest : List Oper} {o : Oper} {a : Act} {w : World} {Q : Exit → Act → World → Prop} (hgd : o.guard = none) (s x : Operand)
 (ho : o.op = .call { callee := .builtin .append, args := #[s, x], argTypes := #[35, 35] }) (base : Nat) (v : Value) (D : List Int) (hs : a.eval s = v) (hown : OwnI w base v D)
 (q : Int) (B : Nat) (hx : a.eval x = .slice (some ⟨B, 0, none⟩) 1 1) (hB : B = w.heap.size) (hlen : D.length ≤ 10000000) (hbase : base ≤ w.heap.size)
 (h : ∀ v' w', OwnI w' base v' (D ++ [q]) → (∀ B w1, Below B w1 w → B ≤ base → Below B w1 w') → wpList Tryz.prog ops Q rest (a.put o.dst v') w') :
 wpList Tryz.prog ops Q (o :: rest) a (w.alloc (.cells #[.int .i64 q] 3)) := by
 subst hB;refine wpList_append_is hgd s x ho base v D hs (World.ownsRow.alloc hown _) [q] w.heap.size 0 1 1 hx rfl (fun i hi => ?_) (by simp; omega) (by rw [World.size_alloc]; omega) (fun v' w' h1 h2 => h v' w' h1 (fun B w1 hb hB => h2 B w1 (hb.alloc (by have := hb.size; omega) _) hB));have h0 : i = 0 := by omega
 subst h0;rw [World.cell?_alloc_new];rfl
def PutB (base : Nat) (l : List Int) (n : Int) (w : World) (e : Ending) (w' : World) : Prop := ∃ v' l', e = .returned v' ∧ IntsAt base w' v' l' ∧ PutP l n l' ∧ Below w.heap.size w w'
def PRel (l : List Int) (n : Int) (w : World) (i : Value) (wr : World) : Prop := ∃ k : Nat, k ≤ l.length ∧ i = .int .i64 k ∧ (∀ x ∈ l.take k, x < n) ∧ wr = w
theorem getD_drop {l : List Int} {k i : Nat} : (l.drop k).getD i 0 = l.getD (k + i) 0 := by simp [List.getD]
theorem getD_take {l : List Int} {k i : Nat} (h : i < k) : (l.take k).getD i 0 = l.getD i 0 := by simp [List.getD, List.getElem?_take_of_lt h]
theorem put_any (v : Value) (l : List Int) (n : Int) (base : Nat) (w : World) (hv : IntsAt base w v l) (hU : Up l) (hl : l.length ≤ 10000000) (hn : ∃ x ∈ l, n ≤ x) (hbase : base ≤ w.heap.size) :
 Calls Tryz.prog 99 #[v, .int .i64 n] w (PutB base l n w) := by
 have HV := xH hv;have HU := xH hU;have HN := xH hn;rcases hv with ⟨rfl, _⟩ | ⟨hne, b, cap, rfl, hb1, hb2, hc1, hc2, hc⟩
 ·obtain ⟨x, hx, _⟩ := hn;cases hx
 have HC := xH hc;clear hn hU hc hne;go_enter Tryz.func99, Tryz.ntmps99;go_wp2_with fail
 go_loopw [5] (fun i wr => PRel l n w i wr) (fun i _ => l.length - (intOf i).toNat)
 case atStart => exact ⟨0, Nat.zero_le _, rfl, by simp, rfl⟩
 case round =>
  obtain ⟨k, hk, rfl, hlo, rfl⟩ := hrel;have HL := xH hlo;have hlt : k < l.length := by
   rcases Nat.lt_or_ge k l.length with h | h
   ·exact h
   ·obtain ⟨x, hx, h2⟩ := HN.out;have := hlo x (by rw [List.take_of_length_le h]; exact hx);omega
  have hcell := HC.out k hlt;have hg : l.getD k 0 = l[k] := by simp [List.getD, hlt]
  rw [hg] at hcell;clear hlo hg;have HT := xH (show l.take (k + 1) = l.take k ++ [l[k]] by rw [List.take_succ_eq_append_getElem hlt]);have HS := xH (fun h => putP_same HU.out hlt (n := n) h);have HW := xH (fun h => putP_new HU.out hlt (n := n) HL.out h);generalize l[k] = y at *;by_cases hy : y < n
  ·go_wp2_with fail
   go_roundw
   case rel => exact ⟨k + 1, by omega, by go_num, by
    rw [HT.out];intro x hx;rcases List.mem_append.1 hx with h | h
    ·exact HL.out x h
    ·obtain rfl := List.mem_singleton.1 h;exact hy, rfl⟩
   case measure => simp [intOf]; omega
  ·by_cases he : y = n
   ·have HS2 := xH (HS.out he);subst he;go_wp2_with fail
    go_ret
    exact ⟨_, l, rfl, HV.out, HS2.out, Below.refl _ _⟩
   ·have HW2 := xH (HW.out (by omega));have HL1 := xH (show (l.take k).length = k by rw [List.length_take]; omega);have HL2 := xH (show (l.drop k).length = l.length - k by rw [List.length_drop]);have e0 : ([] : List Int).length = 0 := rfl;clear HS HW HT HL HN HU;go_wp2_with (first
     | (at_builtin; refine wpList_append_is rfl _ _ rfl wr.heap.size (.slice none 0 0) [] rfl (ownI_nil _ _) (l.take k) b 0 k _ rfl HL1.out (fun i hi => by rw [getD_take hi]; simpa using HC.out i (by omega)) (by rw [HL1.out, e0]; omega) (xL _) ?_; intro va wa hoa hba; have HOa := xH hoa; have HBa := xH (hba _ _ (Below.refl _ _) (xL _)); clear hoa hba)
     | (at_builtin; refine wpList_append_i' rfl _ _ rfl wr.heap.size va ([] ++ l.take k) rfl HOa.out n _ rfl rfl (by rw [List.nil_append, HL1.out]; omega) HBa.out.size ?_; intro vb wb hob hbb; have HOb := xH hob; have HBb := xH (hbb _ _ HBa.out (xL _)); clear hob hbb)
     | (at_builtin; refine wpList_append_is rfl _ _ rfl wr.heap.size vb ([] ++ l.take k ++ [n]) rfl HOb.out (l.drop k) b k (l.length - k) _ rfl HL2.out (fun i hi => by rw [getD_drop]; exact qf HBb.out (HC.out (k + i) (by omega))) (by rw [List.nil_append, List.length_append, HL1.out, HL2.out, List.length_singleton]; omega) HBb.out.size ?_; intro vc wc hoc hbc; have HOc := xH hoc; have HBc := xH (hbc _ _ HBb.out (xL _)); clear hoc hbc))
    go_ret
    exact ⟨_, _, rfl, intsAt_mono hbase (intsAt_own HOc.out (by simp)), HW2.out, HBc.out⟩
end setw
end
section
namespace setw
open sq
open Go Go.RowKit bulk ucdp ucdw setp
def EP (q : Int → Prop) (n : Nat) (E : List Int) : Prop := Up E ∧ (∀ z, z ∈ E ↔ q z) ∧ E.length ≤ n
theorem jY {q q' : Int → Prop} {n n' : Nat} {E : List Int} (h : EP q n E) (hq : ∀ z, q z ↔ q' z) (hn : n ≤ n') : EP q' n' E := ⟨h.1, fun z => (h.2.1 z).trans (hq z), Nat.le_trans h.2.2 hn⟩
theorem ep_put {q : Int → Prop} {n : Nat} {E E' : List Int} {a : Int} (h : EP q n E) (hp : PutP E a E') : EP (fun z => q z ∨ z = a) (n + 1) E' :=
 ⟨hp.1, fun z => by rw [hp.2.1, h.2.1], by have := hp.2.2; have := h.2.2; omega⟩
def EQ (l : List Rg) (m z : Int) : Prop := z = 0 ∨ z = m + 1 ∨ ∃ r ∈ l, (0 < r.1 ∧ r.1 ≤ m ∧ z = r.1) ∨ (0 ≤ r.2 ∧ r.2 < m ∧ z = r.2 + 1)
theorem eq_take {l : List Rg} {k : Nat} (hk : k < l.length) {x y : Int} (h : l[k] = (x, y)) (m z : Int) : EQ (l.take (k + 1)) m z ↔ EQ (l.take k) m z ∨ (0 < x ∧ x ≤ m ∧ z = x) ∨ (0 ≤ y ∧ y < m ∧ z = y + 1) := by
 unfold EQ;rw [take_snoc hk, h];constructor
 ·rintro (a | a | ⟨r, hr, a⟩)
  ·exact Or.inl (Or.inl a)
  ·exact Or.inl (Or.inr (Or.inl a))
  ·rcases List.mem_append.1 hr with hr | hr
   ·exact Or.inl (Or.inr (Or.inr ⟨r, hr, a⟩))
   ·obtain rfl := List.mem_singleton.1 hr;exact Or.inr a
 ·rintro ((a | a | ⟨r, hr, a⟩) | a)
  ·exact Or.inl a
  ·exact Or.inr (Or.inl a)
  ·exact Or.inr (Or.inr ⟨r, List.mem_append_left _ hr, a⟩)
  ·exact Or.inr (Or.inr ⟨(x, y), List.mem_append_right _ (List.mem_singleton.2 rfl), a⟩)
theorem ep_start (m : Int) (hm : 0 ≤ m) (l : List Rg) : EP (EQ (l.take 0) m) (2 * 0 + 2) [0, m + 1] := by
 refine ⟨List.pairwise_cons.2 ⟨fun x hx => ?_, List.pairwise_singleton _ _⟩, fun z => ?_, by simp⟩
 ·obtain rfl := List.mem_singleton.1 hx;omega
 ·simp [EQ]
def EdgB (l : List Rg) (m : Int) (w : World) (e : Ending) (w' : World) : Prop := ∃ v E, e = .returned v ∧ IntsAt w.heap.size w' v E ∧ EP (EQ l m) (2 * l.length + 2) E ∧ Below w.heap.size w w'
def ERel (l : List Rg) (m : Int) (w : World) (v i : Value) (wr : World) : Prop :=
 ∃ (k : Nat) (E : List Int), k ≤ l.length ∧ i = .int .i64 k ∧ IntsAt w.heap.size wr v E ∧ EP (EQ (l.take k) m) (2 * k + 2) E ∧ Below w.heap.size w wr
theorem ints_two_new (w : World) (x y : Int) (T : TypeId) : IntsAt w.heap.size (w.alloc (.cells #[.int .i64 x, .int .i64 y] T)) (.slice (some ⟨w.heap.size, 0, none⟩) 2 2) [x, y] := by
 refine Or.inr ⟨by simp, _, 2, rfl, xL _, by simp, by simp, by omega, fun i hi => ?_⟩;rw [World.cell?_alloc_new]
 match i, hi with
 | 0, _ => rfl
 | 1, _ => rfl
theorem intsAt_len {b : Nat} {w : World} {v : Value} {l : List Int} (h : IntsAt b w v l) : ∃ a cap, v = .slice a l.length cap := by
 rcases h with ⟨rfl, rfl⟩ | ⟨_, b, cap, rfl, _⟩
 ·exact ⟨_, _, rfl⟩
 ·exact ⟨_, _, rfl⟩
theorem put_edge {l : List Rg} {k n : Nat} {m a : Int} {w wr : World} {v : Value} {E : List Int} {q : Int → Prop} (hv : IntsAt w.heap.size wr v E) (hE : EP q n E) (hm : q (m + 1)) (ha : a ≤ m) (hb : Below w.heap.size w wr) (hk : k < l.length) (hl : l.length ≤ 1000000) (hn : n ≤ 2 * k + 3) :
 Calls Tryz.prog 99 #[v, .int .i64 a] wr fun e w' => ∃ v' E', e = .returned v' ∧ IntsAt w.heap.size w' v' E' ∧ EP (fun z => q z ∨ z = a) (n + 1) E' ∧ Below w.heap.size w w' := by
 refine (put_any v E a w.heap.size wr hv hE.1 (by have := hE.2.2; omega) ⟨m + 1, (hE.2.1 _).2 hm, by omega⟩ hb.size).mono ?_;rintro e w' ⟨v', E', rfl, h1, h2, h3⟩;exact ⟨v', E', rfl, h1, ep_put hE h2, hb.trans (h3.mono hb.size)⟩
theorem edges_le (v : Value) (l : List Rg) (most : Int) (w : World) (hv : RsAt w v l) (hl : l.length ≤ 1000000) (h0 : 0 ≤ most) (h1 : most ≤ 1114111) : Calls Tryz.prog 86 #[v, .int .i64 most] w (EdgB l (most) w) := by
 have HV := xH hv;obtain ⟨a, cap, rfl⟩ := jg hv;have HL := xH hl;have hm1 : IntKind.i64.wrap (most + 1) = most + 1 := IntWalk.i64_in _ (by omega);clear hv hl;go_enter Tryz.func86, Tryz.ntmps86;go_wp2_with fail
 go_loopw [5, 6] (fun v i wr => ERel l (most) w v i wr) (fun _ i _ => l.length - (intOf i).toNat)
 case atStart => exact ⟨0, _, Nat.zero_le _, rfl, ints_two_new _ _ _ _, ep_start (most) (by omega) l, qg _ _⟩
 case round =>
  obtain ⟨k, E, hk, rfl, ho, hE, hb⟩ := hrel;have HE := xH hE;have HO := xH ho;have HB := xH hb;clear hE ho hb;by_cases hlt : k < l.length
  ·obtain ⟨hwf, ⟨h0, _⟩ | ⟨_, b, off, cap', hv, hc1, hc2, hc⟩⟩ := HV.out
   ·subst h0; simp at hlt
   cases hv;obtain ⟨hcx0, hcy0⟩ := hc k hlt;obtain ⟨x, y, hxy⟩ : ∃ x y, l[k] = (x, y) := ⟨_, _, rfl⟩;have HQ := xH (eq_take hlt hxy (most));rw [hxy] at hcx0 hcy0;simp only at hcx0 hcy0;have hcx := qf HB.out hcx0;have hcy := qf HB.out hcy0;have HX0 := xH hcx0;have HY0 := xH hcy0;have HM := xH (show EQ (l.take k) (most) (most + 1) from Or.inr (Or.inl rfl));clear hc hxy hwf hcx0 hcy0;by_cases hx1 : 0 < x
   ·by_cases hx2 : x ≤ most
    ·have HC1 := xH (put_edge (k := k) (a := x) HO.out HE.out HM.out hx2 HB.out hlt HL.out (by omega));go_wp2_with fail
     refine HC1.out.mono ?_;rintro e w1 ⟨v1, E1, rfl, ho1, hE1, hb1⟩;have hcy1 := qf hb1 HY0.out;have HO1 := xH ho1;have HE1 := xH hE1;have HB1 := xH hb1;clear ho1 hE1 hb1 hcx hcy;by_cases hy1 : 0 ≤ y
     ·by_cases hy2 : y < most
      ·have hyw : IntKind.i64.wrap (y + 1) = y + 1 := IntWalk.i64_in _ (by omega);have HC2 := xH (fun a (ha : a ≤ most) => put_edge (k := k) (a := a) HO1.out HE1.out (Or.inl HM.out) ha HB1.out hlt HL.out (by omega));exact z148
      ·have hy2b : decide (y < most) = false := decide_eq_false hy2;exact z56
     ·have hy1b : decide (0 ≤ y) = false := decide_eq_false hy1;exact z56
    ·have hx2b : decide (x ≤ most) = false := decide_eq_false hx2;exact z14
   ·have hx1b : decide (0 < x) = false := decide_eq_false hx1;exact z14
  ·obtain rfl : k = l.length := by omega
   exact z109
theorem edges_gt (v : Value) (l : List Rg) (most : Int) (w : World) (hv : RsAt w v l) (hl : l.length ≤ 1000000) (h1 : 1114111 < most) : Calls Tryz.prog 86 #[v, .int .i64 most] w (EdgB l (1114111) w) := by
 have HV := xH hv;obtain ⟨a, cap, rfl⟩ := jg hv;have HL := xH hl;have hm1 : IntKind.i64.wrap (1114111 + 1) = 1114111 + 1 := IntWalk.i64_in _ (by omega);clear hv hl;go_enter Tryz.func86, Tryz.ntmps86;go_wp2_with fail
 go_loopw [5, 6] (fun v i wr => ERel l (1114111) w v i wr) (fun _ i _ => l.length - (intOf i).toNat)
 case atStart => exact ⟨0, _, Nat.zero_le _, rfl, ints_two_new _ _ _ _, ep_start (1114111) (by omega) l, qg _ _⟩
 case round =>
  obtain ⟨k, E, hk, rfl, ho, hE, hb⟩ := hrel;have HE := xH hE;have HO := xH ho;have HB := xH hb;clear hE ho hb;by_cases hlt : k < l.length
  ·obtain ⟨hwf, ⟨h0, _⟩ | ⟨_, b, off, cap', hv, hc1, hc2, hc⟩⟩ := HV.out
   ·subst h0; simp at hlt
   cases hv;obtain ⟨hcx0, hcy0⟩ := hc k hlt;obtain ⟨x, y, hxy⟩ : ∃ x y, l[k] = (x, y) := ⟨_, _, rfl⟩;have HQ := xH (eq_take hlt hxy (1114111));rw [hxy] at hcx0 hcy0;simp only at hcx0 hcy0;have hcx := qf HB.out hcx0;have hcy := qf HB.out hcy0;have HX0 := xH hcx0;have HY0 := xH hcy0;have HM := xH (show EQ (l.take k) (1114111) (1114111 + 1) from Or.inr (Or.inl rfl));clear hc hxy hwf hcx0 hcy0;by_cases hx1 : 0 < x
   ·by_cases hx2 : x ≤ 1114111
    ·have HC1 := xH (put_edge (k := k) (a := x) HO.out HE.out HM.out hx2 HB.out hlt HL.out (by omega));go_wp2_with fail
     refine HC1.out.mono ?_;rintro e w1 ⟨v1, E1, rfl, ho1, hE1, hb1⟩;have hcy1 := qf hb1 HY0.out;have HO1 := xH ho1;have HE1 := xH hE1;have HB1 := xH hb1;clear ho1 hE1 hb1 hcx hcy;by_cases hy1 : 0 ≤ y
     ·by_cases hy2 : y < 1114111
      ·have hyw : IntKind.i64.wrap (y + 1) = y + 1 := IntWalk.i64_in _ (by omega);have HC2 := xH (fun a (ha : a ≤ 1114111) => put_edge (k := k) (a := a) HO1.out HE1.out (Or.inl HM.out) ha HB1.out hlt HL.out (by omega));exact z147
      ·have hy2b : decide (y < 1114111) = false := decide_eq_false hy2;exact z55
     ·have hy1b : decide (0 ≤ y) = false := decide_eq_false hy1;exact z55
    ·have hx2b : decide (x ≤ 1114111) = false := decide_eq_false hx2;exact z13
   ·have hx1b : decide (0 < x) = false := decide_eq_false hx1;exact z13
  ·obtain rfl : k = l.length := by omega
   exact z109
theorem edges_none (v : Value) (l : List Rg) (most : Int) (w : World) (hv : RsAt w v l) (h0 : most < 0) (h1 : -9223372036854775808 ≤ most) : Calls Tryz.prog 86 #[v, .int .i64 most] w fun e w' => e = .returned (.slice none 0 0) ∧ w' = w := by
 obtain ⟨a, cap, rfl⟩ := jg hv;clear hv;have h2 : ¬ (1114111 < most) := by omega
 go_enter Tryz.func86, Tryz.ntmps86;go_wp2_with fail
 go_ret
 exact ⟨rfl, rfl⟩
end setw
end
end Go.Proofs.YtikjhfmmfpeaoaaGreatDoor
