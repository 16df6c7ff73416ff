/- Texts that TokensQuoteLaw leans on, merged: what the functions of the program answer. -/
import Derived.BigQuiet
import Derived.Deep.QuietTactic
import Derived.Deep.RegionHeld3
import Derived.Laws.RangeAny
import Derived.Lib.BytesEntry
import Derived.Lib.ConvBytes
import Derived.Maps.OwnSet
import Derived.OwnWalk
import Derived.Shelf.Abstract
import Derived.WalkLawsBesides
import Derived.WalkSpells
import Derived.Test.YtkcmjcgjfjfimaaGreatDoorBQu02
section
namespace Go.Proofs.YtkcmjcgjfjfimaaGreatDoor.tkw
open Go Go.RowKit Go.Maps utfp utfw ucdp setp setw prp tkp
abbrev ob00 : Obj := .cells #[.int .i64 0, .int .i64 0, .int .i64 0, .int .i64 0, .slice none 0 0, .bool false, .int .i64 0, .int .i64 0, .int .i64 0, .string ⟨#[]⟩, .int .i64 0, .int .i64 0] 30
abbrev ob01 : Obj := .cells #[.int .i64 10, .int .i64 0, .int .i64 0, .int .i64 0, .slice none 0 0, .bool false, .int .i64 0, .int .i64 0, .int .i64 0, .string ⟨#[]⟩, .int .i64 0, .int .i64 0] 30
structure Kept (B L : Nat) (w w' : World) : Prop where
 os : w'.os = w.os
 tape : w'.tape = w.tape
 output : w'.output = w.output
 size : w.heap.size ≤ w'.heap.size
 block : ∀ k, k < B → k ≠ L → w'.heap[k]? = w.heap[k]?
theorem Kept.refl (B L : Nat) (w : World) : Kept B L w w := ⟨rfl, rfl, rfl, Nat.le_refl _, fun _ _ _ => rfl⟩
theorem Kept.trans {B L : Nat} {a b c : World} (h : Kept B L a b) (k : Kept B L b c) : Kept B L a c :=
 ⟨k.os.trans h.os, k.tape.trans h.tape, k.output.trans h.output, Nat.le_trans h.size k.size, fun i hi hL => (k.block i hi hL).trans (h.block i hi hL)⟩
theorem Kept.mono {B B' L : Nat} {w w' : World} (h : Kept B L w w') (hB : B' ≤ B) : Kept B' L w w' := ⟨h.os, h.tape, h.output, h.size, fun k hk => h.block k (Nat.lt_of_lt_of_le hk hB)⟩
theorem Kept.then {L : Nat} {a b c : World} (h : Kept a.heap.size L a b) (k : Kept b.heap.size L b c) : Kept a.heap.size L a c := h.trans (k.mono h.size)
theorem Kept.of_below {B L : Nat} {w w' : World} (h : Below B w w') : Kept B L w w' := ⟨h.os, h.tape, h.output, h.size, fun k hk _ => h.block k hk⟩
theorem Kept.below {B L : Nat} {w w' : World} (h : Kept B L w w') (hB : L < B) : Below L w w' := ⟨h.os, h.tape, h.output, h.size, fun k hk => h.block k (Nat.lt_trans hk hB) (Nat.ne_of_lt hk)⟩
theorem Kept.grown {L : Nat} {w w' : World} (h : Kept w.heap.size L w w') : w.grownBy w' (some L) := ⟨h.os, h.tape, h.output, h.size, fun k hk hne => h.block k hk (fun e => hne (by rw [e]))⟩
theorem Kept.cell {B L : Nat} {w w' : World} (h : Kept B L w w') {a : Addr} (hB : a.block < B) (hL : a.block ≠ L) : w'.cell? a = w.cell? a := World.cell?_of_block (h.block a.block hB hL)
theorem Kept.frozen {B L : Nat} {w w' : World} (h : Kept B L w w') {a : Addr} (hB : a.block < B) (hL : a.block ≠ L) : w'.frozen? a = w.frozen? a := World.frozen?_of_block (h.block a.block hB hL)
theorem Kept.setCell {B L : Nat} {a w : World} (h : Kept B L a w) (o : Nat) (v : Value) : Kept B L a (w.setCell ⟨L, o, none⟩ v) :=
 h.trans ⟨rfl, rfl, rfl, by simp [World.setCell], fun k _ hL => Below.heap_setCell w ⟨L, o, none⟩ v k hL⟩
theorem Kept.alloc {B L : Nat} {a w : World} (h : Kept B L a w) (hB : B ≤ w.heap.size) (o : Obj) : Kept B L a (w.alloc o) :=
 h.trans (Kept.of_below ((Below.refl _ _).alloc hB o))
theorem Kept.drew {B L : Nat} {a w : World} (h : Kept B L a w) : Kept B L a w.drew := ⟨h.os, h.tape, h.output, h.size, h.block⟩
theorem Kept.drewN {B L : Nat} {a w : World} (h : Kept B L a w) (n : Nat) : Kept B L a (w.drewN n) := ⟨h.os, h.tape, h.output, h.size, h.block⟩
def RV (v : Value) : Option (DataW Value × List MemPlace) := some (.held v, [])
def LI : List (Int × Int) → DataW Value
 | [] => .map []
 | p :: l => (LI l).put (.int .i64 p.1) (.held (.int .i64 p.2))
def lookI : List (Int × Int) → Int → Int
 | [], _ => 0
 | (k, v) :: l, n => if n = k then v else lookI l n
def hasI (l : List (Int × Int)) (n : Int) : Bool := l.any fun p => decide (p.1 = n)
def MapI (w : World) (b n : Nat) (l : List (Int × Int)) : Prop := w.ownsMap Tryz.prog 3 RV b n (LI l)
theorem li_map : ∀ l, IsMap (LI l)
 | [] => isMap_empty
 | _ :: l => (li_map l).put _ _
theorem at_LI (n : Int) : ∀ l, (LI l).atKey (.int .i64 n) (.held (.int .i64 0)) = .held (.int .i64 (lookI l n))
 | [] => rfl
 | p :: l => by
   obtain ⟨k, v⟩ := p
   unfold LI lookI
   by_cases h : n = k
   · subst h
     rw [if_pos rfl]
     exact atKey_put_same (li_map l) (show WideAt.IsKeyLit (.int _ _) from trivial) _ _
   · rw [if_neg h, atKey_put_other (fun e => h (by injection e with _ e)), at_LI n l]
theorem has_LI (n : Int) : ∀ l, Maps.has (LI l) (.int .i64 n) = hasI l n
 | [] => rfl
 | p :: l => by
   obtain ⟨k, v⟩ := p
   unfold LI hasI
   rw [List.any_cons]
   by_cases h : n = k
   · subst h
     rw [has_put_same (li_map l) (show WideAt.IsKeyLit (.int _ _) from trivial)]
     simp
   · rw [has_put_other (fun e => h (by injection e with _ e)), has_LI n l]
     simp [Ne.symm h, hasI]
theorem rv_inv {v x : Value} {ps : List MemPlace} (h : RV v = some (.held x, ps)) : v = x := by
 unfold RV at h
 simp only [Option.some.injEq, Prod.mk.injEq, DataW.held.injEq] at h
 exact h.1
def escL : List (Int × Int) := [(116, 9), (114, 13), (110, 10), (102, 12), (101, 27), (97, 7)]
def assL : List (Int × Int) := [(71, 8), (90, 7), (122, 6), (65, 5), (66, 4), (98, 3)]
def optL : List (Int × Int) := [(85, 16), (115, 4), (109, 2), (105, 1)]
def tkCells (v : Value) (t : Tk) : List Value := [.int .i64 t.kind, .int .i64 t.at_, .int .i64 t.to, .int .i64 t.c, v, .bool t.neg, .int .i64 t.n, .int .i64 t.m, .int .i64 t.mode, .string t.name, .int .i64 t.on, .int .i64 t.off]
def tkV (v : Value) (t : Tk) : Value := .agg #[.int .i64 t.kind, .int .i64 0, .int .i64 0, .int .i64 t.c, v, .bool t.neg, .int .i64 t.n, .int .i64 t.m, .int .i64 t.mode, .string t.name, .int .i64 t.on, .int .i64 t.off]
def TokRow (w : World) (base : Nat) (v : Value) (T : List Tk) : Prop :=
 ∃ l : List (Tk × Value), l.map (·.1) = T ∧ (∀ p ∈ l, OwnR w base p.2 p.1.set) ∧ w.ownsRow base 30 12 v l.length (l.flatMap fun p => tkCells p.2 p.1)
structure Rw where
 l : List Tk
 v : Value
def Rw.length (T : Rw) : Nat := T.l.length
structure Cf where
 w0 : World
 L : Nat
 base : Nat
 pv : Value
 p : Pt
 m1 : Nat
 m2 : Nat
 m3 : Nat
def GlobAt (w : World) (g : Nat) (cs : List Value) : Prop := ∀ i v, cs[i]? = some v → w.cell? ⟨g, i, none⟩ = some v
def tS (l : List UInt8) : Value := .string ⟨l.toArray⟩
def groupsC : List Value := groupsT.flatMap fun r => [tS r.1, .int .i64 r.2]
def namingsC : List Value := namingsT.flatMap fun r => [tS r.1, tS r.2.1, .int .i64 r.2.2.1, .int .i64 r.2.2.2.1, .int .i64 r.2.2.2.2]
def looksC : List Value := looksT.map tS
def verbsC : List Value := verbsT.flatMap fun r => [.string r.1, .int .i64 r.2.1, .int .i64 r.2.2]
structure CfOk (C : Cf) : Prop where
 sl : Sl C.w0 C.pv C.p.n C.p.g
 n : C.p.n ≤ 1000
 tabs : Tabs C.w0
 er : ∃ t x, C.w0.cell? ⟨8, 0, none⟩ = some (.iface t x)
 tabS : ∀ i, i < 94 → C.w0.cell? ⟨7, i, none⟩ = some (.int .i64 (st i))
 gr : GlobAt C.w0 3 groupsC
 na : GlobAt C.w0 4 namingsC
 lo : GlobAt C.w0 5 looksC
 ve : GlobAt C.w0 2 verbsC
 hL : C.w0.heap.size ≤ C.L
 lb : C.L < C.base
 b1 : C.m1 < C.base ∧ C.m1 ≠ C.L
 b2 : C.m2 < C.base ∧ C.m2 ≠ C.L
 b3 : C.m3 < C.base ∧ C.m3 ≠ C.L
def lxC (C : Cf) (a f : Nat) (tv : Value) : Array Value := #[C.pv, .int .i64 a, .int .i64 f, .int .i64 C.p.most, .bool C.p.u, .bool C.p.x, .map (some C.m1), .map (some C.m2), .map (some C.m3), tv]
structure LX (C : Cf) (w : World) (a f : Nat) (T : Rw) : Prop where
 ok : CfOk C
 old : Below C.w0.heap.size C.w0 w
 lx : w.heap[C.L]? = some (.cells (lxC C a f T.v) 56 (0, 0)) ∧ TokRow w C.base T.v T.l
 e1 : ∃ n, MapI w C.m1 n escL
 e2 : ∃ n, MapI w C.m2 n assL
 e3 : ∃ n, MapI w C.m3 n optL
 hb : C.base ≤ w.heap.size
 an : a ≤ C.p.n
 fn : f ≤ C.p.n
 tl : T.length ≤ a
theorem own_lt {w : World} {base : Nat} {e : TypeId} {size : Nat} {v : Value} {n : Nat} {xs : List Value} (h : w.ownsRow base e size v n xs) {L : Nat} (hL : L < base) : v.ownBlock = none ∨ v.ownBlock ≠ some L := by
 cases hv : v.ownBlock with
 | none => exact Or.inl rfl
 | some k =>
   refine Or.inr fun e => ?_
   have := (World.ownsRow.lt h k hv).1
   simp only [Option.some.injEq] at e
   omega
theorem ownR_kept {w w' : World} {base L : Nat} {v : Value} {D : List Rg} (h : OwnR w base v D) (hk : Kept w.heap.size L w w') (hL : L < base) : OwnR w' base v D := ⟨World.ownsRow.kept h.1 hk.grown (own_lt h.1 hL), h.2⟩
theorem tokRow_kept {w w' : World} {base L : Nat} {v : Value} {T : List Tk} (h : TokRow w base v T) (hk : Kept w.heap.size L w w') (hL : L < base) : TokRow w' base v T := by
 obtain ⟨l, h1, h2, h3⟩ := h
 exact ⟨l, h1, fun p hp => ownR_kept (h2 p hp) hk hL, World.ownsRow.kept h3 hk.grown (own_lt h3 hL)⟩
theorem mapI_kept {w w' : World} {b n L : Nat} {l : List (Int × Int)} (h : MapI w b n l) (hk : Kept w.heap.size L w w') (hb : b ≠ L) : MapI w' b n l := World.ownsMap.kept h hk.grown (by simpa using hb)
theorem LX.move {C : Cf} {w w' : World} {a f a' f' : Nat} {T : Rw} (h : LX C w a f T) (hk : Kept w.heap.size C.L w w') (ha : a' ≤ C.p.n) (hf : f' ≤ C.p.n) (hT : T.length ≤ a')
   (hx : w.heap[C.L]? = some (.cells (lxC C a f T.v) 56 (0, 0)) → w'.heap[C.L]? = some (.cells (lxC C a' f' T.v) 56 (0, 0))) : LX C w' a' f' T := by
 obtain ⟨h1, h2⟩ := h.lx
 obtain ⟨n1, i1⟩ := h.e1
 obtain ⟨n2, i2⟩ := h.e2
 obtain ⟨n3, i3⟩ := h.e3
 have hlt := h.ok.lb
 have hL := h.ok.hL
 have hB : C.L < w.heap.size := Nat.lt_of_lt_of_le hlt h.hb
 exact ⟨h.ok, h.old.trans ((hk.below hB).mono hL), ⟨hx h1, tokRow_kept h2 hk hlt⟩, ⟨n1, mapI_kept i1 hk h.ok.b1.2⟩, ⟨n2, mapI_kept i2 hk h.ok.b2.2⟩, ⟨n3, mapI_kept i3 hk h.ok.b3.2⟩, Nat.le_trans h.hb hk.size, ha, hf, hT⟩
theorem LX.below {C : Cf} {w w' : World} {a f : Nat} {T : Rw} (h : LX C w a f T) (hb : Below w.heap.size w w') : LX C w' a f T :=
 h.move (Kept.of_below hb) h.an h.fn h.tl fun e => by rw [hb.block C.L (Nat.lt_of_lt_of_le h.ok.lb h.hb)]; exact e
theorem heap_set {w : World} {L o : Nat} {C : Array Value} {T : TypeId} {fz : Nat × Nat} {v : Value} (h : w.heap[L]? = some (.cells C T fz)) : (w.setCell ⟨L, o, none⟩ v).heap[L]? = some (.cells (C.setIfInBounds o v) T fz) := by
 simp [World.setCell, Array.getElem?_modify, h]
theorem LX.at_ {C : Cf} {w : World} {a f b : Nat} {T : Rw} (h : LX C w a f T) (hb : b ≤ C.p.n) (hT : T.length ≤ b) : LX C (w.setCell ⟨C.L, 1, none⟩ (.int .i64 b)) b f T :=
 h.move ((Kept.refl _ _ _).setCell 1 _) hb h.fn hT fun e => by rw [heap_set e]; rfl
theorem LX.from {C : Cf} {w : World} {a f b : Nat} {T : Rw} (h : LX C w a f T) (hb : b ≤ C.p.n) : LX C (w.setCell ⟨C.L, 2, none⟩ (.int .i64 b)) a b T :=
 h.move ((Kept.refl _ _ _).setCell 2 _) h.an hb h.tl fun e => by rw [heap_set e]; rfl
structure LCells (C : Cf) (w : World) (a f : Nat) : Prop where
 c0 : w.cell? ⟨C.L, 0, none⟩ = some C.pv
 c1 : w.cell? ⟨C.L, 1, none⟩ = some (.int .i64 a)
 c2 : w.cell? ⟨C.L, 2, none⟩ = some (.int .i64 f)
 c3 : w.cell? ⟨C.L, 3, none⟩ = some (.int .i64 C.p.most)
 c4 : w.cell? ⟨C.L, 4, none⟩ = some (.bool C.p.u)
 c5 : w.cell? ⟨C.L, 5, none⟩ = some (.bool C.p.x)
 c6 : w.cell? ⟨C.L, 6, none⟩ = some (.map (some C.m1))
 c7 : w.cell? ⟨C.L, 7, none⟩ = some (.map (some C.m2))
 c8 : w.cell? ⟨C.L, 8, none⟩ = some (.map (some C.m3))
 fz : ∀ i, w.frozen? ⟨C.L, i, none⟩ = false
 lt : C.L < w.heap.size
theorem LX.cells {C : Cf} {w : World} {a f : Nat} {T : Rw} (h : LX C w a f T) : LCells C w a f := by
 obtain ⟨h1, h2⟩ := h.lx
 refine ⟨?_, ?_, ?_, ?_, ?_, ?_, ?_, ?_, ?_, fun i => ?_, Nat.lt_of_lt_of_le h.ok.lb h.hb⟩
 all_goals first | (simp [World.cell?, h1, lxC]; done) | (simp [World.frozen?, h1]; done)
theorem LX.sl {C : Cf} {w : World} {a f : Nat} {T : Rw} (h : LX C w a f T) : Sl w C.pv C.p.n C.p.g := below_sl h.old h.ok.sl
theorem LX.tabs {C : Cf} {w : World} {a f : Nat} {T : Rw} (h : LX C w a f T) : Tabs w := below_tabs h.old h.ok.tabs
theorem LX.glob {C : Cf} {w : World} {a f : Nat} {T : Rw} (h : LX C w a f T) {g : Nat} {cs : List Value} (hg : GlobAt C.w0 g cs) : GlobAt w g cs := fun i v hi => below_cell h.old (hg i v hi)
def Ret (C : Cf) (w : World) (v : Value) (b f : Nat) (T : Rw) (e : Ending) (w' : World) : Prop := e = .returned v ∧ LX C w' b f T ∧ Kept w.heap.size C.L w w'
def fltV (x : Int × Int) : Value := .iface 58 (.agg #[.int .i64 x.1, .int .i64 x.2])
def Pan (C : Cf) (w : World) (x : Int × Int) (e : Ending) (w' : World) : Prop := e = .panicked [{ v := fltV x, recovered := false }] ∧ Kept C.base C.L w w'
theorem ret_of {C : Cf} {w w' : World} {v v' : Value} {b b' f f' : Nat} {T : Rw} (hv : v' = v) (hb : b' = b) (hf : f' = f) (hx : LX C w' b' f' T) (hk : Kept w.heap.size C.L w w') : Ret C w v b f T (.returned v') w' := by
 subst hv hb hf
 exact ⟨rfl, hx, hk⟩
theorem pan_of {C : Cf} {w w' : World} {x : Int × Int} {c : List PanicEntry} (hc : c = [{ v := fltV x, recovered := false }]) (hk : Kept C.base C.L w w') : Pan C w x (.panicked c) w' := by
 subst hc
 exact ⟨rfl, hk⟩
end Go.Proofs.YtkcmjcgjfjfimaaGreatDoor.tkw
end
section
namespace Go.Proofs.YtkcmjcgjfjfimaaGreatDoor.tkw
open Go Go.RowKit Go.Maps utfp utfw ucdp setp setw prp tkp
theorem ulB : Tryz.prog.underlying 22 = some (.slice (Tryz.prog.elem 22)) := by kernel_rfl
theorem sizeB (w : World) : (sizeOf (Tryz.prog.elem 22)).run Tryz.prog w = .ok 1 w := by kernel_rfl
theorem from_sl {w : World} {v : Value} {n : Nat} {g : Nat → Int} (h : Sl w v n g) {a : Nat} (ha : a ≤ n) :
   ∃ v', (∀ w1, (Instr.slice 22 v (some (.int .i64 a)) none none).run Tryz.prog w1 = .ok v' w1) ∧ Sl w v' (n - a) (fun i => g (a + i)) := by
 obtain ⟨hg, hn, h3⟩ := h
 rcases h3 with ⟨rfl, a0, cap, rfl, hcap⟩ | ⟨b, off, cap, rfl, ⟨hnc, hcap⟩, hc⟩
 · have ha0 : a = 0 := by omega
   subst ha0
   refine ⟨.slice (if cap = 0 then a0 else a0.map (·.add (0 * 1))) 0 (cap - 0), fun w1 => ?_, fun i => hg _, hn, Or.inl ⟨rfl, _, _, rfl, by omega⟩⟩
   rw [run_slice_l w1 22 a0 0 cap ulB .i64 ((0 : Nat) : Int) (by omega) (by omega), sizeB]
   rfl
 · by_cases h0 : a = n
   · subst h0
     refine ⟨.slice (if cap = a then some ⟨b, off, none⟩ else (some (⟨b, off, none⟩ : Addr)).map (·.add (a * 1))) (a - a) (cap - a), fun w1 => ?_, fun i => hg _, by omega, Or.inl ⟨by omega, _, _, by rw [Nat.sub_self], by omega⟩⟩
     rw [run_slice_l w1 22 _ a cap ulB .i64 a (by omega) (by omega), sizeB]
     rfl
   · refine ⟨.slice (some ⟨b, off + a, none⟩) (n - a) (cap - a), fun w1 => ?_, fun i => hg _, by omega, Or.inr ⟨b, off + a, cap - a, rfl, by omega, fun i hi => ?_⟩⟩
     · rw [run_slice_l w1 22 _ n cap ulB .i64 a (by omega) (by omega), sizeB]
       have e : (⟨b, off, none⟩ : Addr).add a = ⟨b, off + a, none⟩ := by unfold Addr.add; split <;> simp_all
       simp [Result.andThen, sliced, e, show ¬ cap = a by omega]
     · rw [Nat.add_assoc]
       exact hc (a + i) (by omega)
theorem mid_sl {w : World} {v : Value} {n : Nat} {g : Nat → Int} (h : Sl w v n g) {a e : Nat} (ha : a ≤ e) (he : e ≤ n) :
   ∃ v', (∀ w1, (Instr.slice 22 v (some (.int .i64 a)) (some (.int .i64 e)) none).run Tryz.prog w1 = .ok v' w1) ∧ Sl w v' (e - a) (fun i => g (a + i)) := by
 obtain ⟨hg, hn, h3⟩ := h
 rcases h3 with ⟨rfl, a0, cap, rfl, hcap⟩ | ⟨b, off, cap, rfl, ⟨hnc, hcap⟩, hc⟩
 · have ha0 : a = 0 := by omega
   have he0 : e = 0 := by omega
   subst ha0 he0
   refine ⟨.slice (if cap = 0 then a0 else a0.map (·.add (0 * 1))) 0 (cap - 0), fun w1 => ?_, fun i => hg _, hn, Or.inl ⟨rfl, _, _, rfl, by omega⟩⟩
   rw [run_slice_lh w1 22 a0 0 cap ulB .i64 .i64 ((0 : Nat) : Int) ((0 : Nat) : Int) (by omega) (by omega) (by omega), sizeB]
   rfl
 · by_cases h0 : cap = a
   · subst h0
     refine ⟨.slice (some ⟨b, off, none⟩) (e - cap) (cap - cap), fun w1 => ?_, fun i => hg _, by omega, Or.inl ⟨by omega, some ⟨b, off, none⟩, cap - cap, by rw [show e - cap = 0 by omega], by omega⟩⟩
     rw [run_slice_lh w1 22 _ n cap ulB .i64 .i64 cap e (by omega) (by omega) (by omega), sizeB]
     simp [Result.andThen, sliced]
   · have hr : ∀ w1, (Instr.slice 22 (.slice (some ⟨b, off, none⟩) n cap) (some (.int .i64 a)) (some (.int .i64 e)) none).run Tryz.prog w1 = .ok (.slice (some ⟨b, off + a, none⟩) (e - a) (cap - a)) w1 := fun w1 => by
       rw [run_slice_lh w1 22 _ n cap ulB .i64 .i64 a e (by omega) (by omega) (by omega), sizeB]
       have e : (⟨b, off, none⟩ : Addr).add a = ⟨b, off + a, none⟩ := by unfold Addr.add; split <;> simp_all
       simp [Result.andThen, sliced, e, h0]
     refine ⟨_, hr, fun i => hg _, by omega, ?_⟩
     by_cases hz : e - a = 0
     · exact Or.inl ⟨hz, _, _, by rw [hz], by omega⟩
     · refine Or.inr ⟨b, off + a, cap - a, rfl, by omega, fun i hi => ?_⟩
       rw [Nat.add_assoc]
       exact hc (a + i) (by omega)
theorem to_sl {w : World} {v : Value} {n : Nat} {g : Nat → Int} (h : Sl w v n g) {k : Nat} (hk : k ≤ n) :
   ∃ v', (∀ w1, (Instr.slice 22 v none (some (.int .i64 k)) none).run Tryz.prog w1 = .ok v' w1) ∧ Sl w v' k g := by
 obtain ⟨hg, hn, h3⟩ := h
 rcases h3 with ⟨rfl, a0, cap, rfl, hcap⟩ | ⟨b, off, cap, rfl, ⟨hnc, hcap⟩, hc⟩
 · have ha0 : k = 0 := by omega
   subst ha0
   refine ⟨.slice (if cap = 0 then a0 else a0.map (·.add (0 * 1))) 0 (cap - 0), fun w1 => ?_, hg, hn, Or.inl ⟨rfl, _, _, rfl, by omega⟩⟩
   rw [run_slice_h w1 22 a0 0 cap ulB .i64 ((0 : Nat) : Int) (by omega) (by omega), sizeB]
   rfl
 · have hr : ∀ w1, (Instr.slice 22 (.slice (some ⟨b, off, none⟩) n cap) none (some (.int .i64 k)) none).run Tryz.prog w1 = .ok (.slice (some ⟨b, off, none⟩) k cap) w1 := fun w1 => by
     rw [run_slice_h w1 22 _ n cap ulB .i64 k (by omega) (by omega), sizeB]
     simp [Result.andThen, sliced]
     intro _
     unfold Addr.add
     split <;> simp_all
   refine ⟨_, hr, hg, by omega, ?_⟩
   by_cases hz : k = 0
   · exact Or.inl ⟨hz, _, _, by rw [hz], hcap⟩
   · exact Or.inr ⟨b, off, cap, rfl, ⟨by omega, hcap⟩, fun i hi => hc i (by omega)⟩
theorem len_sl {w : World} {v : Value} {n : Nat} {g : Nat → Int} (h : Sl w v n g) : ∃ a c, v = .slice a n c := by
 obtain ⟨_, _, ⟨rfl, a0, cap, rfl, _⟩ | ⟨b, off, cap, rfl, _⟩⟩ := h
 · exact ⟨_, _, rfl⟩
 · exact ⟨_, _, rfl⟩
def sg (s : ByteArray) (i : Nat) : Int := ((s.data.toList.getD i 0).toNat : Int)
theorem sg_bd (s : ByteArray) (i : Nat) : 0 ≤ sg s i ∧ sg s i ≤ 255 := by
 unfold sg
 have := UInt8.toNat_lt (s.data.toList.getD i 0)
 omega
theorem below_bw (w : World) (s : ByteArray) : Below w.heap.size w (Lib.bytesWorld w 5 s) := by
 refine ⟨?_, ?_, ?_, by rw [Lib.bytesWorld_size]; omega, fun k hk => Lib.bytesWorld_at_old w 5 s k hk⟩
 all_goals (unfold Lib.bytesWorld World.freeze; split <;> rfl)
theorem conv_bs (w : World) (s : ByteArray) (hs : s.size ≤ 1000) : (convert 9 22 (.string s)).run Tryz.prog w = .ok (.slice (some ⟨w.heap.size, 0, none⟩) s.size (grownCap w s.size 0 5)) (Lib.bytesWorld w 5 s) ∧
   Sl (Lib.bytesWorld w 5 s) (.slice (some ⟨w.heap.size, 0, none⟩) s.size (grownCap w s.size 0 5)) s.size (sg s) := by
 refine ⟨Lib.run_convert_string_bytes w _ _ _ s Tryz.underlying9 Tryz.underlying22 Tryz.underlying5, sg_bd s, by omega, Or.inr ⟨_, 0, _, rfl, ⟨grownCap_ge _ _ _ _, ?_⟩, fun i hi => ?_⟩⟩
 · have := grownCap_le_maxLen w s.size 0 5 (by unfold maxLen; omega)
   unfold maxLen at this
   omega
 · rw [Nat.zero_add, Lib.bytesWorld_cell w _ s i hi]
   rfl
def preG (n : Nat) (g : Nat → Int) (m : Nat) (h : Nat → Int) : Bool := decide (m ≤ n) && decide (strOf m g = strOf m h)
theorem equal_any (v1 v2 : Value) (n m : Nat) (g h : Nat → Int) (w : World) (h1 : Sl w v1 n g) (h2 : Sl w v2 m h) :
   Calls Tryz.prog 134 #[v1, v2] w fun e w' => e = .returned (.bool (decide (strOf n g = strOf m h))) ∧ w = w' := by
 have c1 := conv_sl h1
 have c2 := conv_sl h2
 have HB := Lib.hid (show ((strOf n g).toList == (strOf m h).toList) = decide (strOf n g = strOf m h) by
   by_cases e : strOf n g = strOf m h
   · rw [e]; simp
   · rw [decide_eq_false e, beq_eq_false_iff_ne]
     exact fun e2 => e (toList_inj e2))
 clear h1 h2
 go_enter Tryz.func134, Tryz.ntmps134
 go_wp2
 go_ret
 rw [HB.out]
 exact ⟨rfl, rfl⟩
theorem prefixB_any (v1 v2 : Value) (n m : Nat) (g h : Nat → Int) (w : World) (h1 : Sl w v1 n g) (h2 : Sl w v2 m h) :
   Calls Tryz.prog 110 #[v1, v2] w fun e w' => e = .returned (.bool (preG n g m h)) ∧ w = w' := by
 obtain ⟨a1, c1, rfl⟩ := len_sl h1
 obtain ⟨a2, c2, rfl⟩ := len_sl h2
 by_cases hm : m ≤ n
 · have hi : (m : Int) ≤ (n : Int) := by omega
   obtain ⟨v', hr, hv⟩ := to_sl h1 hm
   have HC := Lib.hid (equal_any v' _ m m g h w hv h2)
   have HP := Lib.hid (show decide (strOf m g = strOf m h) = preG n g m h by simp [preG, hm])
   clear h1 h2 hv
   go_enter Tryz.func110, Tryz.ntmps110
   go_wp2_with fail
   refine HC.out.mono ?_
   rintro e w' ⟨rfl, rfl⟩
   go_wp2_with fail
   go_ret
   rw [HP.out]
   exact ⟨rfl, rfl⟩
 · have hi : ¬ (m : Int) ≤ (n : Int) := by omega
   have HP := Lib.hid (show false = preG n g m h by simp [preG, hm])
   clear h1 h2
   go_enter Tryz.func110, Tryz.ntmps110
   go_wp2_with fail
   go_ret
   rw [HP.out]
   exact ⟨rfl, rfl⟩
end Go.Proofs.YtkcmjcgjfjfimaaGreatDoor.tkw
end
section
namespace Go.Proofs.YtkcmjcgjfjfimaaGreatDoor.tkw
open Go Go.RowKit Go.Maps utfp utfw ucdp setp setw prp tkp
theorem has_iff {p : Pt} : ∀ {s : List UInt8} {a : Nat}, a ≤ p.n → (p.has s a = true ↔ a + s.length ≤ p.n ∧ ∀ i, i < s.length → p.g (a + i) = ((s.getD i 0).toNat : Int))
 | [], a, h => by simp [Pt.has, h]
 | c :: s, a, h => by
   unfold Pt.has
   simp only [Bool.and_eq_true, decide_eq_true_eq, List.length_cons]
   constructor
   · rintro ⟨⟨h1, h2⟩, h3⟩
     obtain ⟨k1, k2⟩ := (has_iff (by omega)).1 h3
     refine ⟨by omega, fun i hi => ?_⟩
     cases i with
     | zero => simpa using h2
     | succ i =>
       have := k2 i (by omega)
       simp only [List.getD_cons_succ]
       rw [← this]
       congr 1
       omega
   · rintro ⟨h1, h2⟩
     refine ⟨⟨by omega, by simpa using h2 0 (by omega)⟩, (has_iff (by omega)).2 ⟨by omega, fun i hi => ?_⟩⟩
     have := h2 (i + 1) (by omega)
     simp only [List.getD_cons_succ] at this
     rw [← this]
     congr 1
     omega
theorem strOf_iff {m : Nat} {g h : Nat → Int} (hg : ∀ i, 0 ≤ g i ∧ g i ≤ 255) (hh : ∀ i, 0 ≤ h i ∧ h i ≤ 255) : strOf m g = strOf m h ↔ ∀ i, i < m → g i = h i := by
 constructor
 · intro e i hi
   have := strOfNums_inj (by simp only [List.mem_map]; rintro x ⟨j, _, rfl⟩; exact hg j) (by simp only [List.mem_map]; rintro x ⟨j, _, rfl⟩; exact hh j) e
   have h2 := congrArg (fun l => l[i]?) this
   simpa [hi] using h2
 · intro e
   unfold strOf
   congr 1
   exact List.map_congr_left fun i hi => e i (by simpa using hi)
theorem pre_has {p : Pt} (hg : ∀ i, 0 ≤ p.g i ∧ p.g i ≤ 255) {a : Nat} (ha : a ≤ p.n) (s : ByteArray) : preG (p.n - a) (fun i => p.g (a + i)) s.size (sg s) = p.has s.data.toList a := by
 have hl : s.data.toList.length = s.size := rfl
 rw [Bool.eq_iff_iff]
 unfold preG
 rw [has_iff ha, hl]
 simp only [Bool.and_eq_true, decide_eq_true_eq]
 rw [strOf_iff (fun i => hg _) (sg_bd s)]
 constructor
 · rintro ⟨h1, h2⟩
   exact ⟨by omega, h2⟩
 · rintro ⟨h1, h2⟩
   exact ⟨by omega, h2⟩
theorem below_dn {B : Nat} {w w' : World} (h : Below B w w') (n : Nat) : Below B w (w'.drewN n) := ⟨h.os, h.tape, h.output, h.size, h.block⟩
theorem LX.drewN {C : Cf} {w : World} {a f : Nat} {T : Rw} (h : LX C w a f T) (n : Nat) : LX C (w.drewN n) a f T := h.below (below_dn (Below.refl _ _) n)
theorem ended_any {C : Cf} {w : World} {a f : Nat} {T : Rw} (h : LX C w a f T) : Calls Tryz.prog 22 #[.pointer (some ⟨C.L, 0, none⟩)] w fun e w' => e = .returned (.bool (decide (a = C.p.n))) ∧ ∃ q, w' = w.drewN q := by
 have hc := h.cells
 have c0 := hc.c0
 have c1 := hc.c1
 obtain ⟨x, y, hv⟩ := len_sl h.sl
 rw [hv] at c0
 have HE := Lib.hid (show ((a : Int) == (C.p.n : Int)) = decide (a = C.p.n) by
   by_cases e : a = C.p.n
   · simp [e]
   · rw [decide_eq_false e, beq_eq_false_iff_ne]; omega)
 clear h hc hv
 go_enter Tryz.func22, Tryz.ntmps22
 go_wp2_with fail
 go_quiet (fail)
 rename_i nq
 go_wp2_with fail
 go_ret
 rw [HE.out]
 exact ⟨rfl, nq, rfl⟩
set_option maxHeartbeats 1000000 in
theorem has_any {C : Cf} {w : World} {a f : Nat} {T : Rw} (h : LX C w a f T) (s : ByteArray) (hs : s.size ≤ 1000) :
   Calls Tryz.prog 84 #[.pointer (some ⟨C.L, 0, none⟩), .string s] w fun e w' => e = .returned (.bool (C.p.has s.data.toList a)) ∧ Below w.heap.size w w' := by
 have hc := h.cells
 have c0 := hc.c0
 have c1 := hc.c1
 have hsl := h.sl
 have ha := h.an
 have hn := h.ok.n
 obtain ⟨v', hr, hv⟩ := from_sl hsl ha
 have HV := Lib.hid hv
 have HP := Lib.hid (pre_has hsl.1 ha s)
 have HC := Lib.hid (fun u => conv_bs u s hs)
 have hcv := fun u => (conv_bs u s hs).1
 have C0 := Lib.hid c0
 have C1 := Lib.hid c1
 clear h hc hsl hv c0 c1
 go_enter Tryz.func84, Tryz.ntmps84
 go_wp2_with fail
 refine wp_region_held_drew (S := fun w' => Below w.heap.size w w') (by kernel_rfl) (Below.refl _ _).drew (fun hHeld => ?_)
 refine wpAnyH_take (i := 0) (v := ?_) rfl (by kernel_rfl) (by kernel_rfl) (by kernel_rfl) (fun _ _ _ h => h) (Or.inl ⟨by rfl, ?_⟩) (by assumption) ?_
 rotate_left
 · intro w' hSw
   have k0 := below_cell hSw C0.out
   have k1 := below_cell hSw C1.out
   go_simp
   try rfl
 simp only [Act.put, List.setIfInBounds_toArray, List.set_cons_zero, List.set_cons_succ, List.getElem_toArray, List.getElem_cons_zero]
 refine wpAnyH_take (i := 1) (v := ?_) rfl (by kernel_rfl) (by kernel_rfl) (by kernel_rfl) (fun _ _ _ h => h) (Or.inl ⟨by rfl, ?_⟩) (by assumption) ?_
 rotate_left
 · intro w' hSw
   have k0 := below_cell hSw C0.out
   have k1 := below_cell hSw C1.out
   go_simp
   try rfl
 simp only [Act.put, List.setIfInBounds_toArray, List.set_cons_zero, List.set_cons_succ, List.getElem_toArray, List.getElem_cons_succ, List.getElem_cons_zero]
 refine wpAnyH_take (i := 2) (v := ?_) rfl (by kernel_rfl) (by kernel_rfl) (by kernel_rfl) (fun _ _ _ h => h) (Or.inl ⟨by rfl, ?_⟩) (by assumption) ?_
 rotate_left
 · intro w' hSw
   have k0 := below_cell hSw C0.out
   have k1 := below_cell hSw C1.out
   go_simp
   try rfl
 simp only [Act.put, List.setIfInBounds_toArray, List.set_cons_zero, List.set_cons_succ, List.getElem_toArray, List.getElem_cons_succ, List.getElem_cons_zero]
 refine wpAnyH_take (i := 3) (v := ?_) rfl (by kernel_rfl) (by kernel_rfl) (by kernel_rfl) (fun _ _ _ h => h) (Or.inl ⟨by rfl, ?_⟩) (by assumption) ?_
 rotate_left
 · intro w' hSw
   have k0 := below_cell hSw C0.out
   have k1 := below_cell hSw C1.out
   go_simp
   try rfl
 simp only [Act.put, List.setIfInBounds_toArray, List.set_cons_zero, List.set_cons_succ, List.getElem_toArray, List.getElem_cons_succ, List.getElem_cons_zero]
 refine wpAnyH_take (i := 4) (v := ?_) rfl (by kernel_rfl) (by kernel_rfl) (by kernel_rfl) (fun _ _ _ h => h) (Or.inl ⟨by rfl, ?_⟩) (by assumption) ?_
 rotate_left
 · intro w' hSw
   have k0 := below_cell hSw C0.out
   have k1 := below_cell hSw C1.out
   go_simp
   try rfl
 simp only [Act.put, List.setIfInBounds_toArray, List.set_cons_zero, List.set_cons_succ, List.getElem_toArray, List.getElem_cons_succ, List.getElem_cons_zero]
 refine wpAnyH_take (i := 5) (v := ?_) rfl (by kernel_rfl) (by kernel_rfl) (by kernel_rfl) (fun _ _ _ h => h) (Or.inl ⟨by rfl, ?_⟩) (by assumption) ?_
 rotate_left
 · intro w' hSw
   have k0 := below_cell hSw C0.out
   have k1 := below_cell hSw C1.out
   go_simp
   try rfl
 simp only [Act.put, List.setIfInBounds_toArray, List.set_cons_zero, List.set_cons_succ, List.getElem_toArray, List.getElem_cons_succ, List.getElem_cons_zero]
 refine wpAnyH_take (i := 6) (v := ?_) rfl (by kernel_rfl) (by kernel_rfl) (by kernel_rfl) (fun _ _ _ h => h) (Or.inl ⟨by rfl, ?_⟩) (by assumption) ?_
 rotate_left
 · intro w' hSw
   have k0 := below_cell hSw C0.out
   have k1 := below_cell hSw C1.out
   go_simp
   try rfl
 simp only [Act.put, List.setIfInBounds_toArray, List.set_cons_zero, List.set_cons_succ, List.getElem_toArray, List.getElem_cons_succ, List.getElem_cons_zero]
 refine wpAnyH_take (i := 7) (v := ?_) rfl (by kernel_rfl) (by kernel_rfl) (by kernel_rfl) (fun _ _ _ h => h) (Or.inl ⟨by rfl, ?_⟩) (by assumption) ?_
 rotate_left
 · intro w' hSw
   have k0 := below_cell hSw C0.out
   have k1 := below_cell hSw C1.out
   go_simp
   try rfl
 simp only [Act.put, List.setIfInBounds_toArray, List.set_cons_zero, List.set_cons_succ, List.getElem_toArray, List.getElem_cons_succ, List.getElem_cons_zero]
 refine wpAnyH_take (i := 8) (v := ?_) rfl (by kernel_rfl) (by kernel_rfl) (by kernel_rfl) (fun _ _ _ h => h) (Or.inl ⟨by rfl, ?_⟩) (by assumption) ?_
 rotate_left
 · intro w' hSw
   have k0 := below_cell hSw C0.out
   have k1 := below_cell hSw C1.out
   go_simp
   try rfl
 simp only [Act.put, List.setIfInBounds_toArray, List.set_cons_zero, List.set_cons_succ, List.getElem_toArray, List.getElem_cons_succ, List.getElem_cons_zero]
 refine wpAnyH_take (i := 9) (v := ?_) rfl (by kernel_rfl) (by kernel_rfl) (by kernel_rfl) (fun _ _ _ h => h) (Or.inl ⟨by rfl, ?_⟩) (by assumption) ?_
 rotate_left
 · intro w' hSw
   have k0 := below_cell hSw C0.out
   have k1 := below_cell hSw C1.out
   go_simp
   try rfl
 simp only [Act.put, List.setIfInBounds_toArray, List.set_cons_zero, List.set_cons_succ, List.getElem_toArray, List.getElem_cons_succ, List.getElem_cons_zero]
 refine wpAnyH_ready (rs := [10]) (by kernel_rfl) (by simp) ?_
 refine AllReadyH.cons rfl (fun K hK => ?_) AllReadyH.nil
 go_simp
 refine hK.out _ _ (below_trans hHeld (below_bw _ s)) (fun hHeld => ?_)
 clear hK K
 try simp only [Act.put, List.setIfInBounds_toArray, List.set_cons_zero, List.set_cons_succ, List.getElem_toArray, List.getElem_cons_succ, List.getElem_cons_zero]
 refine wpAnyH_ready (rs := [11]) (by kernel_rfl) (by simp) ?_
 refine AllReadyH.cons rfl (fun K hK => ?_) AllReadyH.nil
 go_simp
 refine Calls.mono (prefixB_any _ _ _ _ _ _ _ (below_sl hHeld HV.out) (HC.out _).2) ?_
 rintro e w1 ⟨rfl, rfl⟩
 refine hK.out _ _ (by assumption) (fun hHeld => ?_)
 clear hK K
 try simp only [Act.put, List.setIfInBounds_toArray, List.set_cons_zero, List.set_cons_succ, List.getElem_toArray, List.getElem_cons_succ, List.getElem_cons_zero]
 refine wpAnyH_take (i := 12) (v := ?_) rfl (by kernel_rfl) (by kernel_rfl) (by kernel_rfl) (fun _ _ _ h => h) (Or.inl ⟨by rfl, ?_⟩) (by assumption) ?_
 rotate_left
 · intro w' hSw
   go_simp
   try rfl
 simp only [Act.put, List.setIfInBounds_toArray, List.set_cons_zero, List.set_cons_succ, List.getElem_toArray, List.getElem_cons_succ, List.getElem_cons_zero]
 refine wpAnyH_done (by kernel_rfl) ?_ _
 go_wp2_with fail
 go_ret
 rw [HP.out]
 exact ⟨rfl, hHeld⟩
end Go.Proofs.YtkcmjcgjfjfimaaGreatDoor.tkw
end
section
namespace Go.Proofs.YtkcmjcgjfjfimaaGreatDoor.tkw
open Go Go.RowKit Go.Maps utfp utfw ucdp setp setw prp tkp
theorem LX.at' {C : Cf} {w : World} {a f b : Nat} {T : Rw} (h : LX C w a f T) {x : Int} (hx : x = b) (hb : b ≤ C.p.n) (hT : T.length ≤ b) : LX C (w.setCell ⟨C.L, 1, none⟩ (.int .i64 x)) b f T := by
 subst hx
 exact h.at_ hb hT
theorem has_le {p : Pt} {s : List UInt8} {a : Nat} (ha : a ≤ p.n) (h : p.has s a = true) : a + s.length ≤ p.n := ((has_iff ha).1 h).1
theorem Kept.lt {L : Nat} {w w' : World} (h : Kept w.heap.size L w w') : w.heap.size ≤ w'.heap.size := h.size
set_option maxHeartbeats 1000000 in
theorem take_yes {C : Cf} {w : World} {a f : Nat} {T : Rw} (h : LX C w a f T) (s : ByteArray) (hs : s.size ≤ 1000) (hh : C.p.has s.data.toList a = true) :
   Calls Tryz.prog 59 #[.pointer (some ⟨C.L, 0, none⟩), .string s] w (Ret C w (.bool true) (a + s.size) f T) := by
 have ha := has_le h.an hh
 have hl : s.data.toList.length = s.size := rfl
 rw [hl] at ha
 have hn := h.ok.n
 have tl := h.tl
 have HC := Lib.hid (has_any h s hs)
 rw [hh] at HC
 have HX := Lib.hid h
 clear h hh hl
 go_enter Tryz.func59, Tryz.ntmps59
 go_wp2_with fail
 refine HC.out.mono ?_
 rintro e w1 ⟨rfl, hb⟩
 have HB := Lib.hid hb
 have HX1 := Lib.hid (HX.out.below hb)
 have c1 := HX1.out.cells.c1
 have fz := HX1.out.cells.fz 1
 clear hb
 go_wp2_with fail
 go_ret
 exact ⟨rfl, HX1.out.at' (by omega) ha (by omega), (Kept.of_below HB.out).setCell 1 _⟩
set_option maxHeartbeats 1000000 in
theorem take_no {C : Cf} {w : World} {a f : Nat} {T : Rw} (h : LX C w a f T) (s : ByteArray) (hs : s.size ≤ 1000) (hh : C.p.has s.data.toList a = false) :
   Calls Tryz.prog 59 #[.pointer (some ⟨C.L, 0, none⟩), .string s] w (Ret C w (.bool false) a f T) := by
 have HC := Lib.hid (has_any h s hs)
 rw [hh] at HC
 have HX := Lib.hid h
 clear h hh
 go_enter Tryz.func59, Tryz.ntmps59
 go_wp2_with fail
 refine HC.out.mono ?_
 rintro e w1 ⟨rfl, hb⟩
 have HB := Lib.hid hb
 clear hb
 go_wp2_with fail
 go_ret
 exact ⟨rfl, HX.out.below HB.out, Kept.of_below HB.out⟩
theorem char_pure {p : Pt} (hg : ∀ i, 0 ≤ p.g i ∧ p.g i ≤ 255) {a : Nat} (ha : a ≤ p.n) : nextP p.u p.g p.n a = ((p.char a).1, ((p.char a).2 : Int)) ∧ a ≤ (p.char a).2 ∧ (p.char a).2 ≤ p.n ∧ (a < p.n → a < (p.char a).2) := by
 unfold Pt.char
 by_cases h : a < p.n
 · obtain ⟨s1, s2, s3⟩ := stepN_bd (utf := p.u) hg h
   rw [nextP_step _ _ _ _ hg h]
   simp only [Int.toNat_natCast]
   exact ⟨trivial, by omega, s2, fun _ => s1⟩
 · have : nextP p.u p.g p.n a = (-1, (a : Int)) := by unfold nextP; rw [if_pos (by omega)]
   rw [this]
   simp only [Int.toNat_natCast]
   exact ⟨trivial, by omega, ha, fun hlt => absurd hlt h⟩
set_option maxHeartbeats 1000000 in
theorem char_any {C : Cf} {w : World} {a f : Nat} {T : Rw} (h : LX C w a f T) :
   Calls Tryz.prog 35 #[.pointer (some ⟨C.L, 0, none⟩)] w (Ret C w (.int .i64 (C.p.char a).1) (C.p.char a).2 f T) := by
 have hc := h.cells
 have c0 := hc.c0
 have c1 := hc.c1
 have c4 := hc.c4
 obtain ⟨q1, q2, q3, _⟩ := char_pure h.sl.1 h.an
 have tl := h.tl
 have HN := Lib.hid (fun n => next_any C.pv C.p.n C.p.g a C.p.u (w.drewN n) (h.drewN n).sl (h.drewN n).tabs)
 unfold TwoPost at HN
 rw [q1] at HN
 have HX := Lib.hid h
 clear h hc q1
 go_enter Tryz.func35, Tryz.ntmps35
 go_wp2_with fail
 go_quiet ((go_at_call 62; exact Calls.quiet_of (HN.out _)))
 rename_i nq
 have HX1 := Lib.hid (HX.out.drewN nq)
 have fz := HX1.out.cells.fz 1
 have d1 := HX1.out.cells.c1
 have HK := Lib.hid ((Kept.refl w.heap.size C.L w).drewN nq)
 generalize w.drewN nq = w1 at *
 go_wp2_with fail
 go_ret
 exact ⟨rfl, HX1.out.at_ q3 (by omega), HK.out.setCell 1 _⟩
theorem fail_any {C : Cf} {w : World} {a f : Nat} {T : Rw} (h : LX C w a f T) (e0 : Int) :
   Calls Tryz.prog 63 #[.pointer (some ⟨C.L, 0, none⟩), .int .i64 e0] w (Pan C w (C.p.er e0 f)) := by
 have hc := h.cells
 have c0 := hc.c0
 have c2 := hc.c2
 obtain ⟨x, y, hv⟩ := len_sl h.sl
 rw [hv] at c0
 by_cases he : e0 = 20
 · subst he
   have HE := Lib.hid (show C.p.er 20 f = (20, (C.p.n : Int)) from rfl)
   clear h hc hv
   go_enter Tryz.func63, Tryz.ntmps63
   go_wp2
   rw [HE.out]
   exact ⟨rfl, rfl, Kept.refl _ _ _⟩
 · have HE := Lib.hid (show C.p.er e0 f = (e0, (f : Int)) by unfold Pt.er; rw [if_neg he])
   have he2 : (e0 == 20) = false := by simpa using he
   clear h hc hv he
   go_enter Tryz.func63, Tryz.ntmps63
   go_wp2
   rw [HE.out]
   exact ⟨rfl, rfl, Kept.refl _ _ _⟩
end Go.Proofs.YtkcmjcgjfjfimaaGreatDoor.tkw
end
section
namespace Go.Proofs.YtkcmjcgjfjfimaaGreatDoor.tkw
open Go Go.RowKit Go.Maps utfp utfw ucdp setp setw prp tkp
def BolS (r : Bool) (w : World) (e : Ending) (w' : World) : Prop := e = .returned (.bool r) ∧ w = w'
theorem bolS {r s : Bool} {w : World} (h : s = r) : BolS r w (.returned (.bool s)) w := by
 subst h
 exact ⟨rfl, rfl⟩
theorem isDig_any (c : Int) (w : World) : Calls Tryz.prog 68 #[.int .i64 c] w (BolS (isDig c) w) := by
 by_cases h1 : 48 ≤ c
 all_goals by_cases h2 : c ≤ 57
 all_goals
   have HE := Lib.hid (show (decide (48 ≤ c) && decide (c ≤ 57)) = isDig c from rfl)
   go_enter Tryz.func68, Tryz.ntmps68
   go_wp2
   go_ret
   exact bolS (by rw [← HE.out, Bool.eq_iff_iff]; simp <;> omega)
theorem isLet_any (c : Int) (w : World) : Calls Tryz.prog 70 #[.int .i64 c] w (BolS (isLet c) w) := by
 have HE := Lib.hid (show (decide (65 ≤ c) && decide (c ≤ 90) || decide (97 ≤ c) && decide (c ≤ 122)) = isLet c from rfl)
 have hc : c < 65 ∨ (65 ≤ c ∧ c ≤ 90) ∨ (90 < c ∧ c < 97) ∨ (97 ≤ c ∧ c ≤ 122) ∨ 122 < c := by omega
 rcases hc with h | ⟨h, h2⟩ | ⟨h, h2⟩ | ⟨h, h2⟩ | h
 · have b1 : ¬ 65 ≤ c := by omega
   have b2 : ¬ 97 ≤ c := by omega
   go_enter Tryz.func70, Tryz.ntmps70
   go_wp2
   go_ret
   exact bolS (by rw [← HE.out, Bool.eq_iff_iff]; simp <;> omega)
 · go_enter Tryz.func70, Tryz.ntmps70
   go_wp2
   go_ret
   exact bolS (by rw [← HE.out, Bool.eq_iff_iff]; simp <;> omega)
 · have b1 : ¬ c ≤ 90 := by omega
   have b2 : ¬ 97 ≤ c := by omega
   have b3 : 65 ≤ c := by omega
   go_enter Tryz.func70, Tryz.ntmps70
   go_wp2
   go_ret
   exact bolS (by rw [← HE.out, Bool.eq_iff_iff]; simp <;> omega)
 · have b1 : ¬ c ≤ 90 := by omega
   have b3 : 65 ≤ c := by omega
   go_enter Tryz.func70, Tryz.ntmps70
   go_wp2
   go_ret
   exact bolS (by rw [← HE.out, Bool.eq_iff_iff]; simp <;> omega)
 · have b1 : ¬ c ≤ 90 := by omega
   have b2 : ¬ c ≤ 122 := by omega
   have b3 : 65 ≤ c := by omega
   have b4 : 97 ≤ c := by omega
   go_enter Tryz.func70, Tryz.ntmps70
   go_wp2
   go_ret
   exact bolS (by rw [← HE.out, Bool.eq_iff_iff]; simp <;> omega)
theorem isWrd_any (c : Int) (w : World) : Calls Tryz.prog 118 #[.int .i64 c] w (BolS (isWrd c) w) := by
 have HE := Lib.hid (show (isLet c || isDig c || decide (c = 95)) = isWrd c from rfl)
 have HL := Lib.hid (isLet_any c w)
 have HD := Lib.hid (isDig_any c w)
 cases hl : isLet c with
 | true =>
   rw [hl] at HL HE
   clear hl
   go_enter Tryz.func118, Tryz.ntmps118
   go_wp2_with fail
   refine HL.out.mono ?_
   rintro e w' ⟨rfl, rfl⟩
   go_wp2_with fail
   go_ret
   exact bolS (by rw [← HE.out]; simp)
 | false =>
   rw [hl] at HL HE
   clear hl
   cases hd : isDig c with
   | true =>
     rw [hd] at HD HE
     clear hd
     go_enter Tryz.func118, Tryz.ntmps118
     go_wp2_with fail
     refine HL.out.mono ?_
     rintro e w' ⟨rfl, rfl⟩
     go_wp2_with fail
     refine HD.out.mono ?_
     rintro e w' ⟨rfl, rfl⟩
     go_wp2_with fail
     go_ret
     exact bolS (by rw [← HE.out]; simp)
   | false =>
     rw [hd] at HD HE
     clear hd
     go_enter Tryz.func118, Tryz.ntmps118
     go_wp2_with fail
     refine HL.out.mono ?_
     rintro e w' ⟨rfl, rfl⟩
     go_wp2_with fail
     refine HD.out.mono ?_
     rintro e w' ⟨rfl, rfl⟩
     go_wp2_with fail
     go_ret
     exact bolS (by rw [← HE.out]; by_cases e : c = 95 <;> simp [e])
theorem isHexd_any (c : Int) (w : World) : Calls Tryz.prog 136 #[.int .i64 c] w (BolS (isHexd c) w) := by
 have HE := Lib.hid (show (isDig c || decide (65 ≤ c) && decide (c ≤ 70) || decide (97 ≤ c) && decide (c ≤ 102)) = isHexd c from rfl)
 have HD := Lib.hid (isDig_any c w)
 cases hd : isDig c with
 | true =>
   rw [hd] at HD HE
   clear hd
   go_enter Tryz.func136, Tryz.ntmps136
   go_wp2_with fail
   refine HD.out.mono ?_
   rintro e w' ⟨rfl, rfl⟩
   go_wp2_with fail
   go_ret
   exact bolS (by rw [← HE.out]; simp)
 | false =>
   rw [hd] at HD HE
   clear hd
   have hc : c < 65 ∨ (65 ≤ c ∧ c ≤ 70) ∨ (70 < c ∧ c < 97) ∨ (97 ≤ c ∧ c ≤ 102) ∨ 102 < c := by omega
   rcases hc with h | ⟨h, h2⟩ | ⟨h, h2⟩ | ⟨h, h2⟩ | h
   · have b1 : ¬ 65 ≤ c := by omega
     have b2 : ¬ 97 ≤ c := by omega
     go_enter Tryz.func136, Tryz.ntmps136
     go_wp2_with fail
     refine HD.out.mono ?_
     rintro e w' ⟨rfl, rfl⟩
     go_wp2_with fail
     go_ret
     exact bolS (by rw [← HE.out, Bool.eq_iff_iff]; simp <;> omega)
   · go_enter Tryz.func136, Tryz.ntmps136
     go_wp2_with fail
     refine HD.out.mono ?_
     rintro e w' ⟨rfl, rfl⟩
     go_wp2_with fail
     go_ret
     exact bolS (by rw [← HE.out, Bool.eq_iff_iff]; simp <;> omega)
   · have b1 : ¬ c ≤ 70 := by omega
     have b2 : ¬ 97 ≤ c := by omega
     have b3 : 65 ≤ c := by omega
     go_enter Tryz.func136, Tryz.ntmps136
     go_wp2_with fail
     refine HD.out.mono ?_
     rintro e w' ⟨rfl, rfl⟩
     go_wp2_with fail
     go_ret
     exact bolS (by rw [← HE.out, Bool.eq_iff_iff]; simp <;> omega)
   · have b1 : ¬ c ≤ 70 := by omega
     have b3 : 65 ≤ c := by omega
     go_enter Tryz.func136, Tryz.ntmps136
     go_wp2_with fail
     refine HD.out.mono ?_
     rintro e w' ⟨rfl, rfl⟩
     go_wp2_with fail
     go_ret
     exact bolS (by rw [← HE.out, Bool.eq_iff_iff]; simp <;> omega)
   · have b1 : ¬ c ≤ 70 := by omega
     have b2 : ¬ c ≤ 102 := by omega
     have b3 : 65 ≤ c := by omega
     have b4 : 97 ≤ c := by omega
     go_enter Tryz.func136, Tryz.ntmps136
     go_wp2_with fail
     refine HD.out.mono ?_
     rintro e w' ⟨rfl, rfl⟩
     go_wp2_with fail
     go_ret
     exact bolS (by rw [← HE.out, Bool.eq_iff_iff]; simp <;> omega)
end Go.Proofs.YtkcmjcgjfjfimaaGreatDoor.tkw
end
section
namespace Go.Proofs.YtkcmjcgjfjfimaaGreatDoor.tkw
open Go Go.RowKit Go.Maps utfp utfw ucdp setp setw prp tkp
def BolQ (r : Bool) (w : World) (e : Ending) (w' : World) : Prop := e = .returned (.bool r) ∧ ∃ q, w' = w.drewN q
theorem run_succ {p : Pt} {fits : Int → Bool} {k a : Nat} (h1 : a < p.n) (h2 : fits (p.g a) = true) : p.run fits (k + 1) a = p.run fits k (a + 1) := by
 rw [Pt.run, if_pos (by simp [h1, h2])]
theorem run_end {p : Pt} {fits : Int → Bool} {k a : Nat} (h : a = p.n ∨ fits (p.g a) = false) : p.run fits k a = a := by
 cases k with
 | zero => rfl
 | succ k =>
   rw [Pt.run, if_neg]
   rcases h with h | h
   · simp [h]
   · simp [h]
theorem run_bd {p : Pt} {fits : Int → Bool} : ∀ {k a : Nat}, a ≤ p.n → a ≤ p.run fits k a ∧ p.run fits k a ≤ p.n ∧ p.run fits k a ≤ a + k
 | 0, a, h => ⟨Nat.le_refl _, h, Nat.le_refl _⟩
 | k + 1, a, h => by
   unfold Pt.run
   split
   · rename_i hc
     simp only [Bool.and_eq_true, decide_eq_true_eq] at hc
     have := run_bd (p := p) (fits := fits) (k := k) (a := a + 1) (by omega)
     omega
   · exact ⟨Nat.le_refl _, h, by omega⟩
theorem cell_sl {w : World} {v : Value} {n : Nat} {g : Nat → Int} (h : Sl w v n g) {i : Nat} (hi : i < n) : ∃ b off cap, v = .slice (some ⟨b, off, none⟩) n cap ∧ w.cell? ⟨b, off + i, none⟩ = some (.int .u8 (g i)) := by
 obtain ⟨_, _, ⟨h0, _⟩ | ⟨b, off, cap, hv, _, hc⟩⟩ := h
 · omega
 · exact ⟨b, off, cap, hv, hc i hi⟩
def RnRel (C : Cf) (w : World) (fits : Int → Bool) (most a f : Nat) (T : Rw) (wr : World) : Prop :=
 ∃ k, k ≤ most ∧ LX C wr (a + k) f T ∧ Kept w.heap.size C.L w wr ∧ C.p.run fits most a = C.p.run fits (most - k) (a + k)
set_option maxRecDepth 100000 in
set_option maxHeartbeats 4000000 in
theorem run_any {C : Cf} {w : World} {a f : Nat} {T : Rw} (h : LX C w a f T) (most : Nat) (hm : most ≤ 1000) (g : Nat) (lb : Array Value) (fits : Int → Bool) (eg : ∀ args w, (callFunc g args).run Tryz.prog w = .ok (.enter g args) w)
   (hf : ∀ (c : Int) (u : World) (b : Nat), 0 ≤ c → c ≤ 255 → LX C u b f T → Kept w.heap.size C.L w u → Calls Tryz.prog g (#[.int .i64 c] ++ lb) u (BolQ (fits c) u)) :
   Calls Tryz.prog 117 #[.pointer (some ⟨C.L, 0, none⟩), .int .i64 most, .func (.func g) #[] lb] w (Ret C w (.string (C.p.sub a (C.p.run fits most a))) (C.p.run fits most a) f T) := by
 have hn := h.ok.n
 have tl := h.tl
 have HF := Lib.hid hf
 have HX := Lib.hid h
 have c1 := h.cells.c1
 clear h hf
 go_enter Tryz.func117, Tryz.ntmps117
 go_wp2_with fail
 go_loopw [] (fun wr => RnRel C w fits most a f T wr) (fun wr => C.p.n - (intOf ((wr.cell? ⟨C.L, 1, none⟩).getD (.int .i64 0))).toNat)
 case atStart => exact ⟨0, Nat.zero_le _, HX.out, Kept.refl _ _ _, rfl⟩
 case round =>
   obtain ⟨k, hk, hx, hkp, hr⟩ := hrel
   have d0 := hx.cells.c0
   have d1 := hx.cells.c1
   have an := hx.an
   have HR := Lib.hid hr
   have HX1 := Lib.hid hx
   have HK1 := Lib.hid hkp
   have HM := Lib.hid (show (intOf ((wr.cell? ⟨C.L, 1, none⟩).getD (.int .i64 0))).toNat = a + k by rw [d1]; exact Int.toNat_natCast _)
   clear hx hkp hr
   obtain ⟨b, hb⟩ : ∃ b, b = a + k := ⟨_, rfl⟩
   rw [← hb] at d1 an HR HX1 HM
   have HB := Lib.hid hb
   have ab : a ≤ b := by omega
   have bk : b ≤ a + most := by omega
   clear hb
   have hw : IntKind.i64.wrap ((b : Int) - (a : Int)) = (b : Int) - (a : Int) := IntWalk.i64_in _ (by omega)
   have HE := Lib.hid (fun n => ended_any (HX1.out.drewN n))
   by_cases hA : b = C.p.n
   · rw [decide_eq_true hA] at HE
     have HS := Lib.hid (show C.p.run fits most a = b by rw [HR.out]; exact run_end (Or.inl hA))
     clear hA
     go_wp2_with fail
     go_quiet ((go_at_call 22; exact Calls.quiet_of (HE.out _)))
     rename_i nq
     have HX2 := Lib.hid (HX1.out.drewN nq)
     have HK2 := Lib.hid (HK1.out.drewN nq)
     generalize wr.drewN nq = w2 at *
     clear d0 d1
     have e0 := HX2.out.cells.c0
     have e1 := HX2.out.cells.c1
     obtain ⟨v', hs, hv⟩ := mid_sl HX2.out.sl ab HX2.out.an
     have hcv := fun n => conv_sl (Drawn.sl (⟨n, rfl⟩ : Drawn w2 (w2.drewN n)) hv)
     clear hv
     go_wp2_with fail
     go_quiet (fail)
     go_wp2_with fail
     go_ret
     rw [HS.out]
     exact ⟨rfl, HX2.out.drewN _, HK2.out.drewN _⟩
   · rw [decide_eq_false hA] at HE
     by_cases hk2 : k < most
     · have hlt : (b : Int) - (a : Int) < (most : Int) := by have := HB.out; omega
       obtain ⟨pb, po, pc, hpv, hcell⟩ := cell_sl HX1.out.sl (show b < C.p.n by omega)
       have hgb := HX1.out.sl.1 b
       rw [hpv] at d0
       have hi1 : (0 : Int) ≤ (b : Int) := by omega
       have hi2 : (b : Int) < (C.p.n : Int) := by omega
       have HC := Lib.hid (fun n => HF.out (C.p.g b) (wr.drewN n) b hgb.1 hgb.2 (HX1.out.drewN n) (HK1.out.drewN n))
       have HPV := Lib.hid hpv
       have hA2 : b < C.p.n := by omega
       clear hpv hA
       unfold BolQ at HC
       cases hfb : fits (C.p.g b) with
       | true =>
         rw [hfb] at HC
         have HS := Lib.hid (show C.p.run fits most a = C.p.run fits (most - (k + 1)) (b + 1) by rw [HR.out, show most - k = (most - (k + 1)) + 1 by omega]; exact run_succ hA2 hfb)
         clear hfb
         go_wp2_with fail
         go_quiet ((first | (go_at_call 22; exact Calls.quiet_of (HE.out _)) | (exact Calls.quiet_of (HC.out _))))
         rename_i nq
         have HX2 := Lib.hid (HX1.out.drewN nq)
         have HK2 := Lib.hid (HK1.out.drewN nq)
         generalize wr.drewN nq = w2 at *
         clear d0 d1
         have e1 := HX2.out.cells.c1
         have fz := HX2.out.cells.fz 1
         go_wp2_with fail
         go_roundw
         case rel => exact ⟨k + 1, by omega, by rw [show a + (k + 1) = b + 1 by have := HB.out; omega]; exact HX2.out.at' (by omega) (by omega) (by omega), HK2.out.setCell 1 _, by rw [show a + (k + 1) = b + 1 by have := HB.out; omega]; exact HS.out⟩
         case measure =>
           have e2 := (HX2.out.at' (x := (b : Int) + 1) (b := b + 1) (by omega) (by omega) (by omega)).cells.c1
           rw [HM.out, e2]
           simp [intOf]
           omega
       | false =>
         rw [hfb] at HC
         have HS := Lib.hid (show C.p.run fits most a = b by rw [HR.out]; exact run_end (Or.inr hfb))
         clear hfb
         go_wp2_with fail
         go_quiet ((first | (go_at_call 22; exact Calls.quiet_of (HE.out _)) | (exact Calls.quiet_of (HC.out _))))
         rename_i nq
         have HX2 := Lib.hid (HX1.out.drewN nq)
         have HK2 := Lib.hid (HK1.out.drewN nq)
         generalize wr.drewN nq = w2 at *
         clear d0 d1
         have e0 := HX2.out.cells.c0
         have e1 := HX2.out.cells.c1
         obtain ⟨v', hs, hv⟩ := mid_sl HX2.out.sl ab HX2.out.an
         have hcv := fun n => conv_sl (Drawn.sl (⟨n, rfl⟩ : Drawn w2 (w2.drewN n)) hv)
         clear hv
         go_wp2_with fail
         go_quiet (fail)
         go_wp2_with fail
         go_ret
         rw [HS.out]
         exact ⟨rfl, HX2.out.drewN _, HK2.out.drewN _⟩
     · have hlt : decide ((b : Int) - (a : Int) < (most : Int)) = false := by have := HB.out; simp; omega
       have HS := Lib.hid (show C.p.run fits most a = b by rw [HR.out, show most - k = 0 by omega]; rfl)
       clear hk2 hA
       go_wp2_with fail
       go_quiet ((go_at_call 22; exact Calls.quiet_of (HE.out _)))
       rename_i nq
       have HX2 := Lib.hid (HX1.out.drewN nq)
       have HK2 := Lib.hid (HK1.out.drewN nq)
       generalize wr.drewN nq = w2 at *
       clear d0 d1
       have e0 := HX2.out.cells.c0
       have e1 := HX2.out.cells.c1
       obtain ⟨v', hs, hv⟩ := mid_sl HX2.out.sl ab HX2.out.an
       have hcv := fun n => conv_sl (Drawn.sl (⟨n, rfl⟩ : Drawn w2 (w2.drewN n)) hv)
       clear hv
       go_wp2_with fail
       go_quiet (fail)
       go_wp2_with fail
       go_ret
       rw [HS.out]
       exact ⟨rfl, HX2.out.drewN _, HK2.out.drewN _⟩
end Go.Proofs.YtkcmjcgjfjfimaaGreatDoor.tkw
end
section
namespace Go.Proofs.YtkcmjcgjfjfimaaGreatDoor.tkw
open Go Go.RowKit Go.Maps utfp utfw ucdp setp setw prp tkp
theorem run_fits {p : Pt} {fits : Int → Bool} : ∀ {k a i : Nat}, a ≤ i → i < p.run fits k a → fits (p.g i) = true
 | 0, a, i, h1, h2 => by unfold Pt.run at h2; omega
 | k + 1, a, i, h1, h2 => by
   unfold Pt.run at h2
   split at h2
   · rename_i hc
     simp only [Bool.and_eq_true, decide_eq_true_eq] at hc
     by_cases e : i = a
     · subst e; exact hc.2
     · exact run_fits (k := k) (a := a + 1) (by omega) h2
   · omega
theorem sub_size (p : Pt) (a b : Nat) : (p.sub a b).size = b - a := by
 show (strOfNums _).data.size = _
 simp [strOfNums]
theorem sub_at {p : Pt} (hg : ∀ i, 0 ≤ p.g i ∧ p.g i ≤ 255) {a b k : Nat} (hk : k < (p.sub a b).size) : (((p.sub a b)[k]'hk).toNat : Int) = p.g (a + k) := by
 have h2 := hk
 rw [sub_size] at h2
 have := hg (a + k)
 show (((strOfNums _).data[k]'_).toNat : Int) = _
 simp [strOfNums]
 omega
theorem val_bd {p : Pt} {a : Nat} : ∀ k, (∀ i, i < k → 48 ≤ p.g (a + i) ∧ p.g (a + i) ≤ 57) → 0 ≤ p.val a k ∧ p.val a k ≤ 256
 | 0, _ => by simp [Pt.val]
 | k + 1, h => by
   have h1 := val_bd k fun i hi => h i (by omega)
   have h2 := h k (by omega)
   unfold Pt.val
   omega
theorem dig_bd {p : Pt} {k a i : Nat} (h1 : a ≤ i) (h2 : i < p.run isDig k a) : 48 ≤ p.g i ∧ p.g i ≤ 57 := by
 have := run_fits h1 h2
 simpa [isDig] using this
theorem val_succ (p : Pt) (a k : Nat) : (if 256 < p.val a k * 10 + (p.g (a + k) - 48) then 256 else p.val a k * 10 + (p.g (a + k) - 48)) = p.val a (k + 1) := by
 rw [Pt.val]
 split <;> omega
theorem run_dig {C : Cf} {w : World} {a f : Nat} {T : Rw} (h : LX C w a f T) :
   Calls Tryz.prog 117 #[.pointer (some ⟨C.L, 0, none⟩), .int .i64 (1000 : Int), .func (.func 68) #[] #[]] w (Ret C w (.string (C.p.sub a (C.p.run isDig 1000 a))) (C.p.run isDig 1000 a) f T) :=
 run_any h 1000 (Nat.le_refl _) 68 #[] isDig (enters_of Tryz.func68 (by kernel_rfl) rfl) fun c u _ _ _ _ _ => (isDig_any c u).mono fun _ _ ⟨h1, h2⟩ => ⟨h1, 0, h2.symm⟩
theorem run_wrd {C : Cf} {w : World} {a f : Nat} {T : Rw} (h : LX C w a f T) :
   Calls Tryz.prog 117 #[.pointer (some ⟨C.L, 0, none⟩), .int .i64 (1000 : Int), .func (.func 118) #[] #[]] w (Ret C w (.string (C.p.sub a (C.p.run isWrd 1000 a))) (C.p.run isWrd 1000 a) f T) :=
 run_any h 1000 (Nat.le_refl _) 118 #[] isWrd (enters_of Tryz.func118 (by kernel_rfl) rfl) fun c u _ _ _ _ _ => (isWrd_any c u).mono fun _ _ ⟨h1, h2⟩ => ⟨h1, 0, h2.symm⟩
theorem run_let {C : Cf} {w : World} {a f : Nat} {T : Rw} (h : LX C w a f T) :
   Calls Tryz.prog 117 #[.pointer (some ⟨C.L, 0, none⟩), .int .i64 (1000 : Int), .func (.func 70) #[] #[]] w (Ret C w (.string (C.p.sub a (C.p.run isLet 1000 a))) (C.p.run isLet 1000 a) f T) :=
 run_any h 1000 (Nat.le_refl _) 70 #[] isLet (enters_of Tryz.func70 (by kernel_rfl) rfl) fun c u _ _ _ _ _ => (isLet_any c u).mono fun _ _ ⟨h1, h2⟩ => ⟨h1, 0, h2.symm⟩
theorem run_hex {C : Cf} {w : World} {a f : Nat} {T : Rw} (h : LX C w a f T) (most : Nat) (hm : most ≤ 1000) :
   Calls Tryz.prog 117 #[.pointer (some ⟨C.L, 0, none⟩), .int .i64 most, .func (.func 136) #[] #[]] w (Ret C w (.string (C.p.sub a (C.p.run isHexd most a))) (C.p.run isHexd most a) f T) :=
 run_any h most hm 136 #[] isHexd (enters_of Tryz.func136 (by kernel_rfl) rfl) fun c u _ _ _ _ _ => (isHexd_any c u).mono fun _ _ ⟨h1, h2⟩ => ⟨h1, 0, h2.symm⟩
theorem below_iter (w : World) (s : ByteArray) (k : Nat) : Below w.heap.size w (w.iter s k) := (Below.refl _ _).alloc (Nat.le_refl _) _
theorem not_empty {s : ByteArray} (h : 0 < s.size) : s.toList.isEmpty = false := by
 cases hs : s.toList with
 | nil =>
   rw [Lib.toList_data] at hs
   have : s.data.toList.length = s.size := rfl
   rw [hs] at this
   simp at this
   omega
 | cons x l => rfl
theorem is_empty {s : ByteArray} (h : s.size = 0) : s.toList = [] := by
 rw [Lib.toList_data]
 have : s.data.toList.length = s.size := rfl
 exact List.eq_nil_of_length_eq_zero (by omega)
set_option maxHeartbeats 2000000 in
theorem digits_any {C : Cf} {w : World} {a f : Nat} {T : Rw} (h : LX C w a f T) :
   Calls Tryz.prog 92 #[.pointer (some ⟨C.L, 0, none⟩)] w (Ret C w (.tuple #[.int .i64 (C.p.digits a).1, .bool (decide (a < (C.p.digits a).2))]) (C.p.digits a).2 f T) := by
 have HR := Lib.hid (run_dig h)
 have bd := run_bd (p := C.p) (fits := isDig) (k := 1000) h.an
 have hg := h.sl.1
 have HD := Lib.hid (fun i (h1 : a ≤ i) (h2 : i < C.p.run isDig 1000 a) => dig_bd (p := C.p) (k := 1000) h1 h2)
 have hn := h.ok.n
 unfold Pt.digits
 simp only
 obtain ⟨e, he⟩ : ∃ e, C.p.run isDig 1000 a = e := ⟨_, rfl⟩
 rw [he] at HR bd HD ⊢
 have hsz := sub_size C.p a e
 have HAT := Lib.hid (fun k hk => sub_at (p := C.p) hg (a := a) (b := e) (k := k) hk)
 obtain ⟨s, hs⟩ : ∃ s, C.p.sub a e = s := ⟨_, rfl⟩
 rw [hs] at HR hsz HAT
 clear h he hs hg
 obtain ⟨b1, b2, b3⟩ := bd
 go_enter Tryz.func92, Tryz.ntmps92
 go_wp2_with fail
 refine HR.out.mono ?_
 rintro e1 w1 ⟨rfl, hx, hk⟩
 have HX := Lib.hid hx
 have HK := Lib.hid hk
 have HSZ := Lib.hid hsz
 clear hx hk hsz
 go_wp2_with fail
 go_loopw [5] (fun v wr => ∃ k, k ≤ s.size ∧ wr = w1.iter s k ∧ v = .int .i64 (C.p.val a k)) (fun _ wr => s.size - wr.iterPos w1.heap.size)
 case atStart => exact ⟨0, Nat.zero_le _, rfl, rfl⟩
 case round =>
   obtain ⟨k, hk, rfl, rfl⟩ := hrel
   have hvb := val_bd (p := C.p) (a := a) k (fun i hi => HD.out (a + i) (by omega) (by have := HSZ.out; omega))
   have hv1 := hvb.1
   have hv2 := hvb.2
   clear hvb
   by_cases hp : k < s.size
   · have hd := HD.out (a + k) (by omega) (by have := HSZ.out; omega)
     have hd1 := hd.1
     have hd2 := hd.2
     clear hd
     have hat := HAT.out k hp
     have hnx : ∀ ty, (Instr.next (.pointer (some ⟨w1.heap.size, 0, none⟩)) true ty).run Tryz.prog (w1.iter s k) = .ok (.tuple #[.bool true, .int .i64 k, .int .i32 (C.p.g (a + k))]) (w1.iter s (k + 1)) := fun ty => by
       rw [run_next_any w1 s k ty hp, decode_ascii s k hp (by omega)]
       simp only
       rw [hat]
     clear hat
     go_wp2_with fail
     go_roundw
     case rel => exact ⟨k + 1, hp, rfl, by rw [val_succ]⟩
     case measure => simp; omega
   · have hnx : ∀ ty, (Instr.next (.pointer (some ⟨w1.heap.size, 0, none⟩)) true ty).run Tryz.prog (w1.iter s k) = _ := fun ty => run_next_end w1 s k ty hp
     obtain rfl : k = s.size := by omega
     by_cases hz : s.size = 0
     · have em := is_empty hz
       have HZ := Lib.hid hz
       clear hz
       go_wp2_with fail
       go_ret2
       exact ret_of (by rw [← HSZ.out, show decide (a < e) = false by have := HSZ.out; have := HZ.out; simp; omega]; rfl) rfl rfl (HX.out.below (below_iter _ _ _)) (HK.out.then (Kept.of_below (below_iter _ _ _)))
     · have em := not_empty (s := s) (by omega)
       go_wp2_with fail
       go_ret2
       exact ret_of (by rw [← HSZ.out, show decide (a < e) = true by have := HSZ.out; simp; omega]; rfl) rfl rfl (HX.out.below (below_iter _ _ _)) (HK.out.then (Kept.of_below (below_iter _ _ _)))
end Go.Proofs.YtkcmjcgjfjfimaaGreatDoor.tkw
end
