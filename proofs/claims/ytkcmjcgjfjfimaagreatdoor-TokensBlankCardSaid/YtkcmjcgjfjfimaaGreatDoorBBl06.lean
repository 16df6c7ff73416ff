/- T -/
import Derived.Deep.Onto
import Derived.Defers
import Derived.Laws.BitsLemmas
import Derived.Laws.Pointers
import Derived.Recover
import Derived.Test.YtkcmjcgjfjfimaaGreatDoorBBl05
section
namespace Go.Proofs.YtkcmjcgjfjfimaaGreatDoor.tkw
open Go Go.RowKit Go.Maps utfp utfw ucdp setp setw prp tkp
theorem mapI_made (w : World) : MapI (w.alloc (.map #[] 0)) w.heap.size 0 [] := World.ownsMap_made w _ _ _
theorem wpList_insert_i {w : World} {ops : Array Oper} {rest : List Oper} {o : Oper} {a : Act} {Q : Exit → Act → World → Prop} (hg : o.guard = none) (hd : o.dst = none) (m : Operand) (k v : Int) (hop : o.op = Op.insert 53 m (.const (.int .i64 k)) (.const (.int .i64 v)))
   (b n : Nat) (L : List (Int × Int)) (hm : a.eval m = .map (some b)) (hown : MapI w b n L) (hn : n < 1000) (hk : -9223372036854775808 ≤ k ∧ k ≤ 9223372036854775807)
   (hK : ∀ w', MapI w' b (n + 1) ((k, v) :: L) → w.grownBy w' (some b) → wpList Tryz.prog ops Q rest a w') :
   wpList Tryz.prog ops Q (o :: rest) a w := by
 refine wpList_plain hg fun K' hK' => ?_
 obtain ⟨w', hrun, r1, r2⟩ := World.ownsMap.update hown (int_keyed Tryz.underlying3) Tryz.underlying53 (by unfold maxLen; omega) (keyOf_int_mk Tryz.underlying3 (a := k) (by show (decide (-9223372036854775808 ≤ k) && decide (k ≤ 9223372036854775807)) = true; simp [hk.1, hk.2])) (show RV (.int .i64 v) = some (.held (.int .i64 v), []) from rfl)
 unfold Oper.wp
 have hx : a.eval (.const (.int .i64 k)) = .int .i64 k := rfl
 have hv : a.eval (.const (.int .i64 v)) = .int .i64 v := rfl
 simp [execOp, hop, hm, hx, hv, hrun, Result.andThen]
 refine hK' _ _ ?_
 rw [hd]
 exact hK w' r1 r2
def InsI (m : Operand) : List Oper → List (Int × Int) → Prop
 | _, [] => True
 | o :: l, p :: ins => (o.guard = none ∧ o.dst = none ∧ o.op = Op.insert 53 m (.const (.int .i64 p.1)) (.const (.int .i64 p.2))) ∧ InsI m l ins
 | [], _ :: _ => False
theorem wpList_inserts_i {ops : Array Oper} {a : Act} {Q : Exit → Act → World → Prop} (m : Operand) (b : Nat) (hm : a.eval m = .map (some b)) :
   ∀ (ins : List (Int × Int)) (l : List Oper) (w : World) (n : Nat) (L : List (Int × Int)), InsI m l ins → MapI w b n L → n + ins.length ≤ 1000 → (∀ p ∈ ins, -9223372036854775808 ≤ p.1 ∧ p.1 ≤ 9223372036854775807) →
   (∀ w', MapI w' b (n + ins.length) (ins.reverse ++ L) → w.grownBy w' (some b) → wpList Tryz.prog ops Q (l.drop ins.length) a w') → wpList Tryz.prog ops Q l a w
 | [], l, w, n, L, _, hown, _, _, h => h w hown ⟨rfl, rfl, rfl, Nat.le_refl _, fun _ _ _ => rfl⟩
 | p :: ins, [], w, n, L, hi, _, _, _, _ => hi.elim
 | p :: ins, o :: l, w, n, L, hi, hown, hn, hs, h => by
   obtain ⟨⟨h1, h2, h3⟩, h4⟩ := hi
   simp only [List.length_cons] at hn
   refine wpList_insert_i h1 h2 m _ _ h3 b n L hm hown (by omega) (hs p (List.mem_cons_self ..)) fun w1 m1 g1 => ?_
   refine wpList_inserts_i m b hm ins l w1 (n + 1) (p :: L) h4 m1 (by omega) (fun q hq => hs q (List.mem_cons_of_mem _ hq)) fun w2 m2 g2 => ?_
   have g3 : w.grownBy w2 (some b) := ⟨g2.os.trans g1.os, g2.tape.trans g1.tape, g2.output.trans g1.output, Nat.le_trans g1.size g2.size, fun k hk hne => (g2.block k (Nat.lt_of_lt_of_le hk g1.size) hne).trans (g1.block k hk hne)⟩
   refine h w2 ?_ g3
   have e1 : (p :: ins).reverse ++ L = ins.reverse ++ p :: L := by simp
   have e2 : n + (p :: ins).length = n + 1 + ins.length := by simp only [List.length_cons]; omega
   rw [e1, e2]
   exact m2
theorem insI_cons {m : Operand} {o : Oper} {l : List Oper} {p : Int × Int} {ins : List (Int × Int)} (h : o.guard = none ∧ o.dst = none ∧ o.op = Op.insert 53 m (.const (.int .i64 p.1)) (.const (.int .i64 p.2))) (h2 : InsI m l ins) : InsI m (o :: l) (p :: ins) := ⟨h, h2⟩
theorem insI_nil {m : Operand} {l : List Oper} : InsI m l [] := by cases l <;> exact trivial
def escI : List (Int × Int) := [(97, 7), (101, 27), (102, 12), (110, 10), (114, 13), (116, 9)]
def assI : List (Int × Int) := [(98, 3), (66, 4), (65, 5), (122, 6), (90, 7), (71, 8)]
def optI : List (Int × Int) := [(105, 1), (109, 2), (115, 4), (85, 16)]
def MapN (L : List (Int × Int)) (w : World) (e : Ending) (w' : World) : Prop := ∃ b n, e = .returned (.map (some b)) ∧ MapI w' b n L ∧ Below w.heap.size w w' ∧ w.heap.size ≤ b
theorem below_mapI {w0 w w' : World} {b : Nat} (h : Below w0.heap.size w0 w) (hg : w.grownBy w' (some b)) (hb : w0.heap.size ≤ b) : Below w0.heap.size w0 w' := h.grown hg h.size fun k hk => by cases hk; exact hb
set_option maxRecDepth 100000 in
set_option maxHeartbeats 4000000 in
theorem escapes_any (w : World) : Calls Tryz.prog 18 #[] w (MapN escL w) := by
 have hmm := @run_makeMap Tryz.prog
 have HM := Lib.hid (mapI_made w)
 go_enter Tryz.func18, Tryz.ntmps18
 go_wp2_with (refine wpList_inserts_i (.tmp 1) w.heap.size rfl escI _ _ 0 [] (by unfold escI; repeat' (first | exact insI_nil | refine insI_cons ⟨rfl, rfl, rfl⟩ ?_)) HM.out (by decide) (by decide) ?_; intro w1 hm1 hg1; have HM1 := Lib.hid hm1; have HG1 := Lib.hid hg1; clear hm1 hg1)
 go_ret
 exact ⟨w.heap.size, 0 + escI.length, rfl, HM1.out, below_mapI (below_al w _) HG1.out (Nat.le_refl _), Nat.le_refl _⟩
set_option maxRecDepth 100000 in
set_option maxHeartbeats 4000000 in
theorem asserts_any (w : World) : Calls Tryz.prog 19 #[] w (MapN assL w) := by
 have hmm := @run_makeMap Tryz.prog
 have HM := Lib.hid (mapI_made w)
 go_enter Tryz.func19, Tryz.ntmps19
 go_wp2_with (refine wpList_inserts_i (.tmp 1) w.heap.size rfl assI _ _ 0 [] (by unfold assI; repeat' (first | exact insI_nil | refine insI_cons ⟨rfl, rfl, rfl⟩ ?_)) HM.out (by decide) (by decide) ?_; intro w1 hm1 hg1; have HM1 := Lib.hid hm1; have HG1 := Lib.hid hg1; clear hm1 hg1)
 go_ret
 exact ⟨w.heap.size, 0 + assI.length, rfl, HM1.out, below_mapI (below_al w _) HG1.out (Nat.le_refl _), Nat.le_refl _⟩
set_option maxRecDepth 100000 in
set_option maxHeartbeats 4000000 in
theorem options_any (w : World) : Calls Tryz.prog 20 #[] w (MapN optL w) := by
 have hmm := @run_makeMap Tryz.prog
 have HM := Lib.hid (mapI_made w)
 go_enter Tryz.func20, Tryz.ntmps20
 go_wp2_with (refine wpList_inserts_i (.tmp 1) w.heap.size rfl optI _ _ 0 [] (by unfold optI; repeat' (first | exact insI_nil | refine insI_cons ⟨rfl, rfl, rfl⟩ ?_)) HM.out (by decide) (by decide) ?_; intro w1 hm1 hg1; have HM1 := Lib.hid hm1; have HG1 := Lib.hid hg1; clear hm1 hg1)
 go_ret
 exact ⟨w.heap.size, 0 + optI.length, rfl, HM1.out, below_mapI (below_al w _) HG1.out (Nat.le_refl _), Nat.le_refl _⟩
end Go.Proofs.YtkcmjcgjfjfimaaGreatDoor.tkw
end
section
namespace Go.Proofs.YtkcmjcgjfjfimaaGreatDoor.tkp
open Go utfp ucdp setp prp tkw
def Er (p : Pt) (x : Int × Int) : Prop := 1 ≤ x.1 ∧ x.1 ≤ 45 ∧ 0 ≤ x.2 ∧ x.2 ≤ p.n
def OkR (p : Pt) {α : Type} (P : α → Prop) : R α → Prop
 | .error x => Er p x
 | .ok r => P r
theorem er_at {p : Pt} {e : Int} {f : Nat} (he : 1 ≤ e ∧ e ≤ 45) (hf : f ≤ p.n) : Er p (e, (f : Int)) := ⟨he.1, he.2, by show (0 : Int) ≤ (f : Int); omega, by show (f : Int) ≤ p.n; omega⟩
theorem OkR.err {p : Pt} {α : Type} {P : α → Prop} {r : R α} {x : Int × Int} (h : OkR p P r) (e : r = .error x) : Er p x := by subst e; exact h
theorem OkR.val {p : Pt} {α : Type} {P : α → Prop} {r : R α} {v : α} (h : OkR p P r) (e : r = .ok v) : P v := by subst e; exact h
theorem has1 {p : Pt} {c : UInt8} {a : Nat} (ha : a ≤ p.n) (h : p.has [c] a = true) : a + 1 ≤ p.n := by simpa using has_le ha h
theorem has2 {p : Pt} {c d : UInt8} {a : Nat} (ha : a ≤ p.n) (h : p.has [c, d] a = true) : a + 2 ≤ p.n := by simpa using has_le ha h
theorem number_ok {p : Pt} {f a : Nat} (hf : f ≤ p.n) (ha : a ≤ p.n) : OkR p (fun r => a ≤ r.2 ∧ r.2 ≤ p.n) (p.number f a) := by
 unfold Pt.number
 split
 ·exact er_at (by omega) hf
 ·have := digits_bd ha
  exact this.2.2
theorem signed_ok {p : Pt} {f a : Nat} (hf : f ≤ p.n) (ha : a ≤ p.n) : OkR p (fun r => ∀ n m b, r = some (n, m, b) → a < b ∧ b ≤ p.n) (p.signed f a) := by
 have h1 := sign_bd ha
 unfold Pt.signed
 split
 ·rename_i e he; exact (number_ok hf h1.2).err he
 ·rename_i n b hb
  have := (number_ok hf h1.2).val hb
  split
  ·intro _ _ _ e; cases e
  ·intro _ _ _ e
   cases e
   omega
theorem braces_ok {p : Pt} {f : Nat} (hf : f ≤ p.n) : OkR p (fun r => ∀ n m b, r = some (n, m, b) → f < b ∧ b ≤ p.n) (p.braces f) := by
 cases h : p.braces f with
 | ok r => intro n m b e; subst e; exact braces_bd hf h
 | error x =>
  unfold Pt.braces at h
  repeat' split at h
  all_goals first
   | (cases h; exact er_at (by omega) hf)
   | cases h
theorem hexa_ok {p : Pt} {f a : Nat} (hf : f ≤ p.n) (ha : a ≤ p.n) : OkR p (fun r => a ≤ r.2 ∧ r.2 ≤ p.n) (p.hexa f a) := by
 unfold Pt.hexa
 split
 ·rename_i h1
  have h2 := hexd_bd (p := p) (most := 6) (a := a + 1) (has1 ha h1)
  split
  ·exact er_at (by omega) hf
  ·rename_i h3
   have h4 : p.has [125] (p.hexd 6 (a + 1)).2 = true := by
    cases h : p.has [125] (p.hexd 6 (a + 1)).2
    ·exact absurd (Or.inr (Or.inl h)) h3
    ·rfl
   have := has1 h2.2 h4
   show a ≤ (p.hexd 6 (a + 1)).2 + 1 ∧ (p.hexd 6 (a + 1)).2 + 1 ≤ p.n
   omega
 ·exact hexd_bd ha
theorem until_bd {p : Pt} {c : Int} {a i : Nat} (h : p.until c a = some i) : a ≤ i ∧ i + 1 ≤ p.n := by
 have := find_bd h
 omega
theorem propName_bd {p : Pt} (hg : ∀ i, 0 ≤ p.g i ∧ p.g i ≤ 255) {a : Nat} (ha : a ≤ p.n) : a ≤ (p.propName a).2 ∧ (p.propName a).2 ≤ p.n := by
 refine ⟨propName_ge hg ha, ?_⟩
 unfold Pt.propName
 split
 ·rename_i h1
  split
  ·exact has1 ha h1
  ·rename_i i hi
   exact (until_bd hi).2
 ·exact (char_pure hg ha).2.2.1
def Kd (t : Tk) : Prop := 1 ≤ t.kind ∧ t.kind ≤ 15
theorem prop_ok {p : Pt} (hg : ∀ i, 0 ≤ p.g i ∧ p.g i ≤ 255) {f a : Nat} {neg : Bool} (hf : f ≤ p.n) (ha : a ≤ p.n) : OkR p (fun r => a ≤ r.2 ∧ r.2 ≤ p.n ∧ Kd r.1) (p.prop f a neg) := by
 unfold Pt.prop
 have := propName_bd hg ha
 split
 ·exact ⟨this.1, this.2, by simp [Kd]⟩
 ·exact er_at (by omega) hf
theorem common_ok {p : Pt} (hg : ∀ i, 0 ≤ p.g i ∧ p.g i ≤ 255) {f a : Nat} {c : Int} (hf : f ≤ p.n) (ha : a ≤ p.n) : OkR p (fun r => ∀ t b, r = some (t, b) → a ≤ b ∧ b ≤ p.n ∧ Kd t) (p.common f c a) := by
 unfold Pt.common
 split
 ·intro t b e; cases e; exact ⟨Nat.le_refl _, ha, by simp [Kd]⟩
 ·split
  ·split
   ·rename_i e he; exact (hexa_ok hf ha).err he
   ·rename_i v b hb
    have := (hexa_ok hf ha).val hb
    intro t b e; cases e; exact ⟨this.1, this.2, by simp [Kd]⟩
  ·split
   ·split
    ·rename_i e he; exact (prop_ok hg hf ha).err he
    ·rename_i r hr
     have := (prop_ok hg hf ha).val hr
     intro t b e; cases e; exact this
   ·split
    ·intro t b e; cases e; exact ⟨Nat.le_refl _, ha, by simp [Kd]⟩
    ·intro t b e; cases e
theorem posix_ok {p : Pt} {f : Nat} (hf : f ≤ p.n) : OkR p (fun r => ∀ t b, r = some (t, b) → f < b ∧ b ≤ p.n ∧ Kd t) (p.posix f) := by
 unfold Pt.posix
 split
 ·rename_i h1
  have hl := has2 hf h1
  have hb : f + 2 ≤ (if p.has [94] (f + 2) = true then f + 3 else f + 2) ∧ (if p.has [94] (f + 2) = true then f + 3 else f + 2) ≤ p.n := by
   split
   ·rename_i h2
    have := has1 hl h2
    omega
   ·omega
  generalize (if p.has [94] (f + 2) = true then f + 3 else f + 2) = bg at *
  simp only
  have h3 := run_bd (p := p) (fits := isLet) (k := 1000) hb.2
  split
  ·rename_i h4
   have := has2 h3.2.1 h4
   split
   ·intro t b e; cases e; exact ⟨by omega, by omega, by simp [Kd]⟩
   ·exact er_at (by omega) hf
  ·intro t b e; cases e
 ·intro t b e; cases e
theorem er_end {p : Pt} : Er p (20, (p.n : Int)) := er_at (by omega) (Nat.le_refl _)
theorem classEsc_ok {p : Pt} (hg : ∀ i, 0 ≤ p.g i ∧ p.g i ≤ 255) {f a : Nat} (hf : f ≤ p.n) (ha : a ≤ p.n) : OkR p (fun r => a ≤ r.2 ∧ r.2 ≤ p.n ∧ Kd r.1) (p.classEsc f a) := by
 obtain ⟨_, q2, q3, _⟩ := char_pure hg ha
 unfold Pt.classEsc
 split
 ·exact er_end
 ·split
  ·rename_i e he; exact (common_ok hg hf q3).err he
  ·rename_i r hr
   have := (common_ok hg hf q3).val hr r.1 r.2 rfl
   exact ⟨by omega, this.2⟩
  ·split
   ·exact ⟨q2, q3, by simp [Kd]⟩
   ·split
    ·exact er_at (by omega) hf
    ·exact ⟨q2, q3, by simp [Kd]⟩
theorem item_ok {p : Pt} (hg : ∀ i, 0 ≤ p.g i ∧ p.g i ≤ 255) {a : Nat} (ha : a ≤ p.n) : OkR p (fun r => a < r.2 ∧ r.2 ≤ p.n ∧ Kd r.1) (p.item a) := by
 obtain ⟨_, q2, q3, q4⟩ := char_pure hg ha
 unfold Pt.item
 split
 ·exact er_end
 ·rename_i hne
  have hlt := q4 (by omega)
  split
  ·rename_i e he; exact (posix_ok ha).err he
  ·rename_i r hr
   exact (posix_ok ha).val hr r.1 r.2 rfl
  ·split
   ·have := classEsc_ok (p := p) hg (f := a) ha q3
    cases h : p.classEsc a (p.char a).2 with
    | error x => exact this.err h
    | ok r => have := this.val h; exact ⟨by omega, this.2⟩
   ·exact ⟨hlt, q3, by simp [Kd]⟩
theorem items_ok {p : Pt} (hg : ∀ i, 0 ≤ p.g i ∧ p.g i ≤ 255) {a : Nat} (ha : a ≤ p.n) : OkR p (fun r => a < r.2 ∧ r.2 ≤ p.n) (p.items a) := by
 unfold Pt.items
 split
 ·rename_i e he; exact (item_ok hg ha).err he
 ·rename_i c b hb
  have h1 := (item_ok hg ha).val hb
  split
  ·rename_i hd
   have hb1 : b + 1 ≤ p.n := by
    unfold Pt.dash at hd
    simp only [Bool.and_eq_true] at hd
    exact has1 h1.2.1 hd.2.2
   split
   ·rename_i e he; exact (item_ok hg hb1).err he
   ·rename_i d b' hb'
    have h2 := (item_ok hg hb1).val hb'
    split
    ·exact er_at (by omega) ha
    ·show a < b' ∧ b' ≤ p.n
     simp only at h1 h2
     omega
  ·exact ⟨h1.1, h1.2.1⟩
theorem more_ok {p : Pt} (hg : ∀ i, 0 ≤ p.g i ∧ p.g i ≤ 255) : ∀ {k : Nat} {l : List Rg} {a : Nat}, a ≤ p.n → OkR p (fun r => a < r.2 ∧ r.2 ≤ p.n) (p.more k l a)
 | 0, _, _, _ => er_end
 | k + 1, l, a, ha => by
  unfold Pt.more
  split
  ·rename_i h1
   have := has1 ha h1
   exact ⟨Nat.lt_succ_self _, this⟩
  ·split
   ·rename_i e he; exact (items_ok hg ha).err he
   ·rename_i m b hb
    have h1 := (items_ok hg ha).val hb
    have h2 := more_ok (p := p) hg (k := k) (l := l ++ m) h1.2
    cases h : p.more k (l ++ m) b with
    | error x => exact h2.err h
    | ok r => have := h2.val h; exact ⟨by simp only at h1; omega, this.2⟩
theorem cls_ok {p : Pt} (hg : ∀ i, 0 ≤ p.g i ∧ p.g i ≤ 255) {a : Nat} (ha : a ≤ p.n) : OkR p (fun r => a < r.2 ∧ r.2 ≤ p.n ∧ Kd r.1) (p.cls a) := by
 have hb : a ≤ (if p.has [94] a = true then a + 1 else a) ∧ (if p.has [94] a = true then a + 1 else a) ≤ p.n := by
  split
  ·rename_i h
   have := has1 ha h
   omega
  ·omega
 unfold Pt.cls
 split
 ·rename_i e he; exact (items_ok hg hb.2).err he
 ·rename_i l b hl
  have h1 := (items_ok hg hb.2).val hl
  split
  ·rename_i e he; exact (more_ok hg h1.2).err he
  ·rename_i l' b' hl'
   have h2 := (more_ok hg h1.2).val hl'
   simp only at h1 h2
   exact ⟨by show a < b'; omega, h2.2, by simp [Kd]⟩
theorem refer_ok {p : Pt} {f a : Nat} (hf : f ≤ p.n) (ha : a ≤ p.n) : OkR p (fun r => a ≤ r.2 ∧ r.2 ≤ p.n ∧ Kd r.1) (p.refer f a) := by
 have hq : a ≤ (p.quotes a).2.2 ∧ (p.quotes a).2.2 ≤ p.n ∧ ((p.quotes a).1 = 11 ∨ (p.quotes a).1 = 12) := by
  unfold Pt.quotes
  repeat' split
  all_goals first
   | (rename_i h; have := has1 ha h; refine ⟨?_, ?_, ?_⟩ <;> first | omega | simp)
   | (refine ⟨?_, ?_, ?_⟩ <;> first | omega | simp)
 have nm := name_ge hq.2.1
 unfold Pt.refer
 split
 ·rename_i e he; exact (signed_ok hf hq.2.1).err he
 ·rename_i n m b hb
  have h1 := (signed_ok hf hq.2.1).val hb _ _ _ rfl
  split
  ·exact er_at (by omega) hf
  ·rename_i h3
   have h4 := has_le h1.2 (by simpa using h3)
   split
   ·exact er_at (by omega) hf
   ·refine ⟨?_, h4, ?_⟩
    ·show a ≤ b + _
     omega
    ·have := hq.2.2
     simp only [Kd]
     omega
 ·split
  ·exact er_at (by omega) hf
  ·rename_i h3
   simp only [not_or] at h3
   have h4 := has_le nm.2 (by simpa using h3.2.2)
   refine ⟨?_, h4, ?_⟩
   ·show a ≤ _ + _
    omega
   ·have := hq.2.2
    simp only [Kd]
    omega
theorem nback_ok {p : Pt} {f a : Nat} (hf : f ≤ p.n) (ha : a ≤ p.n) : OkR p (fun r => a ≤ r.2 ∧ r.2 ≤ p.n ∧ Kd r.1) (p.nback f a) := by
 have hq : a ≤ (p.quotes a).2.2 ∧ (p.quotes a).2.2 ≤ p.n := by
  unfold Pt.quotes
  repeat' split
  all_goals first
   | (rename_i h; have := has1 ha h; simp only; omega)
   | (simp only; omega)
 have nm := name_ge hq.2
 unfold Pt.nback
 split
 ·exact er_at (by omega) hf
 ·rename_i h3
  simp only [not_or] at h3
  have h4 := has_le nm.2 (by simpa using h3.2.2)
  exact ⟨by show a ≤ _ + _; omega, h4, by simp [Kd]⟩
def Rise : Nat → List Tk → Nat → Prop
 | a, [], b => a ≤ b
 | a, t :: l, b => a ≤ t.at_ ∧ t.at_ < t.to ∧ Kd t ∧ Rise t.to l b
theorem Rise.le : ∀ {l : List Tk} {a b : Nat}, Rise a l b → a ≤ b
 | [], _, _, h => h
 | t :: l, a, b, h => by have := Rise.le h.2.2.2; have := h.1; have := h.2.1; omega
theorem Rise.app : ∀ {l m : List Tk} {a b c : Nat}, Rise a l b → Rise b m c → Rise a (l ++ m) c
 | [], m, a, b, c, h, k => by
  cases m with
  | nil => exact Nat.le_trans h k
  | cons t m => exact ⟨Nat.le_trans h k.1, k.2⟩
 | t :: l, m, a, b, c, h, k => ⟨h.1, h.2.1, h.2.2.1, Rise.app h.2.2.2 k⟩
def Pc (p : Pt) (f : Nat) (r : List Tk × Nat) : Prop := f < r.2 ∧ r.2 ≤ p.n ∧ Rise f r.1 r.2
theorem one_ok {p : Pt} {f a : Nat} {r : R (Tk × Nat)} (hfa : f < a) (h : OkR p (fun r => a ≤ r.2 ∧ r.2 ≤ p.n ∧ Kd r.1) r) : OkR p (Pc p f) (one f r) := by
 cases r with
 | error x => exact h
 | ok v =>
  obtain ⟨t, b⟩ := v
  obtain ⟨h1, h2, h3⟩ := h
  exact ⟨Nat.lt_of_lt_of_le hfa h1, h2, Nat.le_refl _, Nat.lt_of_lt_of_le hfa h1, h3, Nat.le_refl _⟩
theorem quoted_ok {p : Pt} (hg : ∀ i, 0 ≤ p.g i ∧ p.g i ≤ 255) : ∀ {k a : Nat}, a ≤ p.n → (p.quoted k a).2 ≤ p.n ∧ Rise a (p.quoted k a).1 (p.quoted k a).2
 | 0, a, h => ⟨h, Nat.le_refl _⟩
 | k + 1, a, h => by
  unfold Pt.quoted
  obtain ⟨_, _, q3, q4⟩ := char_pure hg h
  split
  ·exact ⟨h, Nat.le_refl _⟩
  ·rename_i hne
   split
   ·rename_i h2
    exact ⟨has2 h h2, Nat.le_add_right _ _⟩
   ·have := quoted_ok (p := p) hg (k := k) q3
    exact ⟨this.1, Nat.le_refl _, q4 (by omega), by simp [Kd, lay], this.2⟩
theorem escape_ok {p : Pt} (hg : ∀ i, 0 ≤ p.g i ∧ p.g i ≤ 255) {f a : Nat} (hfa : f < a) (ha : a ≤ p.n) : OkR p (Pc p f) (p.escape f a) := by
 have hf : f ≤ p.n := by omega
 obtain ⟨_, q2, q3, _⟩ := char_pure hg ha
 have hb : f < (p.char a).2 := by omega
 unfold Pt.escape
 by_cases e : a = p.n
 ·rw [if_pos e]; exact er_end
 ·rw [if_neg e]
  generalize p.char a = cb at *
  obtain ⟨c, b⟩ := cb
  dsimp only at q2 q3 hb ⊢
  have leaf : ∀ t : Tk, Kd t → OkR p (Pc p f) (one f (.ok (t, b))) := fun t ht => one_ok hb ⟨Nat.le_refl _, q3, ht⟩
  cases hc : p.common f c b with
  | error x => exact (common_ok hg hf q3).err hc
  | ok o =>
   cases o with
   | some r => exact one_ok hb ((common_ok hg hf q3).val hc r.1 r.2 rfl)
   | none =>
    dsimp only
    by_cases k1 : assertE c ≠ 0
    ·rw [if_pos k1]; exact leaf _ (by simp [Kd])
    rw [if_neg k1]
    by_cases k2 : c = 81
    ·rw [if_pos k2]
     have := quoted_ok (p := p) hg (k := p.n - b) q3
     have hle := this.2.le
     exact ⟨by show f < _; omega, this.1, Rise.app (l := []) (show f ≤ b by omega) this.2⟩
    rw [if_neg k2]
    by_cases k3 : c = 69
    ·rw [if_pos k3]; exact ⟨hb, q3, by show f ≤ _; omega⟩
    rw [if_neg k3]
    by_cases k4 : c = 78
    ·rw [if_pos k4]; exact leaf _ (by simp [Kd])
    rw [if_neg k4]
    by_cases k5 : c = 75
    ·rw [if_pos k5]; exact leaf _ (by simp [Kd])
    rw [if_neg k5]
    by_cases k6 : c = 82
    ·rw [if_pos k6]; exact leaf _ (by simp [Kd])
    rw [if_neg k6]
    by_cases k7 : c = 103
    ·rw [if_pos k7]; exact one_ok hb (refer_ok hf q3)
    rw [if_neg k7]
    by_cases k8 : c = 107
    ·rw [if_pos k8]; exact one_ok hb (nback_ok hf q3)
    rw [if_neg k8]
    by_cases k9 : c ≠ 48 ∧ isDig c = true
    ·rw [if_pos k9]
     cases hn : p.number f a with
     | error x => exact (number_ok hf ha).err hn
     | ok r =>
      have := (number_ok hf ha).val hn
      exact one_ok hfa ⟨this.1, this.2, by simp [Kd]⟩
    rw [if_neg k9]
    by_cases k10 : c = 48 ∨ isLet c = true
    ·rw [if_pos k10]; exact er_at (by omega) hf
    rw [if_neg k10]
    exact leaf _ (by simp [Kd])
theorem broken_ok {p : Pt} {f a : Nat} (hf : f ≤ p.n) : Er p (p.broken f a) := by
 unfold Pt.broken
 split
 ·exact er_end
 ·exact er_at (by omega) hf
theorem close_ok {p : Pt} {f a : Nat} (hf : f ≤ p.n) (ha : a ≤ p.n) : OkR p (fun b => a ≤ b ∧ b ≤ p.n) (p.close f a) := by
 unfold Pt.close
 split
 ·rename_i h; have := has1 ha h; exact ⟨Nat.le_succ _, this⟩
 ·exact broken_ok hf
theorem plainK_ok {p : Pt} {a : Nat} (ha : a ≤ p.n) : ∀ {l : List (List UInt8 × Int)} {t : Tk} {b : Nat}, p.plainK a l = some (t, b) → a ≤ b ∧ b ≤ p.n ∧ Kd t
 | [], _, _, h => by cases h
 | (s, k) :: l, t, b, h => by
  unfold Pt.plainK at h
  split at h
  ·rename_i h1
   have := has_le ha h1
   cases h
   exact ⟨Nat.le_add_right _ _, this, by simp [Kd]⟩
  ·exact plainK_ok ha h
theorem naming_ok {p : Pt} {f a : Nat} (hf : f ≤ p.n) (ha : a ≤ p.n) : ∀ {l : List (List UInt8 × List UInt8 × Int × Int × Int)}, (∀ x ∈ l, 1 ≤ x.2.2.1 ∧ x.2.2.1 ≤ 15) → OkR p (fun r => ∀ t b, r = some (t, b) → a ≤ b ∧ b ≤ p.n ∧ Kd t) (p.naming f a l)
 | [], _ => by intro t b e; cases e
 | (s, z, k, n, m) :: l, hl => by
  unfold Pt.naming
  split
  ·rename_i h1
   have h2 := has_le ha h1
   have h3 := name_ge h2
   split
   ·exact er_end
   ·split
    ·exact er_at (by omega) hf
    ·rename_i h4
     simp only [not_or] at h4
     have h5 := has_le h3.2 (by simpa using h4.2)
     intro t b e
     cases e
     exact ⟨by omega, h5, hl _ (List.mem_cons_self ..)⟩
  ·exact naming_ok hf ha fun x hx => hl x (List.mem_cons_of_mem _ hx)
theorem counted_ok {p : Pt} {f a : Nat} (hf : f ≤ p.n) (ha : a ≤ p.n) : OkR p (fun r => ∀ t b, r = some (t, b) → a ≤ b ∧ b ≤ p.n ∧ Kd t) (p.counted f a) := by
 unfold Pt.counted
 split
 ·rename_i e he; exact (signed_ok hf ha).err he
 ·intro t b e; cases e
 ·rename_i n m b hb
  have h1 := (signed_ok hf ha).val hb _ _ _ rfl
  split
  ·rename_i e he; exact (close_ok hf h1.2).err he
  ·rename_i b' hb'
   have h2 := (close_ok hf h1.2).val hb'
   split
   ·exact er_at (by omega) hf
   ·intro t b e; cases e; exact ⟨by omega, h2.2, by simp [Kd]⟩
theorem letters_bd {p : Pt} {a : Nat} (ha : a ≤ p.n) : a ≤ (p.letters a).2 ∧ (p.letters a).2 ≤ p.n := by
 have := run_bd (p := p) (fits := isOpt) (k := 1000) ha
 exact ⟨this.1, this.2.1⟩
theorem minus_bd {p : Pt} {a : Nat} (ha : a ≤ p.n) : a ≤ (p.minus a).2 ∧ (p.minus a).2 ≤ p.n := by
 unfold Pt.minus
 split
 ·rename_i h
  have := letters_bd (has1 ha h)
  omega
 ·exact ⟨Nat.le_refl _, ha⟩
theorem settings_ok {p : Pt} {f a : Nat} (hf : f ≤ p.n) (ha : a ≤ p.n) : OkR p (fun r => a ≤ r.2 ∧ r.2 ≤ p.n ∧ Kd r.1) (p.settings f a) := by
 have h1 := letters_bd ha
 have h2 := minus_bd h1.2
 unfold Pt.settings
 simp only
 split
 ·rename_i h
  have := has1 h2.2 h
  exact ⟨by show a ≤ _ + 1; omega, this, by simp [Kd]⟩
 ·split
  ·rename_i e he; exact (close_ok hf h2.2).err he
  ·rename_i b hb
   have := (close_ok hf h2.2).val hb
   exact ⟨by show a ≤ b; omega, this.2, by simp [Kd]⟩
theorem test_ok {p : Pt} {f a : Nat} (hf : f ≤ p.n) (ha : a ≤ p.n) : OkR p (fun r => ∀ t b, r = some (t, b) → a ≤ b ∧ b ≤ p.n ∧ Kd t) (p.test f a) := by
 unfold Pt.test
 split
 ·rename_i h
  have := has_le ha h
  intro t b e; cases e; exact ⟨by omega, by simpa using this, by simp [Kd]⟩
 ·split
  ·rename_i h
   have h2 := name_ge (has2 ha h)
   intro t b e
   split at e
   ·cases e; exact ⟨by omega, h2.2, by simp [Kd]⟩
   ·cases e
  ·split
   ·rename_i h
    have h1 := has1 ha h
    split
    ·rename_i e he; exact (number_ok hf h1).err he
    ·rename_i n b hb
     have := (number_ok hf h1).val hb
     intro t b e; cases e; exact ⟨by simp only at this; omega, this.2, by simp [Kd]⟩
   ·split
    ·rename_i h
     have h2 := name_ge (has1 ha h)
     intro t b e
     split at e
     ·rename_i h3
      have := has1 h2.2 h3.2
      cases e; exact ⟨by omega, this, by simp [Kd]⟩
     ·cases e
    ·split
     ·rename_i h
      have h2 := name_ge (has1 ha h)
      intro t b e
      split at e
      ·rename_i h3
       have := has1 h2.2 h3.2
       cases e; exact ⟨by omega, this, by simp [Kd]⟩
      ·cases e
     ·split
      ·rename_i e he; exact (signed_ok hf ha).err he
      ·intro t b e; cases e
      ·rename_i n m b hb
       have := (signed_ok hf ha).val hb _ _ _ rfl
       intro t b e; cases e; exact ⟨by omega, this.2, by simp [Kd]⟩
theorem cond_ok {p : Pt} {f a : Nat} (hf : f ≤ p.n) (ha : a + 1 ≤ p.n) : OkR p (fun r => a ≤ r.2 ∧ r.2 ≤ p.n ∧ Kd r.1) (p.cond f a) := by
 unfold Pt.cond
 split
 ·exact ⟨Nat.le_refl _, by show a ≤ p.n; omega, by simp [Kd]⟩
 ·split
  ·rename_i e he; exact (test_ok hf ha).err he
  ·exact er_at (by omega) hf
  ·rename_i t b hb
   have h1 := (test_ok hf ha).val hb _ _ rfl
   split
   ·exact er_at (by omega) hf
   ·rename_i h2
    have h3 := has1 h1.2.1 (by simpa using h2)
    split
    ·exact er_at (by omega) hf
    ·exact ⟨by show a ≤ b + 1; omega, h3, h1.2.2⟩
theorem verb_ok {p : Pt} {f a : Nat} (hf : f ≤ p.n) : OkR p (fun r => a ≤ r.2 ∧ r.2 ≤ p.n ∧ Kd r.1) (p.verb f a) := by
 unfold Pt.verb
 split
 ·exact er_end
 ·rename_i i hi
  have := until_bd hi
  simp only
  split
  ·exact er_at (by omega) hf
  ·exact ⟨by show a ≤ i + 1; omega, this.2, by simp [Kd]⟩
theorem special_ok {p : Pt} {f a : Nat} (hfa : f < a) (ha : a ≤ p.n) : OkR p (Pc p f) (p.special f a) := by
 have hf : f ≤ p.n := by omega
 unfold Pt.special
 split
 ·rename_i r hr
  exact one_ok hfa (plainK_ok ha hr)
 ·have hnt : ∀ x ∈ namingsT, 1 ≤ x.2.2.1 ∧ x.2.2.1 ≤ 15 := by decide
  split
  ·rename_i e he; exact (naming_ok hf ha hnt).err he
  ·rename_i r hr
   exact one_ok hfa ((naming_ok hf ha hnt).val hr _ _ rfl)
  ·split
   ·rename_i e he; exact (counted_ok hf ha).err he
   ·rename_i r hr
    exact one_ok hfa ((counted_ok hf ha).val hr _ _ rfl)
   ·split
    ·rename_i h
     split
     ·exact er_end
     ·rename_i i hi
      have := until_bd hi
      exact ⟨by show f < i + 1; omega, this.2, by show f ≤ i + 1; omega⟩
    ·split
     ·rename_i h
      exact one_ok hfa (cond_ok hf (has1 ha h))
     ·split
      ·rename_i h
       have h1 := has1 ha h
       refine one_ok hfa ?_
       split
       ·rename_i e he; exact (close_ok hf h1).err he
       ·rename_i b hb
        have := (close_ok hf h1).val hb
        exact ⟨by show a ≤ b; omega, this.2, by simp [Kd]⟩
      ·split
       ·rename_i h
        have h1 := has1 ha h
        refine one_ok hfa ?_
        split
        ·rename_i e he; exact (number_ok hf h1).err he
        ·rename_i n b hb
         have h2 := (number_ok hf h1).val hb
         split
         ·rename_i e he; exact (close_ok hf h2.2).err he
         ·rename_i b' hb'
          have := (close_ok hf h2.2).val hb'
          simp only at h2
          exact ⟨by show a ≤ b'; omega, this.2, by simp [Kd]⟩
       ·split
        ·exact broken_ok hf
        ·exact one_ok hfa (settings_ok hf ha)
theorem group_ok {p : Pt} {f a : Nat} (hfa : f < a) (ha : a ≤ p.n) : OkR p (Pc p f) (p.group f a) := by
 have hf : f ≤ p.n := by omega
 unfold Pt.group
 split
 ·rename_i h
  have := has1 ha h
  exact one_ok (a := a + 1) (by omega) (verb_ok hf)
 ·split
  ·rename_i h
   exact special_ok (by omega) (has1 ha h)
  ·exact one_ok hfa ⟨Nat.le_refl _, ha, by simp [Kd]⟩
theorem quant_ok {p : Pt} {f : Nat} (hf : f ≤ p.n) : OkR p (fun r => ∀ t b, r = some (t, b) → f + 1 ≤ b ∧ b ≤ p.n ∧ Kd t) (p.quant f) := by
 unfold Pt.quant
 split
 ·rename_i h
  have := mode_bd (has1 hf h)
  intro t b e; cases e; exact ⟨this.1, this.2, by simp [Kd]⟩
 ·split
  ·rename_i h
   have := mode_bd (has1 hf h)
   intro t b e; cases e; exact ⟨this.1, this.2, by simp [Kd]⟩
  ·split
   ·rename_i h
    have := mode_bd (has1 hf h)
    intro t b e; cases e; exact ⟨this.1, this.2, by simp [Kd]⟩
   ·split
    ·rename_i e he; exact (braces_ok hf).err he
    ·intro t b e; cases e
    ·rename_i n m b hb
     have h1 := (braces_ok hf).val hb _ _ _ rfl
     have := mode_bd h1.2
     intro t b e; cases e; exact ⟨by omega, this.2, by simp [Kd]⟩
theorem ign_bd {p : Pt} {c : Int} {a b : Nat} (ha : a ≤ p.n) (h : p.ign c a = some b) : a ≤ b ∧ b ≤ p.n := by
 unfold Pt.ign at h
 split at h
 ·cases h
 ·split at h
  ·split at h
   ·cases h; exact ⟨ha, Nat.le_refl _⟩
   ·rename_i i hi
    have := until_bd hi
    cases h
    omega
  ·split at h
   ·cases h; exact ⟨Nat.le_refl _, ha⟩
   ·cases h
theorem token_ok {p : Pt} (hg : ∀ i, 0 ≤ p.g i ∧ p.g i ≤ 255) {f : Nat} (hf : f < p.n) : OkR p (Pc p f) (p.token f) := by
 have hle : f ≤ p.n := by omega
 obtain ⟨_, _, q3, q4⟩ := char_pure hg hle
 have hb := q4 hf
 have leaf : ∀ t : Tk, Kd t → OkR p (Pc p f) (one f (.ok (t, (p.char f).2))) := fun t ht => one_ok hb ⟨Nat.le_refl _, q3, ht⟩
 unfold Pt.token
 split
 ·rename_i e he; exact (quant_ok hle).err he
 ·rename_i r hr
  exact one_ok (Nat.lt_succ_self _) ((quant_ok hle).val hr _ _ rfl)
 ·simp only
  split
  ·exact escape_ok hg hb q3
  ·split
   ·refine one_ok hb ?_
    cases h : p.cls (p.char f).2 with
    | error x => exact (cls_ok hg q3).err h
    | ok r => have := (cls_ok hg q3).val h; exact ⟨Nat.le_of_lt this.1, this.2⟩
   ·split
    ·exact group_ok hb q3
    ·split
     ·exact leaf _ (by simp [Kd])
     ·split
      ·exact leaf _ (by simp [Kd])
      ·split
       ·exact leaf _ (by simp [Kd])
       ·split
        ·exact leaf _ (by simp [Kd])
        ·split
         ·exact leaf _ (by simp [Kd])
         ·split
          ·rename_i b' hb'
           have := ign_bd q3 hb'
           exact ⟨by show f < b'; omega, this.2, by show f ≤ b'; omega⟩
          ·exact leaf _ (by simp [Kd])
end Go.Proofs.YtkcmjcgjfjfimaaGreatDoor.tkp
end
section
namespace Go.Proofs.YtkcmjcgjfjfimaaGreatDoor.tkp
open Go utfp ucdp setp prp tkw
theorem ascii_seq {g : Nat → Int} {n p : Nat} (hg : ∀ i, 0 ≤ g i ∧ g i ≤ 255) (hp : p < n) (h : g p < 128) : seqAt g n p = (g p, 1) := by
 have h0 := (hg p).1
 have hl : len0 (g p) = 1 := by unfold len0; rw [if_pos h]
 have hw : wid (g p) = 1 := by unfold wid; rw [if_neg (by omega), if_pos h]
 unfold seqAt
 rw [hl, if_neg (by omega)]
 simp [conts, acc, head0, hw]
theorem char_byte {p : Pt} (hg : ∀ i, 0 ≤ p.g i ∧ p.g i ≤ 255) {a : Nat} (ha : a < p.n) (h : p.u = false ∨ p.g a < 128) : p.char a = (p.g a, a + 1) := by
 have hs : stepv p.u p.g p.n a = (p.g a, (a : Int) + 1) := by
  unfold stepv
  rcases h with h | h
  ·rw [h, if_neg (by simp)]
  ·rw [ascii_seq hg ha h]
   split <;> rfl
 unfold Pt.char
 rw [nextP_step _ _ _ _ hg ha]
 unfold stepN
 rw [hs]
 refine Prod.ext rfl ?_
 show (((a : Int) + 1).toNat : Int).toNat = a + 1
 omega
theorem has_not {p : Pt} {c : UInt8} {l : List UInt8} {a : Nat} (h : p.g a ≠ (c.toNat : Int)) : p.has (c :: l) a = false := by simp [Pt.has, h]
theorem has_yes {p : Pt} {c : UInt8} {a : Nat} (ha : a < p.n) (h : p.g a = (c.toNat : Int)) : p.has [c] a = true := by simp [Pt.has, ha, h]
theorem quant_none {p : Pt} {f : Nat} (h1 : p.g f ≠ 42) (h2 : p.g f ≠ 43) (h3 : p.g f ≠ 63) (h4 : p.g f ≠ 123) : p.quant f = .ok none := by
 unfold Pt.quant Pt.braces
 rw [has_not (c := 42) h1, has_not (c := 43) h2, has_not (c := 63) h3, has_not (c := 123) h4]
 simp
def plainB (c : Int) : Prop := c ≠ 42 ∧ c ≠ 43 ∧ c ≠ 63 ∧ c ≠ 123 ∧ c ≠ 92 ∧ c ≠ 91 ∧ c ≠ 40 ∧ c ≠ 41 ∧ c ≠ 124 ∧ c ≠ 46 ∧ c ≠ 94 ∧ c ≠ 36
def litT (p : Pt) (i : Nat) : Tk := { kind := 1, at_ := i, «to» := i + 1, c := p.g i }
theorem token_lit {p : Pt} (hg : ∀ i, 0 ≤ p.g i ∧ p.g i ≤ 255) {f : Nat} (hf : f < p.n) (h : p.u = false ∨ p.g f < 128) (hi : p.ign (p.g f) (f + 1) = none) (hc : plainB (p.g f)) : p.token f = .ok ([litT p f], f + 1) := by
 obtain ⟨k1, k2, k3, k4, k5, k6, k7, k8, k9, k10, k11, k12⟩ := hc
 unfold Pt.token
 rw [quant_none k1 k2 k3 k4, char_byte hg hf h]
 dsimp only
 rw [if_neg k5, if_neg k6, if_neg k7, if_neg k8, if_neg k9, if_neg k10, if_neg k11, if_neg k12, hi]
 rfl
def ptOf (g : Nat → Int) (n : Nat) (o : Int) : Pt := { g := g, n := n, u := o.toNat.testBit 5, x := o.toNat.testBit 3 }
theorem lexP_run {g : Nat → Int} {n : Nat} {o : Int} (h0 : 0 ≤ o) (h1 : o ≤ 65535) (hn : n ≤ 1000) (hv : o.toNat.testBit 5 = true → (validP g n).2 = true) : lexP g n o = (ptOf g n o).read (n + 1) [] 0 := by
 unfold lexP
 rw [if_neg (by omega), if_neg (by omega), if_neg]
 ·rfl
 ·rintro ⟨h, h'⟩
  rw [hv h] at h'
  cases h'
theorem lex_arg {g : Nat → Int} {n : Nat} {o : Int} (h : o < 0 ∨ 65535 < o) : lexP g n o = .error (1, 0) := by
 unfold lexP
 rw [if_pos h]
end Go.Proofs.YtkcmjcgjfjfimaaGreatDoor.tkp
end
section
namespace Go.Proofs.YtkcmjcgjfjfimaaGreatDoor.tkw
open Go Go.RowKit Go.Maps utfp utfw ucdp setp setw prp tkp
theorem wraps_i64_62 (n : Int) (h₀ : 0 ≤ n) (h₁ : n < 2 ^ 62) : IntKind.i64.wrap n = n := by rw [IntKind.wrap_i64]; omega
theorem opt_bit (o : Int) (h0 : 0 ≤ o) (h1 : o ≤ 65535) (i : Nat) (hi : i ≤ 15) : (bits .and .i64 o ((2 ^ i : Nat) : Int) != 0) = o.toNat.testBit i := by
 obtain ⟨n, rfl⟩ : ∃ n : Nat, o = n := ⟨o.toNat, by omega⟩
 have hp : 2 ^ i ≤ 2 ^ 15 := Nat.pow_le_pow_right (by decide) hi
 have h := (bits_nat .i64 62 (by decide) wraps_i64_62 n (2 ^ i) (by omega) (by omega)).1
 rw [h, Int.toNat_natCast]
 have hb : ∀ j, (n &&& 2 ^ i).testBit j = (n.testBit j && decide (i = j)) := fun j => by rw [Nat.testBit_and, Nat.testBit_two_pow]
 cases ht : n.testBit i with
 | false =>
  have : n &&& 2 ^ i = 0 := Nat.eq_of_testBit_eq fun j => by
   rw [hb, Nat.zero_testBit]
   by_cases e : i = j
   ·subst e; rw [ht]; rfl
   ·simp [e]
  rw [this]
  rfl
 | true =>
  have : n &&& 2 ^ i ≠ 0 := fun e => by
   have h2 := hb i
   rw [e, ht] at h2
   simp at h2
  simpa using this
structure Fresh (w0 w : World) (L m1 m2 m3 : Nat) (pv : Value) (p : Pt) : Prop where
 lx : w.heap[L]? = some (.cells #[pv, .int .i64 0, .int .i64 0, .int .i64 p.most, .bool p.u, .bool p.x, .map (some m1), .map (some m2), .map (some m3), .slice none 0 0] 56 (0, 0))
 e1 : ∃ n, MapI w m1 n escL
 e2 : ∃ n, MapI w m2 n assL
 e3 : ∃ n, MapI w m3 n optL
 b1 : w0.heap.size ≤ m1 ∧ m1 < w.heap.size
 b2 : w0.heap.size ≤ m2 ∧ m2 < w.heap.size
 b3 : w0.heap.size ≤ m3 ∧ m3 < w.heap.size
 bL : w0.heap.size ≤ L ∧ L < w.heap.size
 ne : m1 ≠ L ∧ m2 ≠ L ∧ m3 ≠ L
def NewB (w : World) (pv : Value) (p : Pt) (e : Ending) (w' : World) : Prop := ∃ L m1 m2 m3, e = .returned (.pointer (some ⟨L, 0, none⟩)) ∧ Fresh w w' L m1 m2 m3 pv p ∧ Below w.heap.size w w'
theorem mapI_lt {w : World} {b n : Nat} {l : List (Int × Int)} (h : MapI w b n l) : b < w.heap.size := by
 obtain ⟨es, clock, hb, _⟩ := h
 apply Classical.byContradiction
 intro hn
 have : w.heap[b]? = none := by simp; omega
 rw [this] at hb
 cases hb
theorem mapI_below {w w' : World} {b n : Nat} {l : List (Int × Int)} (h : MapI w b n l) (hb : Below w.heap.size w w') : MapI w' b n l := mapI_block h (hb.block b (mapI_lt h))
set_option maxRecDepth 100000 in
set_option maxHeartbeats 4000000 in
theorem newLexer_any (a : Option Addr) (n cap : Nat) (g : Nat → Int) (o : Int) (w : World) (h0 : 0 ≤ o) (h1 : o ≤ 65535) : Calls Tryz.prog 11 #[.slice a n cap, .int .i64 o] w (NewB w (.slice a n cap) (ptOf g n o)) := by
 have hu := opt_bit o h0 h1 5 (by decide)
 have hx := opt_bit o h0 h1 3 (by decide)
 have e5 : (((2 ^ 5 : Nat) : Int)) = 32 := by decide
 have e3 : (((2 ^ 3 : Nat) : Int)) = 8 := by decide
 rw [e5] at hu
 rw [e3] at hx
 clear e5 e3
 obtain ⟨x, hxx⟩ : ∃ x, o.toNat.testBit 3 = x := ⟨_, rfl⟩
 rw [hxx] at hx
 have fin : ∀ (u : Bool) (most : Int) (b1 n1 b2 n2 b3 n3 : Nat) (w1 w2 w3 w4 : World), o.toNat.testBit 5 = u → (if u = true then 1114111 else 255) = most → Hid (MapI w1 b1 n1 escL) → Hid (MapI w2 b2 n2 assL) → Hid (MapI w3 b3 n3 optL) → Below w.heap.size w w1 → Below w1.heap.size w1 w2 → Below w2.heap.size w2 w3 →
     w.heap.size ≤ b1 → w1.heap.size ≤ b2 → w2.heap.size ≤ b3 → Below w3.heap.size w3 w4 → w4.heap.size = w3.heap.size + 1 →
     w4.heap[w3.heap.size]? = some (.cells #[.slice a n cap, .int .i64 0, .int .i64 0, .int .i64 most, .bool u, .bool x, .map (some b1), .map (some b2), .map (some b3), .slice none 0 0] 56 (0, 0)) →
     NewB w (.slice a n cap) (ptOf g n o) (.returned (.pointer (some ⟨w3.heap.size, 0, none⟩))) w4 := by
   intro u most b1 n1 b2 n2 b3 n3 w1 w2 w3 w4 hu2 hm H1 H2 H3 k1 k2 k3 l1 l2 l3 k4 hs hc
   have s1 := k1.size
   have s2 := k2.size
   have s3 := k3.size
   have m1 := mapI_lt H1.out
   have m2 := mapI_lt H2.out
   have m3 := mapI_lt H3.out
   refine ⟨w3.heap.size, b1, b2, b3, rfl, ⟨?_, ⟨n1, mapI_below (mapI_below (mapI_below H1.out k2) k3) k4⟩, ⟨n2, mapI_below (mapI_below H2.out k3) k4⟩, ⟨n3, mapI_below H3.out k4⟩, by omega, by omega, by omega, by omega, by omega⟩, ((k1.trans (k2.mono s1)).trans (k3.mono (by omega))).trans (k4.mono (by omega))⟩
   rw [hc]
   unfold ptOf Pt.most
   simp only [hu2, hxx, hm]
 have FIN := Lib.hid fin
 clear fin hxx
 go_enter Tryz.func11, Tryz.ntmps11
 cases hub : o.toNat.testBit 5 with
 | false =>
   rw [hub] at hu
   go_wp2_with fail
   refine (escapes_any _).mono ?_
   rintro e1 w1 ⟨b1, n1, rfl, hm1, hb1, hl1⟩
   have HM1 := Lib.hid hm1
   clear hm1
   go_wp2_with fail
   refine (asserts_any _).mono ?_
   rintro e2 w2 ⟨b2, n2, rfl, hm2, hb2, hl2⟩
   have HM2 := Lib.hid hm2
   clear hm2
   go_wp2_with fail
   refine (options_any _).mono ?_
   rintro e3 w3 ⟨b3, n3, rfl, hm3, hb3, hl3⟩
   have HM3 := Lib.hid hm3
   clear hm3
   go_wp2_with fail
   go_ret
   exact FIN.out false 255 b1 n1 b2 n2 b3 n3 w1 w2 w3 _ hub rfl HM1 HM2 HM3 hb1 hb2 hb3 hl1 hl2 hl3 (below_al w3 _) (by simp) (heap_alloc_new w3 _)
 | true =>
   rw [hub] at hu
   go_wp2_with fail
   refine (escapes_any _).mono ?_
   rintro e1 w1 ⟨b1, n1, rfl, hm1, hb1, hl1⟩
   have HM1 := Lib.hid hm1
   clear hm1
   go_wp2_with fail
   refine (asserts_any _).mono ?_
   rintro e2 w2 ⟨b2, n2, rfl, hm2, hb2, hl2⟩
   have HM2 := Lib.hid hm2
   clear hm2
   go_wp2_with fail
   refine (options_any _).mono ?_
   rintro e3 w3 ⟨b3, n3, rfl, hm3, hb3, hl3⟩
   have HM3 := Lib.hid hm3
   clear hm3
   go_wp2_with fail
   go_ret
   refine FIN.out true 1114111 b1 n1 b2 n2 b3 n3 w1 w2 w3 _ hub rfl HM1 HM2 HM3 hb1 hb2 hb3 hl1 hl2 hl3 ?_ (by simp) (by first | exact heap_alloc_new w3 _ | simp)
   first | exact below_al w3 _ | exact (below_al w3 _).setCell (Nat.le_refl _) _ | (trace_state; fail)
end Go.Proofs.YtkcmjcgjfjfimaaGreatDoor.tkw
end
section
namespace Go.Proofs.YtkcmjcgjfjfimaaGreatDoor.tkp
open Go utfp ucdp setp prp tkw
theorem run_stop {p : Pt} {fits : Int → Bool} : ∀ {l k a : Nat}, (∀ i, i < l → a + i < p.n ∧ fits (p.g (a + i)) = true) → (a + l = p.n ∨ fits (p.g (a + l)) = false) → l ≤ k → p.run fits k a = a + l
 | 0, k, a, _, h, _ => by
  cases k with
  | zero => rfl
  | succ k =>
   unfold Pt.run
   rw [if_neg]
   ·rfl
   ·rcases h with h | h
    ·simp only [Bool.and_eq_true, decide_eq_true_eq]; omega
    ·rw [show fits (p.g a) = false from h]; simp
 | l + 1, k, a, h1, h2, h3 => by
  obtain ⟨k, rfl⟩ : ∃ q, k = q + 1 := ⟨k - 1, by omega⟩
  have h0 := h1 0 (by omega)
  unfold Pt.run
  rw [if_pos (by simp only [Bool.and_eq_true, decide_eq_true_eq]; exact ⟨h0.1, h0.2⟩)]
  rw [run_stop (l := l) (k := k) (a := a + 1) (fun i hi => by have := h1 (i + 1) (by omega); rwa [show a + 1 + i = a + (i + 1) by omega]) (by rwa [show a + 1 + l = a + (l + 1) by omega]) (by omega)]
  omega
structure Num (p : Pt) (a l : Nat) (v : Int) : Prop where
 pos : 1 ≤ l
 le : l ≤ 1000
 dig : ∀ i, i < l → a + i < p.n ∧ 48 ≤ p.g (a + i) ∧ p.g (a + i) ≤ 57
 val : p.val a l = v
theorem Num.digits {p : Pt} {a l : Nat} {v : Int} (h : Num p a l v) (he : a + l = p.n ∨ ¬ (48 ≤ p.g (a + l) ∧ p.g (a + l) ≤ 57)) : p.digits a = (v, a + l) := by
 have hr : p.run isDig 1000 a = a + l := run_stop (fun i hi => ⟨(h.dig i hi).1, by have := (h.dig i hi).2; simp [isDig, this]⟩) (by
  rcases he with he | he
  ·exact Or.inl he
  ·right
   unfold isDig
   cases hb : (decide (48 ≤ p.g (a + l)) && decide (p.g (a + l) ≤ 57)) with
   | false => rfl
   | true => simp only [Bool.and_eq_true, decide_eq_true_eq] at hb; exact absurd hb he) h.le
 unfold Pt.digits
 rw [hr, show a + l - a = l by omega, h.val]
theorem digits_no {p : Pt} {a : Nat} (he : a = p.n ∨ ¬ (48 ≤ p.g a ∧ p.g a ≤ 57)) : p.digits a = (0, a) := by
 have hr : p.run isDig 1000 a = a + 0 := run_stop (fun i hi => by omega) (by
  rcases he with he | he
  ·exact Or.inl he
  ·right
   unfold isDig
   cases hb : (decide (48 ≤ p.g (a + 0)) && decide (p.g (a + 0) ≤ 57)) with
   | false => rfl
   | true => simp only [Bool.and_eq_true, decide_eq_true_eq] at hb; exact absurd hb he) (by omega)
 unfold Pt.digits
 rw [hr, show a + 0 - a = 0 by omega]
 rfl
theorem read_succ (p : Pt) (k : Nat) (T : List Tk) (a : Nat) : p.read (k + 1) T a = if a = p.n then .ok T else match p.token a with | .error e => .error e | .ok (ts, b) => p.read k (T ++ ts) b := rfl
end Go.Proofs.YtkcmjcgjfjfimaaGreatDoor.tkp
end
section
namespace Go.Proofs.YtkcmjcgjfjfimaaGreatDoor.tkw
open Go Go.RowKit Go.Maps utfp utfw ucdp setp setw prp tkp
theorem below_drw {B : Nat} (w : World) : Below B w w.drew := ⟨rfl, rfl, rfl, Nat.le_refl _, fun _ _ => rfl⟩
set_option maxRecDepth 100000 in
set_option maxHeartbeats 2000000 in
theorem catch_idle (a b c : Nat) (w : World) :
   CallsD Tryz.prog 21 #[.pointer (some ⟨a, 0, none⟩), .pointer (some ⟨b, 0, none⟩), .pointer (some ⟨c, 0, none⟩)] .returning w fun e u' w' => e = .returned (.tuple #[]) ∧ u' = .returning ∧ w' = w := by
 refine callsD_of_wpS Tryz.func21 rfl fun c₀ cs hu => ?_
 apply wpS_seq
 apply wpS_region
 simp [wpOpsS, go_sem, recoverD, hu, Tryz.ntmps21, Exit.thenS]
 refine wpS_of_wp ?_
 rw [show (#[.pointer (some ⟨a, 0, none⟩), .pointer (some ⟨b, 0, none⟩), .pointer (some ⟨c, 0, none⟩)] ++ ((Array.replicate 11 undef).setIfInBounds 2 Value.nilIface).setIfInBounds 0 Value.nilIface : Array Value) =
   #[.pointer (some ⟨a, 0, none⟩), .pointer (some ⟨b, 0, none⟩), .pointer (some ⟨c, 0, none⟩), Value.nilIface, undef, Value.nilIface, undef, undef, undef, undef, undef, undef, undef, undef] from rfl]
 go_wp2_with fail
 cases c₀
 simp_all [bodyPostS, results, Tryz.results21]
theorem assert_fault (x y : Int) (w : World) : (Instr.typeAssert (.iface 58 (.agg #[.int .i64 x, .int .i64 y])) 20 58 false).run Tryz.prog w = .ok (.agg #[.int .i64 x, .int .i64 y]) w := by kernel_rfl
set_option maxRecDepth 100000 in
set_option maxHeartbeats 2000000 in
theorem catch_pan (a b c : Nat) (x : Int × Int) (older : List PanicEntry) (w : World) (va vb vc : Value) (ha : w.cell? ⟨a, 0, none⟩ = some va) (hb : w.cell? ⟨b, 0, none⟩ = some vb) (hc : w.cell? ⟨c, 0, none⟩ = some vc)
   (fa : w.frozen? ⟨a, 0, none⟩ = false) (fb : w.frozen? ⟨b, 0, none⟩ = false) (fc : w.frozen? ⟨c, 0, none⟩ = false) (hab : a ≠ b) (hac : a ≠ c) (hbc : b ≠ c) :
   CallsD Tryz.prog 21 #[.pointer (some ⟨a, 0, none⟩), .pointer (some ⟨b, 0, none⟩), .pointer (some ⟨c, 0, none⟩)] (.panicking ({ v := fltV x, recovered := false } :: older)) w fun e u' w' =>
     e = .returned (.tuple #[]) ∧ u' = .panicking ({ v := fltV x, recovered := true } :: older) ∧ ∃ w1, Below w.heap.size w w1 ∧ w' = ((w1.setCell ⟨a, 0, none⟩ (.slice none 0 0)).setCell ⟨b, 0, none⟩ (.int .i64 x.1)).setCell ⟨c, 0, none⟩ (.int .i64 x.2) := by
 refine callsD_of_wpS Tryz.func21 rfl fun c₀ cs hu => ?_
 apply wpS_seq
 apply wpS_region
 simp [wpOpsS, go_sem, recoverD, hu, Tryz.ntmps21, Exit.thenS]
 refine wpS_of_wp ?_
 rw [show (#[.pointer (some ⟨a, 0, none⟩), .pointer (some ⟨b, 0, none⟩), .pointer (some ⟨c, 0, none⟩)] ++ ((Array.replicate 11 undef).setIfInBounds 2 (fltV x)).setIfInBounds 0 (fltV x) : Array Value) =
   #[.pointer (some ⟨a, 0, none⟩), .pointer (some ⟨b, 0, none⟩), .pointer (some ⟨c, 0, none⟩), fltV x, undef, fltV x, undef, undef, undef, undef, undef, undef, undef, undef] from rfl]
 unfold fltV
 obtain ⟨x1, x2⟩ := x
 have hta := fun w => assert_fault x1 x2 w
 have k1 := below_al w (.cells #[.int .i64 x1, .int .i64 x2] 58)
 have f0 : (w.alloc (.cells #[.int .i64 x1, .int .i64 x2] 58)).cell? ⟨w.heap.size, 0, none⟩ = some (.int .i64 x1) := by simp
 have f1 : (w.alloc (.cells #[.int .i64 x1, .int .i64 x2] 58)).cell? ⟨w.heap.size, 1, none⟩ = some (.int .i64 x2) := by simp
 have a1 := below_cell k1 ha
 have b1 := below_cell k1 hb
 have c1 := below_cell k1 hc
 have la := cell_lt ha
 have lb := cell_lt hb
 have lc := cell_lt hc
 simp only at la lb lc
 have fa1 : (w.alloc (.cells #[.int .i64 x1, .int .i64 x2] 58)).frozen? ⟨a, 0, none⟩ = false := (World.frozen?_of_block (k1.block a la)).trans fa
 have fb1 : (w.alloc (.cells #[.int .i64 x1, .int .i64 x2] 58)).frozen? ⟨b, 0, none⟩ = false := (World.frozen?_of_block (k1.block b lb)).trans fb
 have fc1 : (w.alloc (.cells #[.int .i64 x1, .int .i64 x2] 58)).frozen? ⟨c, 0, none⟩ = false := (World.frozen?_of_block (k1.block c lc)).trans fc
 have K1 := Lib.hid k1
 go_wp2_with fail
 clear ha hb hc fa fb fc k1
 obtain ⟨M, hM⟩ : ∃ M, w.heap.size = M := ⟨_, rfl⟩
 have nMa : M ≠ a := by omega
 have nMb : M ≠ b := by omega
 have nMc : M ≠ c := by omega
 rw [hM] at f0 f1 ⊢
 clear hM
 generalize w.alloc _ = w1 at *
 go_region
 go_wp2_with fail
 cases c₀
 simp_all [bodyPostS, results, Tryz.results21]
 exact ⟨w1.drew, K1.out.trans (below_drw _), rfl⟩
structure Glo (w0 : World) : Prop where
 tabs : Tabs w0
 er : ∃ t x, w0.cell? ⟨8, 0, none⟩ = some (.iface t x)
 tabS : ∀ i, i < 94 → w0.cell? ⟨7, i, none⟩ = some (.int .i64 (st i))
 gr : GlobAt w0 3 groupsC
 lo : GlobAt w0 5 looksC
 na : NaAt w0
 ve : VeAt w0
def ReadB (w0 : World) (r : R (List Tk)) (e : Ending) (w' : World) : Prop := Below w0.heap.size w0 w' ∧ match r with
 | .error x => e = .returned (.tuple #[.slice none 0 0, .int .i64 x.1, .int .i64 x.2])
 | .ok T => ∃ v, e = .returned (.tuple #[v, .int .i64 0, .int .i64 0]) ∧ TokRow w' w0.heap.size v T
theorem tokRow_base {w : World} {b b' : Nat} {v : Value} {T : List Tk} (h : TokRow w b v T) (hb : b' ≤ b) : TokRow w b' v T := by
 obtain ⟨l, h1, h2, h3⟩ := h
 exact ⟨l, h1, fun p hp => ⟨World.ownsRow.mono (h2 p hp).1 hb, (h2 p hp).2⟩, World.ownsRow.mono h3 hb⟩
def RdRel (C : Cf) (w : World) (R : R (List Tk)) (wr : World) : Prop :=
 ∃ k b f' T v, C.p.n < b + k ∧ C.p.read k T b = R ∧ LX C wr b f' ⟨T, v⟩ ∧ Kept C.base C.L w wr
set_option maxRecDepth 100000 in
set_option maxHeartbeats 4000000 in
theorem read_any {w0 w : World} {L m1 m2 m3 : Nat} {pv : Value} {p : Pt} (hf : Fresh w0 w L m1 m2 m3 pv p) (hb : Below w0.heap.size w0 w) (hs : Sl w0 pv p.n p.g) (hn : p.n ≤ 1000) (hG : Glo w0) :
   Calls Tryz.prog 12 #[.pointer (some ⟨L, 0, none⟩)] w (ReadB w0 (p.read (p.n + 1) [] 0)) := by
 obtain ⟨R, hR⟩ : ∃ R, p.read (p.n + 1) [] 0 = R := ⟨_, rfl⟩
 rw [hR]
 have hmf : ∀ (fn : Fn) (first cap : Array Value) (w : World), (Instr.makeFunc fn first cap).run Tryz.prog w = .ok (.func fn first cap) w := fun _ _ _ _ => rfl
 have HR := Lib.hid hR
 clear hR
 have hw3 : ∃ w3, w3 = ((w.alloc (.cells #[.slice none 0 0] 24)).alloc (.cells #[.int .i64 0] 25)).alloc (.cells #[.int .i64 0] 3) := ⟨_, rfl⟩
 obtain ⟨w3, hw3⟩ := hw3
 have hs3 : w3.heap.size = w.heap.size + 3 := by rw [hw3]; simp
 have hb3 : Below w.heap.size w w3 := by
   rw [hw3]
   exact ((below_al w _).alloc (by simp) _).alloc (by simp; omega) _
 have r2 : w3.cell? ⟨w.heap.size, 0, none⟩ = some (.slice none 0 0) := by rw [hw3]; simp [go_sem]
 have r3 : w3.cell? ⟨w.heap.size + 1, 0, none⟩ = some (.int .i64 0) := by rw [hw3]; simp [go_sem]
 have r4 : w3.cell? ⟨w.heap.size + 1 + 1, 0, none⟩ = some (.int .i64 0) := by rw [hw3]; simp [go_sem]
 have z2 : w3.frozen? ⟨w.heap.size, 0, none⟩ = false := by rw [hw3]; simp [go_sem]
 have z3 : w3.frozen? ⟨w.heap.size + 1, 0, none⟩ = false := by rw [hw3]; simp [go_sem]
 have z4 : w3.frozen? ⟨w.heap.size + 1 + 1, 0, none⟩ = false := by rw [hw3]; simp [go_sem]
 have HW := Lib.hid hw3
 have hx : ∃ C : Cf, C.w0 = w0 ∧ C.L = L ∧ C.base = w.heap.size + 3 ∧ C.p = p ∧ LX C w3 0 0 ⟨[], .slice none 0 0⟩ := by
   obtain ⟨q1, hm1⟩ := hf.e1
   obtain ⟨q2, hm2⟩ := hf.e2
   obtain ⟨q3, hm3⟩ := hf.e3
   have x1 := hf.b1
   have x2 := hf.b2
   have x3 := hf.b3
   have xL := hf.bL
   obtain ⟨y1, y2, y3⟩ := hf.ne
   refine ⟨{ w0 := w0, L := L, base := w.heap.size + 3, pv := pv, p := p, m1 := m1, m2 := m2, m3 := m3 }, rfl, rfl, rfl, rfl, ?_⟩
   refine ⟨⟨hs, hn, hG.tabs, hG.er, hG.tabS, hG.gr, ?_, hG.lo, ?_, xL.1, ?_, ⟨?_, y1⟩, ⟨?_, y2⟩, ⟨?_, y3⟩⟩, hb.trans (hb3.mono hb.size), ⟨?_, [], rfl, (by intro p hp; cases hp), World.ownsRow_nil _ _ _ _⟩, ⟨q1, mapI_below hm1 hb3⟩, ⟨q2, mapI_below hm2 hb3⟩, ⟨q3, mapI_below hm3 hb3⟩, ?_, Nat.zero_le _, Nat.zero_le _, Nat.le_refl _⟩
   · obtain ⟨_, fr, e⟩ := hG.na
     exact fun i v hi => by
       rw [cell_of_row _ _ _ _ _ _ e]
       show namingsC.toArray[i]? = some v
       simpa using hi
   · obtain ⟨_, fr, e⟩ := hG.ve
     exact fun i v hi => by
       rw [cell_of_row _ _ _ _ _ _ e]
       show verbsC.toArray[i]? = some v
       simpa using hi
   · show L < w.heap.size + 3
     omega
   · show m1 < w.heap.size + 3
     omega
   · show m2 < w.heap.size + 3
     omega
   · show m3 < w.heap.size + 3
     omega
   · show w3.heap[L]? = _
     rw [hb3.block L xL.2]
     exact hf.lx
   · show w.heap.size + 3 ≤ _
     rw [hs3]
     exact Nat.le_refl _
 obtain ⟨C, rfl, rfl, hCb, rfl, hx⟩ := hx
 have HX := Lib.hid hx
 have HG := Lib.hid hG
 have hLn : C.L < w.heap.size := hf.bL.2
 have h0s := hb.size
 have HB := Lib.hid hb
 have HB3 := Lib.hid hb3
 clear hx hf hb hb3 hs hw3 hG
 go_enter_defers Tryz.func12, Tryz.ntmps12
 go_wp2_with fail
 rw [← HW.out]
 obtain ⟨N, hN⟩ : ∃ N, w.heap.size = N := ⟨_, rfl⟩
 rw [hN] at r2 r3 r4 z2 z3 z4 hCb hLn h0s hs3 ⊢
 go_loopw [6, 7, 8, 9, 10] (fun _ _ _ _ _ wr => RdRel C w3 R wr) (fun _ _ _ _ _ wr => C.p.n - (intOf ((wr.cell? ⟨C.L, 1, none⟩).getD (.int .i64 0))).toNat)
 case atStart => exact ⟨C.p.n + 1, 0, 0, [], _, by omega, HR.out, HX.out, Kept.refl _ _ _⟩
 case round =>
   obtain ⟨k, b, f', T, v, hk, hr, hx, hkp⟩ := hrel
   have an := hx.an
   have HM := Lib.hid (show (intOf ((wr.cell? ⟨C.L, 1, none⟩).getD (.int .i64 0))).toNat = b by rw [hx.cells.c1]; exact Int.toNat_natCast _)
   have hsl : ∃ a n c, v = .slice a n c := by
     obtain ⟨l0, _, _, hl3⟩ := hx.lx.2
     rcases hl3.2 with ⟨h, _⟩ | ⟨g, cap, cur, h, _⟩ <;> exact ⟨_, _, _, h⟩
   obtain ⟨va, vn, vc, rfl⟩ := hsl
   have c9 : wr.cell? ⟨C.L, 9, none⟩ = some (.slice va vn vc) := by rw [cell_of_row _ _ _ _ _ _ hx.lx.1]; rfl
   have s2 : wr.cell? ⟨N, 0, none⟩ = some (.slice none 0 0) := (hkp.cell (a := ⟨N, 0, none⟩) (by show N < C.base; omega) (by show N ≠ C.L; omega)).trans r2
   have s3 : wr.cell? ⟨N + 1, 0, none⟩ = some (.int .i64 0) := (hkp.cell (a := ⟨N + 1, 0, none⟩) (by show N + 1 < C.base; omega) (by show N + 1 ≠ C.L; omega)).trans r3
   have s4 : wr.cell? ⟨N + 1 + 1, 0, none⟩ = some (.int .i64 0) := (hkp.cell (a := ⟨N + 1 + 1, 0, none⟩) (by show N + 1 + 1 < C.base; omega) (by show N + 1 + 1 ≠ C.L; omega)).trans r4
   have y2 : wr.frozen? ⟨N, 0, none⟩ = false := (hkp.frozen (a := ⟨N, 0, none⟩) (by show N < C.base; omega) (by show N ≠ C.L; omega)).trans z2
   have y3 : wr.frozen? ⟨N + 1, 0, none⟩ = false := (hkp.frozen (a := ⟨N + 1, 0, none⟩) (by show N + 1 < C.base; omega) (by show N + 1 ≠ C.L; omega)).trans z3
   have y4 : wr.frozen? ⟨N + 1 + 1, 0, none⟩ = false := (hkp.frozen (a := ⟨N + 1 + 1, 0, none⟩) (by show N + 1 + 1 < C.base; omega) (by show N + 1 + 1 ≠ C.L; omega)).trans z4
   have HXR := Lib.hid hx
   have HK := Lib.hid hkp
   obtain ⟨k, rfl⟩ : ∃ j, k = j + 1 := ⟨k - 1, by omega⟩
   by_cases hbn : b = C.p.n
   · have HA := Lib.hid (show decide (b = C.p.n) = true by simpa using hbn)
     have HQ := Lib.hid (show R = .ok T by rw [← hr, read_succ, if_pos hbn])
     clear hr hbn hx hkp
     go_wp2_with fail
     refine Calls.mono (ended_any HXR.out) ?_
     rintro e1 w1 ⟨rfl, q1, rfl⟩
     rw [HA.out]
     go_wp2_with fail
     refine leaves_cons (f := 21) (args := #[.pointer (some ⟨N, 0, none⟩), .pointer (some ⟨N + 1, 0, none⟩), .pointer (some ⟨N + 1 + 1, 0, none⟩)]) (by simp) (by simp [go_sem]) ?_
     refine (catch_idle N (N + 1) (N + 1 + 1) _).mono ?_
     rintro e u' w'' ⟨rfl, rfl, rfl⟩
     have q2 : ((((wr.drewN q1).setCell ⟨N, 0, none⟩ (.slice va vn vc)).setCell ⟨N + 1, 0, none⟩ (.int .i64 0)).setCell ⟨N + 1 + 1, 0, none⟩ (.int .i64 0)).cell? ⟨N, 0, none⟩ = some (.slice va vn vc) := by simp [go_sem, s2]
     have q3 : ((((wr.drewN q1).setCell ⟨N, 0, none⟩ (.slice va vn vc)).setCell ⟨N + 1, 0, none⟩ (.int .i64 0)).setCell ⟨N + 1 + 1, 0, none⟩ (.int .i64 0)).cell? ⟨N + 1, 0, none⟩ = some (.int .i64 0) := by simp [go_sem, s3]
     have q4 : ((((wr.drewN q1).setCell ⟨N, 0, none⟩ (.slice va vn vc)).setCell ⟨N + 1, 0, none⟩ (.int .i64 0)).setCell ⟨N + 1 + 1, 0, none⟩ (.int .i64 0)).cell? ⟨N + 1 + 1, 0, none⟩ = some (.int .i64 0) := by simp [go_sem, s4]
     simp [Leaves, settle, results, Tryz.results12, go_sem, q2, q3, q4]
     rw [HQ.out]
     have hk := HK.out.drewN q1
     have hL0 := HX.out.ok.hL
     have hbw : Below C.w0.heap.size C.w0 (wr.drewN q1) := (HB.out.trans (HB3.out.mono (by omega))).trans ((hk.below (by omega)).mono hL0)
     refine ⟨((hbw.setCell (by show _ ≤ N; omega) _).setCell (by show _ ≤ N + 1; omega) _).setCell (by show _ ≤ N + 1 + 1; omega) _, _, rfl, ?_⟩
     have ht := (HXR.out.drewN q1).lx.2
     have ht1 := tokRow_kept ht ((Kept.refl _ N _).setCell 0 (.slice va vn vc)) (by omega)
     have ht2 := tokRow_kept ht1 ((Kept.refl _ (N + 1) _).setCell 0 (.int .i64 0)) (by omega)
     have ht3 := tokRow_kept ht2 ((Kept.refl _ (N + 1 + 1) _).setCell 0 (.int .i64 0)) (by omega)
     exact tokRow_base ht3 (by omega)
   · have HA := Lib.hid (show decide (b = C.p.n) = false by simpa using hbn)
     have hlt : b < C.p.n := by omega
     cases ht : C.p.token b with
     | error x =>
       have HQ := Lib.hid (show R = .error x by rw [← hr, read_succ, if_neg hbn, ht])
       have HT := Lib.hid ht
       clear hr hbn hx hkp ht
       go_wp2_with fail
       refine Calls.mono (ended_any HXR.out) ?_
       rintro e1 w1 ⟨rfl, q1, rfl⟩
       rw [HA.out]
       go_wp2_with fail
       refine Calls.mono (token_any (HXR.out.drewN q1) hlt HG.out.na (verbOk HG.out.ve)) ?_
       intro e2 w2 hr
       rw [HT.out] at hr
       obtain ⟨rfl, hkn⟩ := hr
       have hk2 := (HK.out.drewN q1).trans hkn
       have s2 : w2.cell? ⟨N, 0, none⟩ = some (.slice none 0 0) := (hk2.cell (a := ⟨N, 0, none⟩) (by show N < C.base; omega) (by show N ≠ C.L; omega)).trans r2
       have s3 : w2.cell? ⟨N + 1, 0, none⟩ = some (.int .i64 0) := (hk2.cell (a := ⟨N + 1, 0, none⟩) (by show N + 1 < C.base; omega) (by show N + 1 ≠ C.L; omega)).trans r3
       have s4 : w2.cell? ⟨N + 1 + 1, 0, none⟩ = some (.int .i64 0) := (hk2.cell (a := ⟨N + 1 + 1, 0, none⟩) (by show N + 1 + 1 < C.base; omega) (by show N + 1 + 1 ≠ C.L; omega)).trans r4
       have y2 : w2.frozen? ⟨N, 0, none⟩ = false := (hk2.frozen (a := ⟨N, 0, none⟩) (by show N < C.base; omega) (by show N ≠ C.L; omega)).trans z2
       have y3 : w2.frozen? ⟨N + 1, 0, none⟩ = false := (hk2.frozen (a := ⟨N + 1, 0, none⟩) (by show N + 1 < C.base; omega) (by show N + 1 ≠ C.L; omega)).trans z3
       have y4 : w2.frozen? ⟨N + 1 + 1, 0, none⟩ = false := (hk2.frozen (a := ⟨N + 1 + 1, 0, none⟩) (by show N + 1 + 1 < C.base; omega) (by show N + 1 + 1 ≠ C.L; omega)).trans z4
       have HK2 := Lib.hid hk2
       clear hk2 hkn
       go_wp2_with fail
       refine leaves_cons (f := 21) (args := #[.pointer (some ⟨N, 0, none⟩), .pointer (some ⟨N + 1, 0, none⟩), .pointer (some ⟨N + 1 + 1, 0, none⟩)]) (by simp) (by simp [go_sem]) ?_
       refine (catch_pan N (N + 1) (N + 1 + 1) x [] w2 _ _ _ s2 s3 s4 y2 y3 y4 (by omega) (by omega) (by omega)).mono ?_
       rintro e u' w'' ⟨rfl, rfl, w5, hb5, rfl⟩
       have s2 := below_cell hb5 s2
       have s3 := below_cell hb5 s3
       have s4 := below_cell hb5 s4
       simp [Leaves, settle, results, Tryz.results12, go_sem, s2, s3, s4]
       rw [HQ.out]
       have hL0 := HX.out.ok.hL
       have hsz := HK2.out.size
       have hbw : Below C.w0.heap.size C.w0 w5 := ((HB.out.trans (HB3.out.mono (by omega))).trans ((HK2.out.below (by omega)).mono hL0)).trans (hb5.mono (by omega))
       exact ⟨((hbw.setCell (by show _ ≤ N; omega) _).setCell (by show _ ≤ N + 1; omega) _).setCell (by show _ ≤ N + 1 + 1; omega) _, rfl⟩
     | ok s =>
       obtain ⟨ts, b'⟩ := s
       have HQ := Lib.hid (show C.p.read k (T ++ ts) b' = R by rw [← hr, read_succ, if_neg hbn, ht])
       have HT := Lib.hid ht
       clear hr hbn hx hkp ht
       go_wp2_with fail
       refine Calls.mono (ended_any HXR.out) ?_
       rintro e1 w1 ⟨rfl, q1, rfl⟩
       rw [HA.out]
       go_wp2_with fail
       refine Calls.mono (token_any (HXR.out.drewN q1) hlt HG.out.na (verbOk HG.out.ve)) ?_
       intro e2 w2 hr
       rw [HT.out] at hr
       obtain ⟨rfl, f2, v2, hx2, hkn⟩ := hr
       have HX2 := Lib.hid hx2
       have HK2 := Lib.hid ((HK.out.drewN q1).trans hkn)
       have HM2 := Lib.hid (show (intOf ((w2.cell? ⟨C.L, 1, none⟩).getD (.int .i64 0))).toNat = b' by rw [hx2.cells.c1]; exact Int.toNat_natCast _)
       have hgt := Lib.hid ((token_ok HXR.out.sl.1 hlt).val HT.out).1
       clear hx2 hkn c9 s2 s3 s4 y2 y3 y4
       go_wp2_with fail
       go_roundw
       case rel => exact ⟨k, b', f2, T ++ ts, v2, by have := hgt.out; omega, HQ.out, HX2.out, HK2.out⟩
       case measure =>
         rw [HM.out, HM2.out]
         have := hgt.out
         omega
end Go.Proofs.YtkcmjcgjfjfimaaGreatDoor.tkw
end
