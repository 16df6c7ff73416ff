/- Texts that TokensQuoteLaw leans on, merged: what the functions of the program answer. -/
import Derived.Laws.BitsLemmas
import Derived.Test.YtkcmjcgjfjfimaaGreatDoorBQu22
section
namespace Go.Proofs.YtkcmjcgjfjfimaaGreatDoor.tkw
open Go Go.RowKit Go.Maps utfp utfw ucdp setp setw prp tkp
theorem mapI_made (w : World) : MapI (w.alloc (.map #[] 0)) w.heap.size 0 [] := World.ownsMap_made w _ _ _
theorem wpList_insert_i {w : World} {ops : Array Oper} {rest : List Oper} {o : Oper} {a : Act} {Q : Exit → Act → World → Prop} (hg : o.guard = none) (hd : o.dst = none) (m : Operand) (k v : Int) (hop : o.op = Op.insert 53 m (.const (.int .i64 k)) (.const (.int .i64 v)))
   (b n : Nat) (L : List (Int × Int)) (hm : a.eval m = .map (some b)) (hown : MapI w b n L) (hn : n < 1000) (hk : -9223372036854775808 ≤ k ∧ k ≤ 9223372036854775807)
   (hK : ∀ w', MapI w' b (n + 1) ((k, v) :: L) → w.grownBy w' (some b) → wpList Tryz.prog ops Q rest a w') :
   wpList Tryz.prog ops Q (o :: rest) a w := by
 refine wpList_plain hg fun K' hK' => ?_
 obtain ⟨w', hrun, r1, r2⟩ := World.ownsMap.update hown (int_keyed Tryz.underlying3) Tryz.underlying53 (by unfold maxLen; omega) (keyOf_int_mk Tryz.underlying3 (a := k) (by show (decide (-9223372036854775808 ≤ k) && decide (k ≤ 9223372036854775807)) = true; simp [hk.1, hk.2])) (show RV (.int .i64 v) = some (.held (.int .i64 v), []) from rfl)
 unfold Oper.wp
 have hx : a.eval (.const (.int .i64 k)) = .int .i64 k := rfl
 have hv : a.eval (.const (.int .i64 v)) = .int .i64 v := rfl
 simp [execOp, hop, hm, hx, hv, hrun, Result.andThen]
 refine hK' _ _ ?_
 rw [hd]
 exact hK w' r1 r2
def InsI (m : Operand) : List Oper → List (Int × Int) → Prop
 | _, [] => True
 | o :: l, p :: ins => (o.guard = none ∧ o.dst = none ∧ o.op = Op.insert 53 m (.const (.int .i64 p.1)) (.const (.int .i64 p.2))) ∧ InsI m l ins
 | [], _ :: _ => False
theorem wpList_inserts_i {ops : Array Oper} {a : Act} {Q : Exit → Act → World → Prop} (m : Operand) (b : Nat) (hm : a.eval m = .map (some b)) :
   ∀ (ins : List (Int × Int)) (l : List Oper) (w : World) (n : Nat) (L : List (Int × Int)), InsI m l ins → MapI w b n L → n + ins.length ≤ 1000 → (∀ p ∈ ins, -9223372036854775808 ≤ p.1 ∧ p.1 ≤ 9223372036854775807) →
   (∀ w', MapI w' b (n + ins.length) (ins.reverse ++ L) → w.grownBy w' (some b) → wpList Tryz.prog ops Q (l.drop ins.length) a w') → wpList Tryz.prog ops Q l a w
 | [], l, w, n, L, _, hown, _, _, h => h w hown ⟨rfl, rfl, rfl, Nat.le_refl _, fun _ _ _ => rfl⟩
 | p :: ins, [], w, n, L, hi, _, _, _, _ => hi.elim
 | p :: ins, o :: l, w, n, L, hi, hown, hn, hs, h => by
   obtain ⟨⟨h1, h2, h3⟩, h4⟩ := hi
   simp only [List.length_cons] at hn
   refine wpList_insert_i h1 h2 m _ _ h3 b n L hm hown (by omega) (hs p (List.mem_cons_self ..)) fun w1 m1 g1 => ?_
   refine wpList_inserts_i m b hm ins l w1 (n + 1) (p :: L) h4 m1 (by omega) (fun q hq => hs q (List.mem_cons_of_mem _ hq)) fun w2 m2 g2 => ?_
   have g3 : w.grownBy w2 (some b) := ⟨g2.os.trans g1.os, g2.tape.trans g1.tape, g2.output.trans g1.output, Nat.le_trans g1.size g2.size, fun k hk hne => (g2.block k (Nat.lt_of_lt_of_le hk g1.size) hne).trans (g1.block k hk hne)⟩
   refine h w2 ?_ g3
   have e1 : (p :: ins).reverse ++ L = ins.reverse ++ p :: L := by simp
   have e2 : n + (p :: ins).length = n + 1 + ins.length := by simp only [List.length_cons]; omega
   rw [e1, e2]
   exact m2
theorem insI_cons {m : Operand} {o : Oper} {l : List Oper} {p : Int × Int} {ins : List (Int × Int)} (h : o.guard = none ∧ o.dst = none ∧ o.op = Op.insert 53 m (.const (.int .i64 p.1)) (.const (.int .i64 p.2))) (h2 : InsI m l ins) : InsI m (o :: l) (p :: ins) := ⟨h, h2⟩
theorem insI_nil {m : Operand} {l : List Oper} : InsI m l [] := by cases l <;> exact trivial
def escI : List (Int × Int) := [(97, 7), (101, 27), (102, 12), (110, 10), (114, 13), (116, 9)]
def assI : List (Int × Int) := [(98, 3), (66, 4), (65, 5), (122, 6), (90, 7), (71, 8)]
def optI : List (Int × Int) := [(105, 1), (109, 2), (115, 4), (85, 16)]
def MapN (L : List (Int × Int)) (w : World) (e : Ending) (w' : World) : Prop := ∃ b n, e = .returned (.map (some b)) ∧ MapI w' b n L ∧ Below w.heap.size w w' ∧ w.heap.size ≤ b
theorem below_mapI {w0 w w' : World} {b : Nat} (h : Below w0.heap.size w0 w) (hg : w.grownBy w' (some b)) (hb : w0.heap.size ≤ b) : Below w0.heap.size w0 w' := h.grown hg h.size fun k hk => by cases hk; exact hb
set_option maxRecDepth 100000 in
set_option maxHeartbeats 4000000 in
theorem escapes_any (w : World) : Calls Tryz.prog 18 #[] w (MapN escL w) := by
 have hmm := @run_makeMap Tryz.prog
 have HM := Lib.hid (mapI_made w)
 go_enter Tryz.func18, Tryz.ntmps18
 go_wp2_with (refine wpList_inserts_i (.tmp 1) w.heap.size rfl escI _ _ 0 [] (by unfold escI; repeat' (first | exact insI_nil | refine insI_cons ⟨rfl, rfl, rfl⟩ ?_)) HM.out (by decide) (by decide) ?_; intro w1 hm1 hg1; have HM1 := Lib.hid hm1; have HG1 := Lib.hid hg1; clear hm1 hg1)
 go_ret
 exact ⟨w.heap.size, 0 + escI.length, rfl, HM1.out, below_mapI (below_al w _) HG1.out (Nat.le_refl _), Nat.le_refl _⟩
set_option maxRecDepth 100000 in
set_option maxHeartbeats 4000000 in
theorem asserts_any (w : World) : Calls Tryz.prog 19 #[] w (MapN assL w) := by
 have hmm := @run_makeMap Tryz.prog
 have HM := Lib.hid (mapI_made w)
 go_enter Tryz.func19, Tryz.ntmps19
 go_wp2_with (refine wpList_inserts_i (.tmp 1) w.heap.size rfl assI _ _ 0 [] (by unfold assI; repeat' (first | exact insI_nil | refine insI_cons ⟨rfl, rfl, rfl⟩ ?_)) HM.out (by decide) (by decide) ?_; intro w1 hm1 hg1; have HM1 := Lib.hid hm1; have HG1 := Lib.hid hg1; clear hm1 hg1)
 go_ret
 exact ⟨w.heap.size, 0 + assI.length, rfl, HM1.out, below_mapI (below_al w _) HG1.out (Nat.le_refl _), Nat.le_refl _⟩
set_option maxRecDepth 100000 in
set_option maxHeartbeats 4000000 in
theorem options_any (w : World) : Calls Tryz.prog 20 #[] w (MapN optL w) := by
 have hmm := @run_makeMap Tryz.prog
 have HM := Lib.hid (mapI_made w)
 go_enter Tryz.func20, Tryz.ntmps20
 go_wp2_with (refine wpList_inserts_i (.tmp 1) w.heap.size rfl optI _ _ 0 [] (by unfold optI; repeat' (first | exact insI_nil | refine insI_cons ⟨rfl, rfl, rfl⟩ ?_)) HM.out (by decide) (by decide) ?_; intro w1 hm1 hg1; have HM1 := Lib.hid hm1; have HG1 := Lib.hid hg1; clear hm1 hg1)
 go_ret
 exact ⟨w.heap.size, 0 + optI.length, rfl, HM1.out, below_mapI (below_al w _) HG1.out (Nat.le_refl _), Nat.le_refl _⟩
end Go.Proofs.YtkcmjcgjfjfimaaGreatDoor.tkw
end
section
namespace Go.Proofs.YtkcmjcgjfjfimaaGreatDoor.tkp
open Go utfp ucdp setp prp tkw
def Er (p : Pt) (x : Int × Int) : Prop := 1 ≤ x.1 ∧ x.1 ≤ 45 ∧ 0 ≤ x.2 ∧ x.2 ≤ p.n
def OkR (p : Pt) {α : Type} (P : α → Prop) : R α → Prop
 | .error x => Er p x
 | .ok r => P r
theorem er_at {p : Pt} {e : Int} {f : Nat} (he : 1 ≤ e ∧ e ≤ 45) (hf : f ≤ p.n) : Er p (e, (f : Int)) := ⟨he.1, he.2, by show (0 : Int) ≤ (f : Int); omega, by show (f : Int) ≤ p.n; omega⟩
theorem OkR.err {p : Pt} {α : Type} {P : α → Prop} {r : R α} {x : Int × Int} (h : OkR p P r) (e : r = .error x) : Er p x := by subst e; exact h
theorem OkR.val {p : Pt} {α : Type} {P : α → Prop} {r : R α} {v : α} (h : OkR p P r) (e : r = .ok v) : P v := by subst e; exact h
theorem has1 {p : Pt} {c : UInt8} {a : Nat} (ha : a ≤ p.n) (h : p.has [c] a = true) : a + 1 ≤ p.n := by simpa using has_le ha h
theorem has2 {p : Pt} {c d : UInt8} {a : Nat} (ha : a ≤ p.n) (h : p.has [c, d] a = true) : a + 2 ≤ p.n := by simpa using has_le ha h
theorem number_ok {p : Pt} {f a : Nat} (hf : f ≤ p.n) (ha : a ≤ p.n) : OkR p (fun r => a ≤ r.2 ∧ r.2 ≤ p.n) (p.number f a) := by
 unfold Pt.number
 split
 · exact er_at (by omega) hf
 · have := digits_bd ha
   exact this.2.2
theorem signed_ok {p : Pt} {f a : Nat} (hf : f ≤ p.n) (ha : a ≤ p.n) : OkR p (fun r => ∀ n m b, r = some (n, m, b) → a < b ∧ b ≤ p.n) (p.signed f a) := by
 have h1 := sign_bd ha
 unfold Pt.signed
 split
 · rename_i e he; exact (number_ok hf h1.2).err he
 · rename_i n b hb
   have := (number_ok hf h1.2).val hb
   split
   · intro _ _ _ e; cases e
   · intro _ _ _ e
     cases e
     omega
theorem braces_ok {p : Pt} {f : Nat} (hf : f ≤ p.n) : OkR p (fun r => ∀ n m b, r = some (n, m, b) → f < b ∧ b ≤ p.n) (p.braces f) := by
 cases h : p.braces f with
 | ok r => intro n m b e; subst e; exact braces_bd hf h
 | error x =>
   unfold Pt.braces at h
   repeat' split at h
   all_goals first
     | (cases h; exact er_at (by omega) hf)
     | cases h
theorem hexa_ok {p : Pt} {f a : Nat} (hf : f ≤ p.n) (ha : a ≤ p.n) : OkR p (fun r => a ≤ r.2 ∧ r.2 ≤ p.n) (p.hexa f a) := by
 unfold Pt.hexa
 split
 · rename_i h1
   have h2 := hexd_bd (p := p) (most := 6) (a := a + 1) (has1 ha h1)
   split
   · exact er_at (by omega) hf
   · rename_i h3
     have h4 : p.has [125] (p.hexd 6 (a + 1)).2 = true := by
       cases h : p.has [125] (p.hexd 6 (a + 1)).2
       · exact absurd (Or.inr (Or.inl h)) h3
       · rfl
     have := has1 h2.2 h4
     show a ≤ (p.hexd 6 (a + 1)).2 + 1 ∧ (p.hexd 6 (a + 1)).2 + 1 ≤ p.n
     omega
 · exact hexd_bd ha
theorem until_bd {p : Pt} {c : Int} {a i : Nat} (h : p.until c a = some i) : a ≤ i ∧ i + 1 ≤ p.n := by
 have := find_bd h
 omega
theorem propName_bd {p : Pt} (hg : ∀ i, 0 ≤ p.g i ∧ p.g i ≤ 255) {a : Nat} (ha : a ≤ p.n) : a ≤ (p.propName a).2 ∧ (p.propName a).2 ≤ p.n := by
 refine ⟨propName_ge hg ha, ?_⟩
 unfold Pt.propName
 split
 · rename_i h1
   split
   · exact has1 ha h1
   · rename_i i hi
     exact (until_bd hi).2
 · exact (char_pure hg ha).2.2.1
def Kd (t : Tk) : Prop := 1 ≤ t.kind ∧ t.kind ≤ 15
theorem prop_ok {p : Pt} (hg : ∀ i, 0 ≤ p.g i ∧ p.g i ≤ 255) {f a : Nat} {neg : Bool} (hf : f ≤ p.n) (ha : a ≤ p.n) : OkR p (fun r => a ≤ r.2 ∧ r.2 ≤ p.n ∧ Kd r.1) (p.prop f a neg) := by
 unfold Pt.prop
 have := propName_bd hg ha
 split
 · exact ⟨this.1, this.2, by simp [Kd]⟩
 · exact er_at (by omega) hf
theorem common_ok {p : Pt} (hg : ∀ i, 0 ≤ p.g i ∧ p.g i ≤ 255) {f a : Nat} {c : Int} (hf : f ≤ p.n) (ha : a ≤ p.n) : OkR p (fun r => ∀ t b, r = some (t, b) → a ≤ b ∧ b ≤ p.n ∧ Kd t) (p.common f c a) := by
 unfold Pt.common
 split
 · intro t b e; cases e; exact ⟨Nat.le_refl _, ha, by simp [Kd]⟩
 · split
   · split
     · rename_i e he; exact (hexa_ok hf ha).err he
     · rename_i v b hb
       have := (hexa_ok hf ha).val hb
       intro t b e; cases e; exact ⟨this.1, this.2, by simp [Kd]⟩
   · split
     · split
       · rename_i e he; exact (prop_ok hg hf ha).err he
       · rename_i r hr
         have := (prop_ok hg hf ha).val hr
         intro t b e; cases e; exact this
     · split
       · intro t b e; cases e; exact ⟨Nat.le_refl _, ha, by simp [Kd]⟩
       · intro t b e; cases e
theorem posix_ok {p : Pt} {f : Nat} (hf : f ≤ p.n) : OkR p (fun r => ∀ t b, r = some (t, b) → f < b ∧ b ≤ p.n ∧ Kd t) (p.posix f) := by
 unfold Pt.posix
 split
 · rename_i h1
   have hl := has2 hf h1
   have hb : f + 2 ≤ (if p.has [94] (f + 2) = true then f + 3 else f + 2) ∧ (if p.has [94] (f + 2) = true then f + 3 else f + 2) ≤ p.n := by
     split
     · rename_i h2
       have := has1 hl h2
       omega
     · omega
   generalize (if p.has [94] (f + 2) = true then f + 3 else f + 2) = bg at *
   simp only
   have h3 := run_bd (p := p) (fits := isLet) (k := 1000) hb.2
   split
   · rename_i h4
     have := has2 h3.2.1 h4
     split
     · intro t b e; cases e; exact ⟨by omega, by omega, by simp [Kd]⟩
     · exact er_at (by omega) hf
   · intro t b e; cases e
 · intro t b e; cases e
theorem er_end {p : Pt} : Er p (20, (p.n : Int)) := er_at (by omega) (Nat.le_refl _)
theorem classEsc_ok {p : Pt} (hg : ∀ i, 0 ≤ p.g i ∧ p.g i ≤ 255) {f a : Nat} (hf : f ≤ p.n) (ha : a ≤ p.n) : OkR p (fun r => a ≤ r.2 ∧ r.2 ≤ p.n ∧ Kd r.1) (p.classEsc f a) := by
 obtain ⟨_, q2, q3, _⟩ := char_pure hg ha
 unfold Pt.classEsc
 split
 · exact er_end
 · split
   · rename_i e he; exact (common_ok hg hf q3).err he
   · rename_i r hr
     have := (common_ok hg hf q3).val hr r.1 r.2 rfl
     exact ⟨by omega, this.2⟩
   · split
     · exact ⟨q2, q3, by simp [Kd]⟩
     · split
       · exact er_at (by omega) hf
       · exact ⟨q2, q3, by simp [Kd]⟩
theorem item_ok {p : Pt} (hg : ∀ i, 0 ≤ p.g i ∧ p.g i ≤ 255) {a : Nat} (ha : a ≤ p.n) : OkR p (fun r => a < r.2 ∧ r.2 ≤ p.n ∧ Kd r.1) (p.item a) := by
 obtain ⟨_, q2, q3, q4⟩ := char_pure hg ha
 unfold Pt.item
 split
 · exact er_end
 · rename_i hne
   have hlt := q4 (by omega)
   split
   · rename_i e he; exact (posix_ok ha).err he
   · rename_i r hr
     exact (posix_ok ha).val hr r.1 r.2 rfl
   · split
     · have := classEsc_ok (p := p) hg (f := a) ha q3
       cases h : p.classEsc a (p.char a).2 with
       | error x => exact this.err h
       | ok r => have := this.val h; exact ⟨by omega, this.2⟩
     · exact ⟨hlt, q3, by simp [Kd]⟩
theorem items_ok {p : Pt} (hg : ∀ i, 0 ≤ p.g i ∧ p.g i ≤ 255) {a : Nat} (ha : a ≤ p.n) : OkR p (fun r => a < r.2 ∧ r.2 ≤ p.n) (p.items a) := by
 unfold Pt.items
 split
 · rename_i e he; exact (item_ok hg ha).err he
 · rename_i c b hb
   have h1 := (item_ok hg ha).val hb
   split
   · rename_i hd
     have hb1 : b + 1 ≤ p.n := by
       unfold Pt.dash at hd
       simp only [Bool.and_eq_true] at hd
       exact has1 h1.2.1 hd.2.2
     split
     · rename_i e he; exact (item_ok hg hb1).err he
     · rename_i d b' hb'
       have h2 := (item_ok hg hb1).val hb'
       split
       · exact er_at (by omega) ha
       · show a < b' ∧ b' ≤ p.n
         simp only at h1 h2
         omega
   · exact ⟨h1.1, h1.2.1⟩
theorem more_ok {p : Pt} (hg : ∀ i, 0 ≤ p.g i ∧ p.g i ≤ 255) : ∀ {k : Nat} {l : List Rg} {a : Nat}, a ≤ p.n → OkR p (fun r => a < r.2 ∧ r.2 ≤ p.n) (p.more k l a)
 | 0, _, _, _ => er_end
 | k + 1, l, a, ha => by
   unfold Pt.more
   split
   · rename_i h1
     have := has1 ha h1
     exact ⟨Nat.lt_succ_self _, this⟩
   · split
     · rename_i e he; exact (items_ok hg ha).err he
     · rename_i m b hb
       have h1 := (items_ok hg ha).val hb
       have h2 := more_ok (p := p) hg (k := k) (l := l ++ m) h1.2
       cases h : p.more k (l ++ m) b with
       | error x => exact h2.err h
       | ok r => have := h2.val h; exact ⟨by simp only at h1; omega, this.2⟩
theorem cls_ok {p : Pt} (hg : ∀ i, 0 ≤ p.g i ∧ p.g i ≤ 255) {a : Nat} (ha : a ≤ p.n) : OkR p (fun r => a < r.2 ∧ r.2 ≤ p.n ∧ Kd r.1) (p.cls a) := by
 have hb : a ≤ (if p.has [94] a = true then a + 1 else a) ∧ (if p.has [94] a = true then a + 1 else a) ≤ p.n := by
   split
   · rename_i h
     have := has1 ha h
     omega
   · omega
 unfold Pt.cls
 split
 · rename_i e he; exact (items_ok hg hb.2).err he
 · rename_i l b hl
   have h1 := (items_ok hg hb.2).val hl
   split
   · rename_i e he; exact (more_ok hg h1.2).err he
   · rename_i l' b' hl'
     have h2 := (more_ok hg h1.2).val hl'
     simp only at h1 h2
     exact ⟨by show a < b'; omega, h2.2, by simp [Kd]⟩
theorem refer_ok {p : Pt} {f a : Nat} (hf : f ≤ p.n) (ha : a ≤ p.n) : OkR p (fun r => a ≤ r.2 ∧ r.2 ≤ p.n ∧ Kd r.1) (p.refer f a) := by
 have hq : a ≤ (p.quotes a).2.2 ∧ (p.quotes a).2.2 ≤ p.n ∧ ((p.quotes a).1 = 11 ∨ (p.quotes a).1 = 12) := by
   unfold Pt.quotes
   repeat' split
   all_goals first
     | (rename_i h; have := has1 ha h; refine ⟨?_, ?_, ?_⟩ <;> first | omega | simp)
     | (refine ⟨?_, ?_, ?_⟩ <;> first | omega | simp)
 have nm := name_ge hq.2.1
 unfold Pt.refer
 split
 · rename_i e he; exact (signed_ok hf hq.2.1).err he
 · rename_i n m b hb
   have h1 := (signed_ok hf hq.2.1).val hb _ _ _ rfl
   split
   · exact er_at (by omega) hf
   · rename_i h3
     have h4 := has_le h1.2 (by simpa using h3)
     split
     · exact er_at (by omega) hf
     · refine ⟨?_, h4, ?_⟩
       · show a ≤ b + _
         omega
       · have := hq.2.2
         simp only [Kd]
         omega
 · split
   · exact er_at (by omega) hf
   · rename_i h3
     simp only [not_or] at h3
     have h4 := has_le nm.2 (by simpa using h3.2.2)
     refine ⟨?_, h4, ?_⟩
     · show a ≤ _ + _
       omega
     · have := hq.2.2
       simp only [Kd]
       omega
theorem nback_ok {p : Pt} {f a : Nat} (hf : f ≤ p.n) (ha : a ≤ p.n) : OkR p (fun r => a ≤ r.2 ∧ r.2 ≤ p.n ∧ Kd r.1) (p.nback f a) := by
 have hq : a ≤ (p.quotes a).2.2 ∧ (p.quotes a).2.2 ≤ p.n := by
   unfold Pt.quotes
   repeat' split
   all_goals first
     | (rename_i h; have := has1 ha h; simp only; omega)
     | (simp only; omega)
 have nm := name_ge hq.2
 unfold Pt.nback
 split
 · exact er_at (by omega) hf
 · rename_i h3
   simp only [not_or] at h3
   have h4 := has_le nm.2 (by simpa using h3.2.2)
   exact ⟨by show a ≤ _ + _; omega, h4, by simp [Kd]⟩
def Rise : Nat → List Tk → Nat → Prop
 | a, [], b => a ≤ b
 | a, t :: l, b => a ≤ t.at_ ∧ t.at_ < t.to ∧ Kd t ∧ Rise t.to l b
theorem Rise.le : ∀ {l : List Tk} {a b : Nat}, Rise a l b → a ≤ b
 | [], _, _, h => h
 | t :: l, a, b, h => by have := Rise.le h.2.2.2; have := h.1; have := h.2.1; omega
theorem Rise.app : ∀ {l m : List Tk} {a b c : Nat}, Rise a l b → Rise b m c → Rise a (l ++ m) c
 | [], m, a, b, c, h, k => by
   cases m with
   | nil => exact Nat.le_trans h k
   | cons t m => exact ⟨Nat.le_trans h k.1, k.2⟩
 | t :: l, m, a, b, c, h, k => ⟨h.1, h.2.1, h.2.2.1, Rise.app h.2.2.2 k⟩
def Pc (p : Pt) (f : Nat) (r : List Tk × Nat) : Prop := f < r.2 ∧ r.2 ≤ p.n ∧ Rise f r.1 r.2
theorem one_ok {p : Pt} {f a : Nat} {r : R (Tk × Nat)} (hfa : f < a) (h : OkR p (fun r => a ≤ r.2 ∧ r.2 ≤ p.n ∧ Kd r.1) r) : OkR p (Pc p f) (one f r) := by
 cases r with
 | error x => exact h
 | ok v =>
   obtain ⟨t, b⟩ := v
   obtain ⟨h1, h2, h3⟩ := h
   exact ⟨Nat.lt_of_lt_of_le hfa h1, h2, Nat.le_refl _, Nat.lt_of_lt_of_le hfa h1, h3, Nat.le_refl _⟩
theorem quoted_ok {p : Pt} (hg : ∀ i, 0 ≤ p.g i ∧ p.g i ≤ 255) : ∀ {k a : Nat}, a ≤ p.n → (p.quoted k a).2 ≤ p.n ∧ Rise a (p.quoted k a).1 (p.quoted k a).2
 | 0, a, h => ⟨h, Nat.le_refl _⟩
 | k + 1, a, h => by
   unfold Pt.quoted
   obtain ⟨_, _, q3, q4⟩ := char_pure hg h
   split
   · exact ⟨h, Nat.le_refl _⟩
   · rename_i hne
     split
     · rename_i h2
       exact ⟨has2 h h2, Nat.le_add_right _ _⟩
     · have := quoted_ok (p := p) hg (k := k) q3
       exact ⟨this.1, Nat.le_refl _, q4 (by omega), by simp [Kd, lay], this.2⟩
theorem escape_ok {p : Pt} (hg : ∀ i, 0 ≤ p.g i ∧ p.g i ≤ 255) {f a : Nat} (hfa : f < a) (ha : a ≤ p.n) : OkR p (Pc p f) (p.escape f a) := by
 have hf : f ≤ p.n := by omega
 obtain ⟨_, q2, q3, _⟩ := char_pure hg ha
 have hb : f < (p.char a).2 := by omega
 unfold Pt.escape
 by_cases e : a = p.n
 · rw [if_pos e]; exact er_end
 · rw [if_neg e]
   generalize p.char a = cb at *
   obtain ⟨c, b⟩ := cb
   dsimp only at q2 q3 hb ⊢
   have leaf : ∀ t : Tk, Kd t → OkR p (Pc p f) (one f (.ok (t, b))) := fun t ht => one_ok hb ⟨Nat.le_refl _, q3, ht⟩
   cases hc : p.common f c b with
   | error x => exact (common_ok hg hf q3).err hc
   | ok o =>
     cases o with
     | some r => exact one_ok hb ((common_ok hg hf q3).val hc r.1 r.2 rfl)
     | none =>
       dsimp only
       by_cases k1 : assertE c ≠ 0
       · rw [if_pos k1]; exact leaf _ (by simp [Kd])
       rw [if_neg k1]
       by_cases k2 : c = 81
       · rw [if_pos k2]
         have := quoted_ok (p := p) hg (k := p.n - b) q3
         have hle := this.2.le
         exact ⟨by show f < _; omega, this.1, Rise.app (l := []) (show f ≤ b by omega) this.2⟩
       rw [if_neg k2]
       by_cases k3 : c = 69
       · rw [if_pos k3]; exact ⟨hb, q3, by show f ≤ _; omega⟩
       rw [if_neg k3]
       by_cases k4 : c = 78
       · rw [if_pos k4]; exact leaf _ (by simp [Kd])
       rw [if_neg k4]
       by_cases k5 : c = 75
       · rw [if_pos k5]; exact leaf _ (by simp [Kd])
       rw [if_neg k5]
       by_cases k6 : c = 82
       · rw [if_pos k6]; exact leaf _ (by simp [Kd])
       rw [if_neg k6]
       by_cases k7 : c = 103
       · rw [if_pos k7]; exact one_ok hb (refer_ok hf q3)
       rw [if_neg k7]
       by_cases k8 : c = 107
       · rw [if_pos k8]; exact one_ok hb (nback_ok hf q3)
       rw [if_neg k8]
       by_cases k9 : c ≠ 48 ∧ isDig c = true
       · rw [if_pos k9]
         cases hn : p.number f a with
         | error x => exact (number_ok hf ha).err hn
         | ok r =>
           have := (number_ok hf ha).val hn
           exact one_ok hfa ⟨this.1, this.2, by simp [Kd]⟩
       rw [if_neg k9]
       by_cases k10 : c = 48 ∨ isLet c = true
       · rw [if_pos k10]; exact er_at (by omega) hf
       rw [if_neg k10]
       exact leaf _ (by simp [Kd])
theorem broken_ok {p : Pt} {f a : Nat} (hf : f ≤ p.n) : Er p (p.broken f a) := by
 unfold Pt.broken
 split
 · exact er_end
 · exact er_at (by omega) hf
theorem close_ok {p : Pt} {f a : Nat} (hf : f ≤ p.n) (ha : a ≤ p.n) : OkR p (fun b => a ≤ b ∧ b ≤ p.n) (p.close f a) := by
 unfold Pt.close
 split
 · rename_i h; have := has1 ha h; exact ⟨Nat.le_succ _, this⟩
 · exact broken_ok hf
theorem plainK_ok {p : Pt} {a : Nat} (ha : a ≤ p.n) : ∀ {l : List (List UInt8 × Int)} {t : Tk} {b : Nat}, p.plainK a l = some (t, b) → a ≤ b ∧ b ≤ p.n ∧ Kd t
 | [], _, _, h => by cases h
 | (s, k) :: l, t, b, h => by
   unfold Pt.plainK at h
   split at h
   · rename_i h1
     have := has_le ha h1
     cases h
     exact ⟨Nat.le_add_right _ _, this, by simp [Kd]⟩
   · exact plainK_ok ha h
theorem naming_ok {p : Pt} {f a : Nat} (hf : f ≤ p.n) (ha : a ≤ p.n) : ∀ {l : List (List UInt8 × List UInt8 × Int × Int × Int)}, (∀ x ∈ l, 1 ≤ x.2.2.1 ∧ x.2.2.1 ≤ 15) → OkR p (fun r => ∀ t b, r = some (t, b) → a ≤ b ∧ b ≤ p.n ∧ Kd t) (p.naming f a l)
 | [], _ => by intro t b e; cases e
 | (s, z, k, n, m) :: l, hl => by
   unfold Pt.naming
   split
   · rename_i h1
     have h2 := has_le ha h1
     have h3 := name_ge h2
     split
     · exact er_end
     · split
       · exact er_at (by omega) hf
       · rename_i h4
         simp only [not_or] at h4
         have h5 := has_le h3.2 (by simpa using h4.2)
         intro t b e
         cases e
         exact ⟨by omega, h5, hl _ (List.mem_cons_self ..)⟩
   · exact naming_ok hf ha fun x hx => hl x (List.mem_cons_of_mem _ hx)
theorem counted_ok {p : Pt} {f a : Nat} (hf : f ≤ p.n) (ha : a ≤ p.n) : OkR p (fun r => ∀ t b, r = some (t, b) → a ≤ b ∧ b ≤ p.n ∧ Kd t) (p.counted f a) := by
 unfold Pt.counted
 split
 · rename_i e he; exact (signed_ok hf ha).err he
 · intro t b e; cases e
 · rename_i n m b hb
   have h1 := (signed_ok hf ha).val hb _ _ _ rfl
   split
   · rename_i e he; exact (close_ok hf h1.2).err he
   · rename_i b' hb'
     have h2 := (close_ok hf h1.2).val hb'
     split
     · exact er_at (by omega) hf
     · intro t b e; cases e; exact ⟨by omega, h2.2, by simp [Kd]⟩
theorem letters_bd {p : Pt} {a : Nat} (ha : a ≤ p.n) : a ≤ (p.letters a).2 ∧ (p.letters a).2 ≤ p.n := by
 have := run_bd (p := p) (fits := isOpt) (k := 1000) ha
 exact ⟨this.1, this.2.1⟩
theorem minus_bd {p : Pt} {a : Nat} (ha : a ≤ p.n) : a ≤ (p.minus a).2 ∧ (p.minus a).2 ≤ p.n := by
 unfold Pt.minus
 split
 · rename_i h
   have := letters_bd (has1 ha h)
   omega
 · exact ⟨Nat.le_refl _, ha⟩
theorem settings_ok {p : Pt} {f a : Nat} (hf : f ≤ p.n) (ha : a ≤ p.n) : OkR p (fun r => a ≤ r.2 ∧ r.2 ≤ p.n ∧ Kd r.1) (p.settings f a) := by
 have h1 := letters_bd ha
 have h2 := minus_bd h1.2
 unfold Pt.settings
 simp only
 split
 · rename_i h
   have := has1 h2.2 h
   exact ⟨by show a ≤ _ + 1; omega, this, by simp [Kd]⟩
 · split
   · rename_i e he; exact (close_ok hf h2.2).err he
   · rename_i b hb
     have := (close_ok hf h2.2).val hb
     exact ⟨by show a ≤ b; omega, this.2, by simp [Kd]⟩
theorem test_ok {p : Pt} {f a : Nat} (hf : f ≤ p.n) (ha : a ≤ p.n) : OkR p (fun r => ∀ t b, r = some (t, b) → a ≤ b ∧ b ≤ p.n ∧ Kd t) (p.test f a) := by
 unfold Pt.test
 split
 · rename_i h
   have := has_le ha h
   intro t b e; cases e; exact ⟨by omega, by simpa using this, by simp [Kd]⟩
 · split
   · rename_i h
     have h2 := name_ge (has2 ha h)
     intro t b e
     split at e
     · cases e; exact ⟨by omega, h2.2, by simp [Kd]⟩
     · cases e
   · split
     · rename_i h
       have h1 := has1 ha h
       split
       · rename_i e he; exact (number_ok hf h1).err he
       · rename_i n b hb
         have := (number_ok hf h1).val hb
         intro t b e; cases e; exact ⟨by simp only at this; omega, this.2, by simp [Kd]⟩
     · split
       · rename_i h
         have h2 := name_ge (has1 ha h)
         intro t b e
         split at e
         · rename_i h3
           have := has1 h2.2 h3.2
           cases e; exact ⟨by omega, this, by simp [Kd]⟩
         · cases e
       · split
         · rename_i h
           have h2 := name_ge (has1 ha h)
           intro t b e
           split at e
           · rename_i h3
             have := has1 h2.2 h3.2
             cases e; exact ⟨by omega, this, by simp [Kd]⟩
           · cases e
         · split
           · rename_i e he; exact (signed_ok hf ha).err he
           · intro t b e; cases e
           · rename_i n m b hb
             have := (signed_ok hf ha).val hb _ _ _ rfl
             intro t b e; cases e; exact ⟨by omega, this.2, by simp [Kd]⟩
theorem cond_ok {p : Pt} {f a : Nat} (hf : f ≤ p.n) (ha : a + 1 ≤ p.n) : OkR p (fun r => a ≤ r.2 ∧ r.2 ≤ p.n ∧ Kd r.1) (p.cond f a) := by
 unfold Pt.cond
 split
 · exact ⟨Nat.le_refl _, by show a ≤ p.n; omega, by simp [Kd]⟩
 · split
   · rename_i e he; exact (test_ok hf ha).err he
   · exact er_at (by omega) hf
   · rename_i t b hb
     have h1 := (test_ok hf ha).val hb _ _ rfl
     split
     · exact er_at (by omega) hf
     · rename_i h2
       have h3 := has1 h1.2.1 (by simpa using h2)
       split
       · exact er_at (by omega) hf
       · exact ⟨by show a ≤ b + 1; omega, h3, h1.2.2⟩
theorem verb_ok {p : Pt} {f a : Nat} (hf : f ≤ p.n) : OkR p (fun r => a ≤ r.2 ∧ r.2 ≤ p.n ∧ Kd r.1) (p.verb f a) := by
 unfold Pt.verb
 split
 · exact er_end
 · rename_i i hi
   have := until_bd hi
   simp only
   split
   · exact er_at (by omega) hf
   · exact ⟨by show a ≤ i + 1; omega, this.2, by simp [Kd]⟩
theorem special_ok {p : Pt} {f a : Nat} (hfa : f < a) (ha : a ≤ p.n) : OkR p (Pc p f) (p.special f a) := by
 have hf : f ≤ p.n := by omega
 unfold Pt.special
 split
 · rename_i r hr
   exact one_ok hfa (plainK_ok ha hr)
 · have hnt : ∀ x ∈ namingsT, 1 ≤ x.2.2.1 ∧ x.2.2.1 ≤ 15 := by decide
   split
   · rename_i e he; exact (naming_ok hf ha hnt).err he
   · rename_i r hr
     exact one_ok hfa ((naming_ok hf ha hnt).val hr _ _ rfl)
   · split
     · rename_i e he; exact (counted_ok hf ha).err he
     · rename_i r hr
       exact one_ok hfa ((counted_ok hf ha).val hr _ _ rfl)
     · split
       · rename_i h
         split
         · exact er_end
         · rename_i i hi
           have := until_bd hi
           exact ⟨by show f < i + 1; omega, this.2, by show f ≤ i + 1; omega⟩
       · split
         · rename_i h
           exact one_ok hfa (cond_ok hf (has1 ha h))
         · split
           · rename_i h
             have h1 := has1 ha h
             refine one_ok hfa ?_
             split
             · rename_i e he; exact (close_ok hf h1).err he
             · rename_i b hb
               have := (close_ok hf h1).val hb
               exact ⟨by show a ≤ b; omega, this.2, by simp [Kd]⟩
           · split
             · rename_i h
               have h1 := has1 ha h
               refine one_ok hfa ?_
               split
               · rename_i e he; exact (number_ok hf h1).err he
               · rename_i n b hb
                 have h2 := (number_ok hf h1).val hb
                 split
                 · rename_i e he; exact (close_ok hf h2.2).err he
                 · rename_i b' hb'
                   have := (close_ok hf h2.2).val hb'
                   simp only at h2
                   exact ⟨by show a ≤ b'; omega, this.2, by simp [Kd]⟩
             · split
               · exact broken_ok hf
               · exact one_ok hfa (settings_ok hf ha)
theorem group_ok {p : Pt} {f a : Nat} (hfa : f < a) (ha : a ≤ p.n) : OkR p (Pc p f) (p.group f a) := by
 have hf : f ≤ p.n := by omega
 unfold Pt.group
 split
 · rename_i h
   have := has1 ha h
   exact one_ok (a := a + 1) (by omega) (verb_ok hf)
 · split
   · rename_i h
     exact special_ok (by omega) (has1 ha h)
   · exact one_ok hfa ⟨Nat.le_refl _, ha, by simp [Kd]⟩
theorem quant_ok {p : Pt} {f : Nat} (hf : f ≤ p.n) : OkR p (fun r => ∀ t b, r = some (t, b) → f + 1 ≤ b ∧ b ≤ p.n ∧ Kd t) (p.quant f) := by
 unfold Pt.quant
 split
 · rename_i h
   have := mode_bd (has1 hf h)
   intro t b e; cases e; exact ⟨this.1, this.2, by simp [Kd]⟩
 · split
   · rename_i h
     have := mode_bd (has1 hf h)
     intro t b e; cases e; exact ⟨this.1, this.2, by simp [Kd]⟩
   · split
     · rename_i h
       have := mode_bd (has1 hf h)
       intro t b e; cases e; exact ⟨this.1, this.2, by simp [Kd]⟩
     · split
       · rename_i e he; exact (braces_ok hf).err he
       · intro t b e; cases e
       · rename_i n m b hb
         have h1 := (braces_ok hf).val hb _ _ _ rfl
         have := mode_bd h1.2
         intro t b e; cases e; exact ⟨by omega, this.2, by simp [Kd]⟩
theorem ign_bd {p : Pt} {c : Int} {a b : Nat} (ha : a ≤ p.n) (h : p.ign c a = some b) : a ≤ b ∧ b ≤ p.n := by
 unfold Pt.ign at h
 split at h
 · cases h
 · split at h
   · split at h
     · cases h; exact ⟨ha, Nat.le_refl _⟩
     · rename_i i hi
       have := until_bd hi
       cases h
       omega
   · split at h
     · cases h; exact ⟨Nat.le_refl _, ha⟩
     · cases h
theorem token_ok {p : Pt} (hg : ∀ i, 0 ≤ p.g i ∧ p.g i ≤ 255) {f : Nat} (hf : f < p.n) : OkR p (Pc p f) (p.token f) := by
 have hle : f ≤ p.n := by omega
 obtain ⟨_, _, q3, q4⟩ := char_pure hg hle
 have hb := q4 hf
 have leaf : ∀ t : Tk, Kd t → OkR p (Pc p f) (one f (.ok (t, (p.char f).2))) := fun t ht => one_ok hb ⟨Nat.le_refl _, q3, ht⟩
 unfold Pt.token
 split
 · rename_i e he; exact (quant_ok hle).err he
 · rename_i r hr
   exact one_ok (Nat.lt_succ_self _) ((quant_ok hle).val hr _ _ rfl)
 · simp only
   split
   · exact escape_ok hg hb q3
   · split
     · refine one_ok hb ?_
       cases h : p.cls (p.char f).2 with
       | error x => exact (cls_ok hg q3).err h
       | ok r => have := (cls_ok hg q3).val h; exact ⟨Nat.le_of_lt this.1, this.2⟩
     · split
       · exact group_ok hb q3
       · split
         · exact leaf _ (by simp [Kd])
         · split
           · exact leaf _ (by simp [Kd])
           · split
             · exact leaf _ (by simp [Kd])
             · split
               · exact leaf _ (by simp [Kd])
               · split
                 · exact leaf _ (by simp [Kd])
                 · split
                   · rename_i b' hb'
                     have := ign_bd q3 hb'
                     exact ⟨by show f < b'; omega, this.2, by show f ≤ b'; omega⟩
                   · exact leaf _ (by simp [Kd])
theorem read_ok {p : Pt} (hg : ∀ i, 0 ≤ p.g i ∧ p.g i ≤ 255) : ∀ {k : Nat} {T : List Tk} {a : Nat}, a ≤ p.n → Rise 0 T a → OkR p (fun l => Rise 0 l p.n) (p.read k T a)
 | 0, T, a, ha, h => by
   have : Rise 0 (T ++ []) p.n := Rise.app h (show a ≤ p.n from ha)
   show Rise 0 T p.n
   simpa using this
 | k + 1, T, a, ha, h => by
   unfold Pt.read
   split
   · rename_i e
     subst e
     exact h
   · rename_i hne
     split
     · rename_i e he; exact (token_ok hg (by omega)).err he
     · rename_i ts b hb
       have := (token_ok hg (by omega)).val hb
       exact read_ok hg this.2.1 (Rise.app h this.2.2)
end Go.Proofs.YtkcmjcgjfjfimaaGreatDoor.tkp
end
section
namespace Go.Proofs.YtkcmjcgjfjfimaaGreatDoor.tkp
open Go utfp ucdp setp prp tkw
theorem ascii_seq {g : Nat → Int} {n p : Nat} (hg : ∀ i, 0 ≤ g i ∧ g i ≤ 255) (hp : p < n) (h : g p < 128) : seqAt g n p = (g p, 1) := by
 have h0 := (hg p).1
 have hl : len0 (g p) = 1 := by unfold len0; rw [if_pos h]
 have hw : wid (g p) = 1 := by unfold wid; rw [if_neg (by omega), if_pos h]
 unfold seqAt
 rw [hl, if_neg (by omega)]
 simp [conts, acc, head0, hw]
theorem char_byte {p : Pt} (hg : ∀ i, 0 ≤ p.g i ∧ p.g i ≤ 255) {a : Nat} (ha : a < p.n) (h : p.u = false ∨ p.g a < 128) : p.char a = (p.g a, a + 1) := by
 have hs : stepv p.u p.g p.n a = (p.g a, (a : Int) + 1) := by
   unfold stepv
   rcases h with h | h
   · rw [h, if_neg (by simp)]
   · rw [ascii_seq hg ha h]
     split <;> rfl
 unfold Pt.char
 rw [nextP_step _ _ _ _ hg ha]
 unfold stepN
 rw [hs]
 refine Prod.ext rfl ?_
 show (((a : Int) + 1).toNat : Int).toNat = a + 1
 omega
theorem has_not {p : Pt} {c : UInt8} {l : List UInt8} {a : Nat} (h : p.g a ≠ (c.toNat : Int)) : p.has (c :: l) a = false := by simp [Pt.has, h]
theorem quant_none {p : Pt} {f : Nat} (h1 : p.g f ≠ 42) (h2 : p.g f ≠ 43) (h3 : p.g f ≠ 63) (h4 : p.g f ≠ 123) : p.quant f = .ok none := by
 unfold Pt.quant Pt.braces
 rw [has_not (c := 42) h1, has_not (c := 43) h2, has_not (c := 63) h3, has_not (c := 123) h4]
 simp
def ptOf (g : Nat → Int) (n : Nat) (o : Int) : Pt := { g := g, n := n, u := o.toNat.testBit 5, x := o.toNat.testBit 3 }
theorem lexP_run {g : Nat → Int} {n : Nat} {o : Int} (h0 : 0 ≤ o) (h1 : o ≤ 65535) (hn : n ≤ 1000) (hv : o.toNat.testBit 5 = true → (validP g n).2 = true) : lexP g n o = (ptOf g n o).read (n + 1) [] 0 := by
 unfold lexP
 rw [if_neg (by omega), if_neg (by omega), if_neg]
 · rfl
 · rintro ⟨h, h'⟩
   rw [hv h] at h'
   cases h'
theorem lex_arg {g : Nat → Int} {n : Nat} {o : Int} (h : o < 0 ∨ 65535 < o) : lexP g n o = .error (1, 0) := by
 unfold lexP
 rw [if_pos h]
def Chain (p : Pt) : Nat → List Tk → Nat → Prop
 | a, [], e => a = e
 | a, t :: l, e => t.kind = 1 ∧ t.at_ = a ∧ (p.u = false → t.c = p.g a) ∧ Chain p t.to l e
theorem step_stop {p : Pt} (hg : ∀ i, 0 ≤ p.g i ∧ p.g i ≤ 255) {a e : Nat} (ha : a < e) (he : e ≤ p.n) (hs : e < p.n → p.g e < 128) : (p.char a).2 ≤ e := by
 obtain ⟨_, q2, q3, _⟩ := char_pure hg (a := a) (by omega)
 by_cases h : e < p.n
 · by_cases hlt : (p.char a).2 ≤ e
   · exact hlt
   · exfalso
     have hn := nextP_step p.u p.g p.n a hg (by omega)
     unfold Pt.char at hlt
     rw [hn] at hlt
     simp only [Int.toNat_natCast] at hlt
     unfold stepN stepv at hlt
     split at hlt
     · rename_i hc
       simp only at hlt
       have bd := seqAt_num (n := p.n) (p := a) hg
       have ins := inside (n := p.n) (p := a) (q := e) hg ha (by omega)
       rw [ascii_seq hg h (hs h)] at ins
       simp at ins
     · simp only at hlt
       omega
 · omega
theorem quoted_chain {p : Pt} (hg : ∀ i, 0 ≤ p.g i ∧ p.g i ≤ 255) {e : Nat} (he : e = p.n ∨ (p.has [92, 69] e = true ∧ e + 2 = p.n)) : ∀ (k a : Nat), a ≤ e → e - a ≤ k → (∀ i, a ≤ i → i < e → p.has [92, 69] i = false) → (e < p.n → 1 ≤ k - (e - a)) →
   Chain p a (p.quoted k a).1 e ∧ (p.quoted k a).2 = p.n
 | 0, a, h1, h2, _, h4 => by
   have : a = e := by omega
   subst this
   rcases he with he | ⟨_, he⟩
   · exact ⟨rfl, he⟩
   · have := h4 (by omega); omega
 | k + 1, a, h1, h2, h3, h4 => by
   have hen : e ≤ p.n := by rcases he with he | he <;> omega
   unfold Pt.quoted
   by_cases hae : a = e
   · subst hae
     rcases he with he | ⟨hb, he⟩
     · rw [if_pos he]; exact ⟨rfl, he⟩
     · rw [if_neg (by omega), if_pos hb]; exact ⟨rfl, he⟩
   · have hb := h3 a (Nat.le_refl _) (by omega)
     rw [if_neg (by omega), if_neg (by simp [hb])]
     have hst := step_stop hg (a := a) (e := e) (by omega) hen (by
       intro hlt
       rcases he with he | ⟨hb, he⟩
       · omega
       · unfold Pt.has at hb
         simp only [Bool.and_eq_true, decide_eq_true_eq] at hb
         have := hb.1.2
         rw [this]; decide)
     obtain ⟨_, q2, q3, q4⟩ := char_pure hg (a := a) (by omega)
     have hgt := q4 (by omega)
     have ih := quoted_chain hg he k (p.char a).2 hst (by omega) (fun i i1 i2 => h3 i (by omega) i2) (fun hlt => by have := h4 hlt; omega)
     refine ⟨⟨rfl, rfl, fun hu => ?_, ih.1⟩, ih.2⟩
     show (p.char a).1 = _
     rw [char_byte hg (by omega) (Or.inl hu)]
theorem validF_ge {g : Nat → Int} {n : Nat} (hg : ∀ i, 0 ≤ g i ∧ g i ≤ 255) : ∀ f (p : Nat), (p : Int) ≤ (validF g n f p).1
 | 0, p => by simp [validF]
 | f + 1, p => by
   have hb := seqAt_num (n := n) (p := p) hg
   simp only [validF]
   split
   · split
     · exact Int.le_refl _
     · have := validF_ge (n := n) hg f (p + (seqAt g n p).2.toNat)
       omega
   · exact Int.le_refl _
theorem valid_two {g : Nat → Int} {n : Nat} (hg : ∀ i, 0 ≤ g i ∧ g i ≤ 255) (h2 : 2 ≤ n) (h0 : g 0 < 128) (h1 : g 1 < 128) : 2 ≤ (validP g n).1 := by
 unfold validP
 rw [validP_step hg (by omega), ascii_seq hg (by omega) h0, if_neg (by simp)]
 show 2 ≤ (validF g n n (0 + 1)).1
 rw [validP_step hg (by omega), ascii_seq hg (by omega) h1, if_neg (by simp)]
 exact validF_ge hg n 2
theorem quote_token {p : Pt} (hg : ∀ i, 0 ≤ p.g i ∧ p.g i ≤ 255) (h0 : p.g 0 = 92) (h1 : p.g 1 = 81) (hn : 2 ≤ p.n) : p.token 0 = .ok (p.quoted (p.n - 2) 2) := by
 unfold Pt.token
 rw [quant_none (by omega) (by omega) (by omega) (by omega), char_byte hg (by omega) (Or.inr (by omega)), h0]
 dsimp only
 rw [if_pos rfl]
 unfold Pt.escape
 rw [if_neg (by omega), char_byte hg (by omega) (Or.inr (by show p.g 1 < 128; omega)), show p.g (0 + 1) = 81 from h1]
 have hc : p.common 0 81 (0 + 1 + 1) = .ok none := by
   unfold Pt.common
   rw [if_neg (by decide), if_neg (by decide), if_neg (by decide), if_neg (by decide)]
 dsimp only
 rw [hc]
 dsimp only
 rw [if_neg (by decide), if_pos rfl]
theorem lex_quote {g : Nat → Int} {n : Nat} {o : Int} (hg : ∀ i, 0 ≤ g i ∧ g i ≤ 255) (ho : 0 ≤ o) (ho2 : o ≤ 65535) (hn : n ≤ 1000) (h2 : 2 ≤ n) (h0 : g 0 = 92) (h1 : g 1 = 81) {e : Nat} (h2e : 2 ≤ e)
   (he : e = n ∨ (g e = 92 ∧ g (e + 1) = 69 ∧ e + 2 = n)) (hno : ∀ i, 2 ≤ i → i < e → ¬ (g i = 92 ∧ g (i + 1) = 69 ∧ i + 1 < n)) :
   (∃ T, lexP g n o = .ok T ∧ Chain (ptOf g n o) 2 T e) ∨ (∃ x, lexP g n o = .error (13, x) ∧ 2 ≤ x ∧ o.toNat.testBit 5 = true) := by
 by_cases hv : o.toNat.testBit 5 = true ∧ (validP g n).2 = false
 · right
   refine ⟨(validP g n).1, ?_, valid_two hg h2 (by omega) (by omega), hv.1⟩
   unfold lexP
   rw [if_neg (by omega), if_neg (by omega), if_pos hv]
 · left
   rw [lexP_run ho ho2 hn (fun hu => by cases h : (validP g n).2 with | true => rfl | false => exact absurd ⟨hu, h⟩ hv)]
   have has2 : ∀ i, (ptOf g n o).has [92, 69] i = (decide (i < n) && decide (g i = 92) && (decide (i + 1 < n) && decide (g (i + 1) = 69))) := fun i => by
     show (decide (i < n) && decide (g i = 92) && (decide (i + 1 < n) && decide (g (i + 1) = 69) && true)) = _
     rw [Bool.and_true]
   have hq := quoted_chain (p := ptOf g n o) hg (e := e) (by
     rcases he with he | ⟨e1, e2, e3⟩
     · exact Or.inl he
     · exact Or.inr ⟨by rw [has2]; simp [e1, e2]; omega, e3⟩) (n - 2) 2 h2e (by rcases he with he | he <;> omega) (fun i i1 i2 => by
       rw [has2]
       have := hno i i1 i2
       cases hb : (decide (i < n) && decide (g i = 92) && (decide (i + 1 < n) && decide (g (i + 1) = 69))) with
       | false => rfl
       | true =>
         simp only [Bool.and_eq_true, decide_eq_true_eq] at hb
         exact absurd ⟨hb.1.2, hb.2.2, hb.2.1⟩ this) (fun hlt => by
       have hlt' : e < n := hlt
       rcases he with he | he <;> omega)
   unfold Pt.read
   rw [if_neg (show ¬ (0 = (ptOf g n o).n) by show ¬ 0 = n; omega), quote_token (p := ptOf g n o) hg h0 h1 h2]
   dsimp only
   have hfin : (ptOf g n o).quoted ((ptOf g n o).n - 2) 2 = (((ptOf g n o).quoted (n - 2) 2).1, n) := Prod.ext rfl hq.2
   rw [hfin]
   dsimp only
   obtain ⟨m, rfl⟩ : ∃ m, n = m + 1 := ⟨n - 1, by omega⟩
   unfold Pt.read
   rw [if_pos (show m + 1 = (ptOf g (m + 1) o).n from rfl)]
   exact ⟨_, rfl, by rw [List.nil_append]; exact hq.1⟩
end Go.Proofs.YtkcmjcgjfjfimaaGreatDoor.tkp
end
section
namespace Go.Proofs.YtkcmjcgjfjfimaaGreatDoor.tkw
open Go Go.RowKit Go.Maps utfp utfw ucdp setp setw prp tkp
theorem wraps_i64_62 (n : Int) (h₀ : 0 ≤ n) (h₁ : n < 2 ^ 62) : IntKind.i64.wrap n = n := by rw [IntKind.wrap_i64]; omega
theorem opt_bit (o : Int) (h0 : 0 ≤ o) (h1 : o ≤ 65535) (i : Nat) (hi : i ≤ 15) : (bits .and .i64 o ((2 ^ i : Nat) : Int) != 0) = o.toNat.testBit i := by
 obtain ⟨n, rfl⟩ : ∃ n : Nat, o = n := ⟨o.toNat, by omega⟩
 have hp : 2 ^ i ≤ 2 ^ 15 := Nat.pow_le_pow_right (by decide) hi
 have h := (bits_nat .i64 62 (by decide) wraps_i64_62 n (2 ^ i) (by omega) (by omega)).1
 rw [h, Int.toNat_natCast]
 have hb : ∀ j, (n &&& 2 ^ i).testBit j = (n.testBit j && decide (i = j)) := fun j => by rw [Nat.testBit_and, Nat.testBit_two_pow]
 cases ht : n.testBit i with
 | false =>
   have : n &&& 2 ^ i = 0 := Nat.eq_of_testBit_eq fun j => by
     rw [hb, Nat.zero_testBit]
     by_cases e : i = j
     · subst e; rw [ht]; rfl
     · simp [e]
   rw [this]
   rfl
 | true =>
   have : n &&& 2 ^ i ≠ 0 := fun e => by
     have h2 := hb i
     rw [e, ht] at h2
     simp at h2
   simpa using this
structure Fresh (w0 w : World) (L m1 m2 m3 : Nat) (pv : Value) (p : Pt) : Prop where
 lx : w.heap[L]? = some (.cells #[pv, .int .i64 0, .int .i64 0, .int .i64 p.most, .bool p.u, .bool p.x, .map (some m1), .map (some m2), .map (some m3), .slice none 0 0] 56 (0, 0))
 e1 : ∃ n, MapI w m1 n escL
 e2 : ∃ n, MapI w m2 n assL
 e3 : ∃ n, MapI w m3 n optL
 b1 : w0.heap.size ≤ m1 ∧ m1 < w.heap.size
 b2 : w0.heap.size ≤ m2 ∧ m2 < w.heap.size
 b3 : w0.heap.size ≤ m3 ∧ m3 < w.heap.size
 bL : w0.heap.size ≤ L ∧ L < w.heap.size
 ne : m1 ≠ L ∧ m2 ≠ L ∧ m3 ≠ L
def NewB (w : World) (pv : Value) (p : Pt) (e : Ending) (w' : World) : Prop := ∃ L m1 m2 m3, e = .returned (.pointer (some ⟨L, 0, none⟩)) ∧ Fresh w w' L m1 m2 m3 pv p ∧ Below w.heap.size w w'
theorem mapI_lt {w : World} {b n : Nat} {l : List (Int × Int)} (h : MapI w b n l) : b < w.heap.size := by
 obtain ⟨es, clock, hb, _⟩ := h
 apply Classical.byContradiction
 intro hn
 have : w.heap[b]? = none := by simp; omega
 rw [this] at hb
 cases hb
theorem mapI_below {w w' : World} {b n : Nat} {l : List (Int × Int)} (h : MapI w b n l) (hb : Below w.heap.size w w') : MapI w' b n l := mapI_block h (hb.block b (mapI_lt h))
set_option maxRecDepth 100000 in
set_option maxHeartbeats 4000000 in
theorem newLexer_any (a : Option Addr) (n cap : Nat) (g : Nat → Int) (o : Int) (w : World) (h0 : 0 ≤ o) (h1 : o ≤ 65535) : Calls Tryz.prog 11 #[.slice a n cap, .int .i64 o] w (NewB w (.slice a n cap) (ptOf g n o)) := by
 have hu := opt_bit o h0 h1 5 (by decide)
 have hx := opt_bit o h0 h1 3 (by decide)
 have e5 : (((2 ^ 5 : Nat) : Int)) = 32 := by decide
 have e3 : (((2 ^ 3 : Nat) : Int)) = 8 := by decide
 rw [e5] at hu
 rw [e3] at hx
 clear e5 e3
 obtain ⟨x, hxx⟩ : ∃ x, o.toNat.testBit 3 = x := ⟨_, rfl⟩
 rw [hxx] at hx
 have fin : ∀ (u : Bool) (most : Int) (b1 n1 b2 n2 b3 n3 : Nat) (w1 w2 w3 w4 : World), o.toNat.testBit 5 = u → (if u = true then 1114111 else 255) = most → Hid (MapI w1 b1 n1 escL) → Hid (MapI w2 b2 n2 assL) → Hid (MapI w3 b3 n3 optL) → Below w.heap.size w w1 → Below w1.heap.size w1 w2 → Below w2.heap.size w2 w3 →
     w.heap.size ≤ b1 → w1.heap.size ≤ b2 → w2.heap.size ≤ b3 → Below w3.heap.size w3 w4 → w4.heap.size = w3.heap.size + 1 →
     w4.heap[w3.heap.size]? = some (.cells #[.slice a n cap, .int .i64 0, .int .i64 0, .int .i64 most, .bool u, .bool x, .map (some b1), .map (some b2), .map (some b3), .slice none 0 0] 56 (0, 0)) →
     NewB w (.slice a n cap) (ptOf g n o) (.returned (.pointer (some ⟨w3.heap.size, 0, none⟩))) w4 := by
   intro u most b1 n1 b2 n2 b3 n3 w1 w2 w3 w4 hu2 hm H1 H2 H3 k1 k2 k3 l1 l2 l3 k4 hs hc
   have s1 := k1.size
   have s2 := k2.size
   have s3 := k3.size
   have m1 := mapI_lt H1.out
   have m2 := mapI_lt H2.out
   have m3 := mapI_lt H3.out
   refine ⟨w3.heap.size, b1, b2, b3, rfl, ⟨?_, ⟨n1, mapI_below (mapI_below (mapI_below H1.out k2) k3) k4⟩, ⟨n2, mapI_below (mapI_below H2.out k3) k4⟩, ⟨n3, mapI_below H3.out k4⟩, by omega, by omega, by omega, by omega, by omega⟩, ((k1.trans (k2.mono s1)).trans (k3.mono (by omega))).trans (k4.mono (by omega))⟩
   rw [hc]
   unfold ptOf Pt.most
   simp only [hu2, hxx, hm]
 have FIN := Lib.hid fin
 clear fin hxx
 go_enter Tryz.func11, Tryz.ntmps11
 cases hub : o.toNat.testBit 5 with
 | false =>
   rw [hub] at hu
   go_wp2_with fail
   refine (escapes_any _).mono ?_
   rintro e1 w1 ⟨b1, n1, rfl, hm1, hb1, hl1⟩
   have HM1 := Lib.hid hm1
   clear hm1
   go_wp2_with fail
   refine (asserts_any _).mono ?_
   rintro e2 w2 ⟨b2, n2, rfl, hm2, hb2, hl2⟩
   have HM2 := Lib.hid hm2
   clear hm2
   go_wp2_with fail
   refine (options_any _).mono ?_
   rintro e3 w3 ⟨b3, n3, rfl, hm3, hb3, hl3⟩
   have HM3 := Lib.hid hm3
   clear hm3
   go_wp2_with fail
   go_ret
   exact FIN.out false 255 b1 n1 b2 n2 b3 n3 w1 w2 w3 _ hub rfl HM1 HM2 HM3 hb1 hb2 hb3 hl1 hl2 hl3 (below_al w3 _) (by simp) (heap_alloc_new w3 _)
 | true =>
   rw [hub] at hu
   go_wp2_with fail
   refine (escapes_any _).mono ?_
   rintro e1 w1 ⟨b1, n1, rfl, hm1, hb1, hl1⟩
   have HM1 := Lib.hid hm1
   clear hm1
   go_wp2_with fail
   refine (asserts_any _).mono ?_
   rintro e2 w2 ⟨b2, n2, rfl, hm2, hb2, hl2⟩
   have HM2 := Lib.hid hm2
   clear hm2
   go_wp2_with fail
   refine (options_any _).mono ?_
   rintro e3 w3 ⟨b3, n3, rfl, hm3, hb3, hl3⟩
   have HM3 := Lib.hid hm3
   clear hm3
   go_wp2_with fail
   go_ret
   refine FIN.out true 1114111 b1 n1 b2 n2 b3 n3 w1 w2 w3 _ hub rfl HM1 HM2 HM3 hb1 hb2 hb3 hl1 hl2 hl3 ?_ (by simp) (by first | exact heap_alloc_new w3 _ | simp)
   first | exact below_al w3 _ | exact (below_al w3 _).setCell (Nat.le_refl _) _ | (trace_state; fail)
end Go.Proofs.YtkcmjcgjfjfimaaGreatDoor.tkw
end
section
namespace Go.Proofs.YtkcmjcgjfjfimaaGreatDoor.tkp
open Go utfp ucdp setp prp tkw
theorem read_succ (p : Pt) (k : Nat) (T : List Tk) (a : Nat) : p.read (k + 1) T a = if a = p.n then .ok T else match p.token a with | .error e => .error e | .ok (ts, b) => p.read k (T ++ ts) b := rfl
end Go.Proofs.YtkcmjcgjfjfimaaGreatDoor.tkp
end
