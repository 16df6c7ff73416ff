/- Texts that TreeCountsLaw leans on, merged: what the functions of the program answer. -/
import Derived.BigQuiet
import Derived.Laws.BytesArg
import Derived.Laws.CopyRow
import Derived.Laws.Rows
import Derived.Lib.Hide
import Derived.Lib.QuietBelow
import Derived.OwnWalk
import Derived.Test.YtpjaahojoabgjaaRows
import Derived.WalkKit
namespace Go.Proofs.Ytpjaahojoabgjaa.lawTreeCounts
end Go.Proofs.Ytpjaahojoabgjaa.lawTreeCounts
namespace Go.Proofs.Ytpjaahojoabgjaa.trp
end Go.Proofs.Ytpjaahojoabgjaa.trp
namespace Go.Proofs.Ytpjaahojoabgjaa.trw
end Go.Proofs.Ytpjaahojoabgjaa.trw
section
namespace Go.Proofs.Ytpjaahojoabgjaa.trp
open Go
structure Lab where
 kind : Int
 at_ : Int
 c : Int
 sv : Value
 set : List (Int × Int)
 neg : Bool
 n : Int
 m : Int
 mode : Int
 name : ByteArray
 on : Int
 off : Int
 kv : Value
inductive F where
 | nil
 | cons (x : Lab) (k r : F)
def F.len : F → Nat
 | .nil => 0
 | .cons _ _ r => r.len + 1
def F.size : F → Nat
 | .nil => 0
 | .cons _ k r => k.size + r.size + 1
def F.deep : F → Nat
 | .nil => 0
 | .cons _ k r => max (k.deep + 1) r.deep
def F.hd : F → Int
 | .nil => 0
 | .cons x _ _ => x.kind
def F.drop : F → Nat → F
 | f, 0 => f
 | .nil, _ + 1 => .nil
 | .cons _ _ r, n + 1 => r.drop n
abbrev Nd := Lab × F
def pre : List Nat → Nat → F → List (Nd × List Nat)
 | _, _, .nil => []
 | pp, i, .cons x k r => ((x, k), pp ++ [i]) :: (pre (pp ++ [i]) 0 k ++ pre pp (i + 1) r)
def preT (t : Nd) : List (Nd × List Nat) := pre [] 0 (.cons t.1 t.2 .nil)
theorem pre_length : ∀ (f : F) (pp : List Nat) (i : Nat), (pre pp i f).length = f.size
 | .nil, _, _ => rfl
 | .cons x k r, pp, i => by
   simp only [pre, List.length_cons, List.length_append, pre_length k, pre_length r, F.size]
theorem preT_length (t : Nd) : (preT t).length = t.2.size + 1 := by
 unfold preT
 rw [pre_length]
 rfl
def rises : Int → List (Int × Int) → Bool
 | _, [] => true
 | lo, r :: l => decide (lo ≤ r.1) && decide (r.1 ≤ r.2) && decide (r.2 ≤ 1114111) && rises (r.2 + 2) l
def wi (n a b : Int) : Bool := decide (a ≤ n) && decide (n ≤ b)
def repK (k : Int) : Bool := !(decide (k = 4) || decide (k = 5) || decide (k = 9) || decide (k = 10) || decide (k = 11))
def leafP (x : Lab) : Bool :=
 if x.kind = 1 then wi x.c 0 1114111
 else if x.kind = 2 then rises 0 x.set
 else if x.kind = 3 ∨ x.kind = 5 ∨ x.kind = 6 ∨ x.kind = 11 then true
 else if x.kind = 4 then wi x.n 1 10
 else if x.kind = 7 ∨ x.kind = 8 then wi x.m 0 3 && wi x.n 0 255
 else if x.kind = 9 then wi x.n 1 7
 else if x.kind = 10 then wi x.n 0 255
 else false
def condP (x : Lab) (k : F) : Bool :=
 wi x.mode (-1) 255 && wi x.m 0 3 && (if x.n = 9 ∨ x.n = 10 ∨ x.n = 11 then wi k.len 1 2 else if x.n = 12 then decide (k.len = 1) else if x.n = 13 then wi k.len 2 3 && decide (k.hd = 18) else false)
def repP (x : Lab) (k : F) : Bool := wi x.n 0 255 && (decide (x.m = -1) || wi x.m x.n 255) && wi x.mode 0 2 && repK k.hd
def mayP (t : Nd) : Bool :=
 if t.1.kind = 12 then decide (t.2.len ≠ 1)
 else if t.1.kind = 13 then decide (2 ≤ t.2.len)
 else if t.1.kind = 16 then decide (1 ≤ t.2.len)
 else if t.1.kind = 14 ∨ t.1.kind = 15 ∨ t.1.kind = 17 then decide (t.2.len = 1)
 else if t.1.kind = 18 then decide (t.2.len = 1) && wi t.1.n 5 8
 else if t.1.kind = 19 then condP t.1 t.2
 else if t.1.kind = 20 then decide (t.2.len = 1) && repP t.1 t.2
 else decide (t.2.len = 0) && leafP t.1
def allP : F → Bool
 | .nil => true
 | .cons x k r => mayP (x, k) && allP k && allP r
theorem all_pre : ∀ (f : F) (pp : List Nat) (i : Nat), (pre pp i f).all (fun q => mayP q.1) = allP f
 | .nil, _, _ => rfl
 | .cons x k r, pp, i => by
   simp only [pre, List.all_cons, List.all_append, all_pre k, all_pre r, allP, Bool.and_assoc]
def checkP (t : Nd) : Bool := decide (t.2.size + 1 ≤ 4000) && decide (t.2.deep + 1 ≤ 300) && (mayP t && allP t.2)
theorem all_preT (t : Nd) : (preT t).all (fun q => mayP q.1) = (mayP t && allP t.2) := by
 unfold preT
 rw [all_pre]
 simp [allP]
def cnt : F → Int → Int
 | .nil, l => l
 | .cons _ k r, l => if l < 0 then l else cnt r (cnt k (l - 1))
theorem cnt_neg : ∀ (f : F) (l : Int), l < 0 → cnt f l = l
 | .nil, _, _ => rfl
 | .cons _ _ _, l, h => by unfold cnt; rw [if_pos h]
theorem cnt_eq : ∀ (f : F) (l : Int), 0 ≤ l → cnt f l = max (-1) (l - f.size)
 | .nil, l, h => by simp only [cnt, F.size]; omega
 | .cons _ k r, l, h => by
   unfold cnt
   rw [if_neg (by omega)]
   by_cases h0 : l = 0
   · subst h0
     rw [cnt_neg k _ (by omega), cnt_neg r _ (by omega)]
     simp only [F.size]
     omega
   · have hk := cnt_eq k (l - 1) (by omega)
     rw [hk]
     by_cases h1 : 0 ≤ l - 1 - k.size
     · rw [show max (-1) (l - 1 - (k.size : Int)) = l - 1 - k.size by omega, cnt_eq r _ h1]
       simp only [F.size]
       omega
     · rw [cnt_neg r _ (by omega)]
       simp only [F.size]
       omega
theorem cnt_cons {x : Lab} {k r : F} {l : Int} (h : ¬ l < 0) : cnt (.cons x k r) l = cnt r (cnt k (l - 1)) := by
 show (if l < 0 then l else cnt r (cnt k (l - 1))) = _
 rw [if_neg h]
theorem cnt_eq' (f : F) (l : Int) (h : 0 ≤ l) : cnt f (l - 1) = max (-1) (l - 1 - f.size) := by
 by_cases h0 : l = 0
 · subst h0
   rw [cnt_neg _ _ (by omega)]
   omega
 · exact cnt_eq f (l - 1) (by omega)
def findK (kd : Int) : Nat → F → Option (List Nat)
 | _, .nil => none
 | i, .cons x k r => if x.kind = kd then some [i] else match findK kd 0 k with
   | some l => some (i :: l)
   | none => findK kd (i + 1) r
def findT (kd : Int) (t : Nd) : Option (List Nat) := if t.1.kind = kd then some [] else findK kd 0 t.2
theorem find_pre (kd : Int) : ∀ (f : F) (pp : List Nat) (i : Nat), ((pre pp i f).find? fun q => decide (q.1.1.kind = kd)).map (·.2) = (findK kd i f).map (pp ++ ·)
 | .nil, _, _ => rfl
 | .cons x k r, pp, i => by
   unfold pre findK
   rw [List.find?_cons]
   by_cases h : x.kind = kd
   · simp [h]
   · rw [if_neg h]
     simp only [h, decide_false, List.find?_append]
     have hk := find_pre kd k (pp ++ [i]) 0
     have hr := find_pre kd r pp (i + 1)
     cases hf : findK kd 0 k with
     | some l =>
       rw [hf] at hk
       cases hp : (pre (pp ++ [i]) 0 k).find? (fun q => decide (q.1.1.kind = kd)) with
       | none => rw [hp] at hk; cases hk
       | some q =>
         rw [hp] at hk
         simp only [Option.map_some, Option.some.injEq] at hk
         simp [hk]
     | none =>
       rw [hf] at hk
       cases hp : (pre (pp ++ [i]) 0 k).find? (fun q => decide (q.1.1.kind = kd)) with
       | some q => rw [hp] at hk; cases hk
       | none => simpa using hr
theorem find_preT (kd : Int) (t : Nd) : ((preT t).find? fun q => decide (q.1.1.kind = kd)).map (fun q => q.2.tail) = findT kd t := by
 have h := find_pre kd (.cons t.1 t.2 .nil) [] 0
 unfold preT
 generalize (pre [] 0 (.cons t.1 t.2 .nil)).find? (fun q => decide (q.1.1.kind = kd)) = o at h
 have h2 : o.map (fun q => q.2.tail) = (o.map (·.2)).map List.tail := by cases o <;> rfl
 rw [h2, h]
 rw [show findK kd 0 (.cons t.1 t.2 .nil) = if t.1.kind = kd then some [0] else match findK kd 0 t.2 with | some l => some (0 :: l) | none => findK kd 1 .nil from rfl]
 unfold findT
 by_cases hk : t.1.kind = kd
 · rw [if_pos hk, if_pos hk]; rfl
 · rw [if_neg hk, if_neg hk]
   cases findK kd 0 t.2 <;> rfl
def isCap (t : Nd) : Bool := decide (t.1.kind = 14)
def caps : F → Nat
 | .nil => 0
 | .cons x k r => (if x.kind = 14 then 1 else 0) + caps k + caps r
def capsT (t : Nd) : Nat := (if t.1.kind = 14 then 1 else 0) + caps t.2
theorem caps_pre : ∀ (f : F) (pp : List Nat) (i : Nat), (pre pp i f).countP (fun q => isCap q.1) = caps f
 | .nil, _, _ => rfl
 | .cons x k r, pp, i => by
   unfold pre caps
   rw [List.countP_cons, List.countP_append, caps_pre k, caps_pre r]
   unfold isCap
   by_cases h : x.kind = 14
   · simp [h]; omega
   · simp [h]
theorem caps_preT (t : Nd) : (preT t).countP (fun q => isCap q.1) = capsT t := by
 unfold preT
 rw [caps_pre]
 simp [caps, capsT]
def labEq (x y : Lab) : Bool :=
 decide (x.kind = y.kind) && decide (x.c = y.c) && decide (x.set = y.set) && (x.neg == y.neg) && decide (x.n = y.n) && decide (x.m = y.m) && decide (x.mode = y.mode) && decide (x.name = y.name) && decide (x.on = y.on) && decide (x.off = y.off)
def alikeP (a b : Nd) : Bool := labEq a.1 b.1 && decide (a.2.len = b.2.len)
def sameF : F → F → Bool
 | .nil, .nil => true
 | .cons x k r, .cons y k' r' => labEq x y && decide (k.len = k'.len) && sameF k k' && sameF r r'
 | _, _ => false
def sameT (a b : Nd) : Bool := labEq a.1 b.1 && decide (a.2.len = b.2.len) && sameF a.2 b.2
def all2 : List (Nd × List Nat) → List (Nd × List Nat) → Bool
 | [], [] => true
 | a :: l, b :: m => alikeP a.1 b.1 && all2 l m
 | _, _ => false
theorem all2_pre : ∀ (f g : F) (pp qq : List Nat) (i j : Nat) (l m : List (Nd × List Nat)), f.len = g.len → all2 (pre pp i f ++ l) (pre qq j g ++ m) = (sameF f g && all2 l m)
 | .nil, .nil, _, _, _, _, _, _, _ => by simp [pre, sameF]
 | .nil, .cons _ _ _, _, _, _, _, _, _, h => by simp [F.len] at h
 | .cons _ _ _, .nil, _, _, _, _, _, _, h => by simp [F.len] at h
 | .cons x k r, .cons y k' r', pp, qq, i, j, l, m, h => by
   simp only [pre, List.cons_append, all2, sameF, alikeP, List.append_assoc]
   by_cases hk : k.len = k'.len
   · rw [all2_pre k k' _ _ _ _ _ _ hk, all2_pre r r' _ _ _ _ _ _ (by simpa [F.len] using h)]
     simp [hk, Bool.and_assoc]
   · simp [hk]
theorem all2_preT (a b : Nd) : all2 (preT a) (preT b) = sameT a b := by
 have h := all2_pre (.cons a.1 a.2 .nil) (.cons b.1 b.2 .nil) [] [] 0 0 [] [] rfl
 simp only [List.append_nil] at h
 unfold preT
 rw [h]
 simp [sameF, all2, sameT]
theorem all2_len : ∀ {l m : List (Nd × List Nat)}, all2 l m = true → l.length = m.length
 | [], [], _ => rfl
 | [], _ :: _, h => by simp [all2] at h
 | _ :: _, [], h => by simp [all2] at h
 | a :: l, b :: m, h => by
   simp only [all2, Bool.and_eq_true] at h
   simp [all2_len h.2]
def dep : List (Nd × List Nat) → Nat → Nat
 | [], d => d
 | q :: l, d => if max d q.2.length ≤ 300 then dep l (max d q.2.length) else max d q.2.length
theorem dep_pre : ∀ (f : F) (pp : List Nat) (i : Nat) (l : List (Nd × List Nat)) (d : Nat), pp.length ≤ d → d ≤ 300 →
   dep (pre pp i f ++ l) d = if pp.length + f.deep ≤ 300 then dep l (max d (pp.length + f.deep)) else 301
 | .nil, pp, i, l, d, h1, h2 => by
   rw [show F.nil.deep = 0 from rfl, Nat.add_zero, if_pos (by omega), Nat.max_eq_left h1]
   rfl
 | .cons x k r, pp, i, l, d, h1, h2 => by
   simp only [pre, List.cons_append, dep, List.length_append, List.length_cons, List.length_nil, List.append_assoc, Nat.zero_add]
   rw [show (F.cons x k r).deep = max (k.deep + 1) r.deep from rfl]
   by_cases hp : pp.length + 1 ≤ 300
   · rw [if_pos (by omega)]
     rw [dep_pre k (pp ++ [i]) 0 _ _ (by simp; omega) (by omega)]
     simp only [List.length_append, List.length_cons, List.length_nil, Nat.zero_add]
     by_cases hk : pp.length + 1 + k.deep ≤ 300
     · rw [if_pos hk, dep_pre r pp (i + 1) _ _ (by omega) (by omega)]
       by_cases hr : pp.length + r.deep ≤ 300
       · rw [if_pos hr, if_pos (by omega)]
         congr 1
         omega
       · rw [if_neg hr, if_neg (by omega)]
     · rw [if_neg hk, if_neg (by omega)]
   · rw [if_neg (by omega), if_neg (by omega)]
     omega
theorem dep_preT (t : Nd) : dep (preT t) 0 = min 301 (t.2.deep + 1) := by
 have h := dep_pre (.cons t.1 t.2 .nil) [] 0 [] 0 (Nat.le_refl _) (by omega)
 simp only [List.append_nil] at h
 unfold preT
 rw [h]
 rw [show (F.cons t.1 t.2 .nil).deep = max (t.2.deep + 1) 0 from rfl, show dep [] (max 0 (([] : List Nat).length + max (t.2.deep + 1) 0)) = max 0 (0 + max (t.2.deep + 1) 0) from rfl, List.length_nil]
 split <;> omega
theorem labEq_refl (x : Lab) : labEq x x = true := by simp [labEq]
theorem sameF_refl : ∀ f : F, sameF f f = true
 | .nil => rfl
 | .cons x k r => by simp [sameF, labEq_refl, sameF_refl k, sameF_refl r]
theorem sameT_refl (a : Nd) : sameT a a = true := by simp [sameT, labEq_refl, sameF_refl]
end Go.Proofs.Ytpjaahojoabgjaa.trp
end
section
namespace Go.Proofs.Ytpjaahojoabgjaa.trw
open Go Go.RowKit trp
theorem cell_lt {w : World} {a : Addr} {v : Value} (h : w.cell? a = some v) : a.block < w.heap.size := by
 apply Classical.byContradiction
 intro hn
 have : w.heap[a.block]? = none := by simp; omega
 unfold World.cell? at h
 rw [this] at h
 simp at h
theorem below_cell {w w' : World} (h : Below w.heap.size w w') {a : Addr} {v : Value} (hc : w.cell? a = some v) : w'.cell? a = some v := by
 rw [h.cell (cell_lt hc)]; exact hc
theorem below_trans {a b c : World} (h : Below a.heap.size a b) (k : Below b.heap.size b c) : Below a.heap.size a c := h.trans (k.mono h.size)
theorem below_drew (w : World) : Below w.heap.size w w.drew := ⟨rfl, rfl, rfl, Nat.le_refl _, fun _ _ => rfl⟩
theorem below_alloc (w : World) (o : Obj) : Below w.heap.size w (w.alloc o) := (Below.refl _ _).alloc (Nat.le_refl _) o
def BoolB (r : Bool) (w : World) (e : Ending) (w' : World) : Prop := e = .returned (.bool r) ∧ Below w.heap.size w w'
def IntB (r : Int) (w : World) (e : Ending) (w' : World) : Prop := e = .returned (.int .i64 r) ∧ Below w.heap.size w w'
def ndC (x : Lab) : List Value := [.int .i64 x.kind, .int .i64 x.at_, .int .i64 x.c, x.sv, .bool x.neg, .int .i64 x.n, .int .i64 x.m, .int .i64 x.mode, .string x.name, .int .i64 x.on, .int .i64 x.off, x.kv]
def ndV (x : Lab) : Value := .agg #[.int .i64 x.kind, .int .i64 x.at_, .int .i64 x.c, x.sv, .bool x.neg, .int .i64 x.n, .int .i64 x.m, .int .i64 x.mode, .string x.name, .int .i64 x.on, .int .i64 x.off, x.kv]
def I64 (n : Int) : Prop := -9223372036854775808 ≤ n ∧ n ≤ 9223372036854775807
def RgAt (w : World) (v : Value) (l : List (Int × Int)) : Prop :=
 ∃ a cap, v = .slice a l.length cap ∧ l.length ≤ cap ∧ cap ≤ 140737488355328 ∧ (l = [] ∨ ∃ b o, a = some ⟨b, o, none⟩ ∧
   ∀ i r, l[i]? = some r → w.cell? ⟨b, o + i * 2, none⟩ = some (.int .i64 r.1) ∧ w.cell? ⟨b, o + i * 2 + 1, none⟩ = some (.int .i64 r.2) ∧ I64 r.1 ∧ I64 r.2)
def LabOk (x : Lab) : Prop := I64 x.kind ∧ I64 x.at_ ∧ I64 x.c ∧ I64 x.n ∧ I64 x.m ∧ I64 x.mode ∧ I64 x.on ∧ I64 x.off
def FAt (w : World) : Nat → Nat → F → Prop
 | _, _, .nil => True
 | b, o, .cons x k r => (∀ j v, (ndC x)[j]? = some v → w.cell? ⟨b, o + j, none⟩ = some v) ∧ (LabOk x ∧ RgAt w x.sv x.set) ∧
   (∃ a cap, x.kv = .slice a k.len cap ∧ k.len ≤ cap ∧ cap ≤ 140737488355328 ∧ (k.len = 0 ∨ ∃ b' o', a = some ⟨b', o', none⟩ ∧ FAt w b' o' k)) ∧ FAt w b (o + 12) r
def KidsAt (w : World) (v : Value) (k : F) : Prop :=
 ∃ a cap, v = .slice a k.len cap ∧ k.len ≤ cap ∧ cap ≤ 140737488355328 ∧ (k.len = 0 ∨ ∃ b o, a = some ⟨b, o, none⟩ ∧ FAt w b o k)
def NdAt (w : World) (t : Nd) : Prop := LabOk t.1 ∧ RgAt w t.1.sv t.1.set ∧ KidsAt w t.1.kv t.2
theorem rgAt_mono {w w' : World} (h : ∀ a v, w.cell? a = some v → w'.cell? a = some v) {v : Value} {l : List (Int × Int)} (hr : RgAt w v l) : RgAt w' v l := by
 obtain ⟨a, cap, h1, h2, h3, h4 | ⟨b, o, h4, h5⟩⟩ := hr
 · exact ⟨a, cap, h1, h2, h3, Or.inl h4⟩
 · exact ⟨a, cap, h1, h2, h3, Or.inr ⟨b, o, h4, fun i r hi => ⟨h _ _ (h5 i r hi).1, h _ _ (h5 i r hi).2.1, (h5 i r hi).2.2⟩⟩⟩
theorem fAt_mono {w w' : World} (h : ∀ a v, w.cell? a = some v → w'.cell? a = some v) : ∀ {f : F} {b o : Nat}, FAt w b o f → FAt w' b o f
 | .nil, _, _, _ => trivial
 | .cons x k r, b, o, ⟨h1, h2, ⟨a, cap, h3, h4, h5, h6⟩, h7⟩ => by
   refine ⟨fun j v hj => h _ _ (h1 j v hj), ⟨h2.1, rgAt_mono h h2.2⟩, ⟨a, cap, h3, h4, h5, ?_⟩, fAt_mono h h7⟩
   rcases h6 with h6 | ⟨b', o', h6, h8⟩
   · exact Or.inl h6
   · exact Or.inr ⟨b', o', h6, fAt_mono h h8⟩
theorem kidsAt_mono {w w' : World} (h : ∀ a v, w.cell? a = some v → w'.cell? a = some v) {v : Value} {k : F} (hk : KidsAt w v k) : KidsAt w' v k := by
 obtain ⟨a, cap, h1, h2, h3, h4 | ⟨b, o, h4, h5⟩⟩ := hk
 · exact ⟨a, cap, h1, h2, h3, Or.inl h4⟩
 · exact ⟨a, cap, h1, h2, h3, Or.inr ⟨b, o, h4, fAt_mono h h5⟩⟩
theorem ndAt_mono {w w' : World} (h : ∀ a v, w.cell? a = some v → w'.cell? a = some v) {t : Nd} (hn : NdAt w t) : NdAt w' t := ⟨hn.1, rgAt_mono h hn.2.1, kidsAt_mono h hn.2.2⟩
theorem below_kids {w w' : World} (h : Below w.heap.size w w') {v : Value} {k : F} (hk : KidsAt w v k) : KidsAt w' v k := kidsAt_mono (fun _ _ hc => below_cell h hc) hk
theorem below_nd {w w' : World} (h : Below w.heap.size w w') {t : Nd} (hn : NdAt w t) : NdAt w' t := ndAt_mono (fun _ _ hc => below_cell h hc) hn
theorem fAt_head {w : World} {b o : Nat} {x : Lab} {k r : F} (h : FAt w b o (.cons x k r)) : NdAt w (x, k) := ⟨h.2.1.1, h.2.1.2, h.2.2.1⟩
theorem fAt_drop {w : World} : ∀ {f : F} {b o : Nat} (i : Nat), FAt w b o f → FAt w b (o + i * 12) (f.drop i)
 | .nil, b, o, i, h => by cases i <;> exact trivial
 | .cons x k r, b, o, 0, h => h
 | .cons x k r, b, o, i + 1, h => by
   have := fAt_drop (f := r) (b := b) (o := o + 12) i h.2.2.2
   rwa [show o + 12 + i * 12 = o + (i + 1) * 12 by omega] at this
theorem drop_len : ∀ (f : F) (i : Nat), (f.drop i).len = f.len - i
 | .nil, 0 => rfl
 | .nil, i + 1 => by simp [F.drop, F.len]
 | .cons _ _ r, 0 => rfl
 | .cons _ _ r, i + 1 => by
   show (r.drop i).len = _
   rw [drop_len r i]
   show r.len - i = r.len + 1 - (i + 1)
   omega
theorem drop_succ : ∀ {f : F} {i : Nat} {x : Lab} {k r : F}, f.drop i = .cons x k r → f.drop (i + 1) = r
 | .nil, 0, _, _, _, h => by cases h
 | .nil, i + 1, _, _, _, h => by cases h
 | .cons _ _ r', 0, _, _, _, h => by cases h; cases r' <;> rfl
 | .cons _ _ r', i + 1, _, _, _, h => drop_succ (f := r') (i := i) h
theorem drop_lt {f : F} {i : Nat} (h : i < f.len) : ∃ x k r, f.drop i = .cons x k r := by
 cases hf : f.drop i with
 | nil =>
   have := drop_len f i
   rw [hf] at this
   simp [F.len] at this
   omega
 | cons x k r => exact ⟨x, k, r, rfl⟩
section
variable {P : Program}
theorem run_loadVar_at (w : World) (a : Addr) (ty : TypeId) (cs : List Value) (d : TypeDesc) (hc : ∀ j v, cs[j]? = some v → w.cell? (a.add j) = some v)
   (hu : P.underlying ty = some d) (hd : (match d with | .struct _ | .array _ _ => true | _ => false) = true) (hi : (P.info? ty).map (·.size) = some cs.length) :
   (loadVar ty a).run P w = .ok (.agg cs.toArray) w := by
 have hl : (loadCells a cs.length).run P w = .ok cs.toArray w := run_loadCells_list (P := P) w a cs hc
 cases hq : P.info? ty with
 | none => simp [hq] at hi
 | some i =>
   have hs : i.size = cs.length := by simpa [hq] using hi
   have hagg : (isAgg ty).run P w = .ok true w := by
     unfold isAgg
     rw [Sem.run_bind, run_underlying hu w]
     cases d <;> simp_all
   simp [loadVar, Sem.run_bind, hagg, sizeOf, typeInfo, hq, hs, hl]
theorem wpList_load_at {ops : Array Oper} {rest : List Oper} {o : Oper} {a : Act} {w : World} {Q : Exit → Act → World → Prop} (hgd : o.guard = none) (ty : TypeId) (x : Operand) (ho : o.op = .load ty x)
   (ad : Addr) (hx : a.eval x = .pointer (some ad)) (cs : List Value) (d : TypeDesc) (hc : ∀ j v, cs[j]? = some v → w.cell? (ad.add j) = some v)
   (hu : P.underlying ty = some d) (hd : (match d with | .struct _ | .array _ _ => true | _ => false) = true) (hi : (P.info? ty).map (·.size) = some cs.length)
   (h : wpList P ops Q rest (a.put o.dst (.agg cs.toArray)) w) : wpList P ops Q (o :: rest) a w :=
 wpList_plain hgd fun K hK => by
   unfold Oper.wp execOp
   simp only [ho, hx, Instr.loadAt, Instr.sureAddr, Sem.run_bind, Sem.run_pure, Result.andThen_ok, run_loadVar_at w ad ty cs d hc hu hd hi]
   exact hK _ _ h
end
theorem ndInfo : (Try.prog.info? 25).map (·.size) = some 12 := by kernel_rfl
theorem add_plain (b o j : Nat) : (⟨b, o, none⟩ : Addr).add j = ⟨b, o + j, none⟩ := by unfold Addr.add; split <;> simp_all
theorem wpList_load_nd {ops : Array Oper} {rest : List Oper} {o : Oper} {a : Act} {w : World} {Q : Exit → Act → World → Prop} (hgd : o.guard = none) (x : Operand) (ho : o.op = .load 25 x)
   (b off : Nat) (hx : a.eval x = .pointer (some ⟨b, off, none⟩)) (l : Lab) (hc : ∀ j v, (ndC l)[j]? = some v → w.cell? ⟨b, off + j, none⟩ = some v)
   (h : wpList Try.prog ops Q rest (a.put o.dst (ndV l)) w) : wpList Try.prog ops Q (o :: rest) a w :=
 wpList_load_at hgd 25 x ho ⟨b, off, none⟩ hx (ndC l) _ (fun j v hj => by rw [add_plain]; exact hc j v hj) Try.underlying25 rfl (by rw [ndInfo]; rfl) h
theorem run_load_nd (w : World) (b off : Nat) (l : Lab) (hc : ∀ j v, (ndC l)[j]? = some v → w.cell? ⟨b, off + j, none⟩ = some v) : (loadVar 25 ⟨b, off, none⟩).run Try.prog w = .ok (ndV l) w :=
 run_loadVar_at w ⟨b, off, none⟩ 25 (ndC l) _ (fun j v hj => by rw [add_plain]; exact hc j v hj) Try.underlying25 rfl (by rw [ndInfo]; rfl)
end Go.Proofs.Ytpjaahojoabgjaa.trw
end
section
namespace Go.Proofs.Ytpjaahojoabgjaa.trw
open Go Go.RowKit trp
theorem kids_len {w : World} {v : Value} {k : F} (h : KidsAt w v k) : ∃ a cap, v = .slice a k.len cap := by
 obtain ⟨a, cap, h, _⟩ := h
 exact ⟨a, cap, h⟩
theorem size_lt {f : F} {i : Nat} {x : Lab} {k r : F} (h : f.drop i = .cons x k r) : k.size < f.size := by
 induction f generalizing i with
 | nil => cases i <;> cases h
 | cons y k' r' _ ih =>
   cases i with
   | zero => cases h; simp only [F.size]; omega
   | succ i =>
     have := ih (i := i) h
     simp only [F.size]
     omega
theorem drop_zero (f : F) : f.drop 0 = f := by cases f <;> rfl
theorem drop_end {f : F} {i : Nat} (h : f.len ≤ i) : f.drop i = .nil := by
 cases hf : f.drop i with
 | nil => rfl
 | cons x k r =>
   have := drop_len f i
   rw [hf] at this
   simp only [F.len] at this
   omega
theorem kid_at {w : World} {v : Value} {f : F} (h : KidsAt w v f) {i : Nat} {x : Lab} {k r : F} (hd : f.drop i = .cons x k r) : ∃ b o cap, v = .slice (some ⟨b, o, none⟩) f.len cap ∧ f.len ≤ cap ∧ cap ≤ 140737488355328 ∧ i < f.len ∧ FAt w b (o + i * 12) (.cons x k r) := by
 have hl := drop_len f i
 rw [hd] at hl
 simp only [F.len] at hl
 obtain ⟨a, cap, h1, h2, h3, h4 | ⟨b, o, rfl, h5⟩⟩ := h
 · omega
 · have := fAt_drop i h5
   rw [hd] at this
   exact ⟨b, o, cap, h1, h2, h3, by omega, this⟩
theorem add_row (b o i s : Nat) : (⟨b, o, none⟩ : Addr).add (i * s) = ⟨b, o + i * s, none⟩ := by unfold Addr.add; split <;> simp_all
set_option maxRecDepth 100000 in
set_option maxHeartbeats 2000000 in
theorem count_any : ∀ (n : Nat) (x : Lab) (k : F) (l : Int) (w : World), k.size < n → NdAt w (x, k) → 0 ≤ l → l ≤ 4000 → Calls Try.prog 26 #[ndV x, .int .i64 l] w (IntB (cnt k (l - 1)) w) := by
 intro n
 induction n with
 | zero => intro x k l w hn; omega
 | succ n ih =>
   intro x k l w hn hd hl0 hl1
   obtain ⟨_, _, hk⟩ := hd
   obtain ⟨a, cap, hkv⟩ := kids_len hk
   obtain ⟨xk, xa, xc, xs, xset, xneg, xn, xm, xmode, xname, xon, xoff, xkv⟩ := x
   simp only at hk hkv
   subst hkv
   obtain ⟨R, hR⟩ : ∃ R, cnt k (l - 1) = R := ⟨_, rfl⟩
   rw [hR]
   have HR := Lib.hid hR
   have HK := Lib.hid hk
   clear hk hR
   go_enter Try.func26, Try.ntmps26
   unfold ndV
   go_wp2_with fail
   have hbl := below_alloc w (.cells #[.int .i64 xk, .int .i64 xa, .int .i64 xc, xs, .bool xneg, .int .i64 xn, .int .i64 xm, .int .i64 xmode, .string xname, .int .i64 xon, .int .i64 xoff, .slice a k.len cap] 25)
   have hc11 : (w.alloc (.cells #[.int .i64 xk, .int .i64 xa, .int .i64 xc, xs, .bool xneg, .int .i64 xn, .int .i64 xm, .int .i64 xmode, .string xname, .int .i64 xon, .int .i64 xoff, .slice a k.len cap] 25)).cell? ⟨w.heap.size, 11, none⟩ = some (.slice a k.len cap) := by simp
   obtain ⟨B, hB⟩ : ∃ B, w.heap.size = B := ⟨_, rfl⟩
   rw [hB] at hc11 ⊢
   generalize w.alloc _ = w1 at *
   have HB := Lib.hid hbl
   have HC := Lib.hid hc11
   clear hbl hc11
   go_loopw [1, 5] (fun lv iv wr => ∃ (i : Nat) (c : Int), lv = .int .i64 c ∧ iv = .int .i64 i ∧ i ≤ k.len ∧ -1 ≤ c ∧ c ≤ 4000 ∧ Hid (cnt (k.drop i) c = R) ∧ Below w1.heap.size w1 wr) (fun _ iv _ => k.len - (intOf iv).toNat)
   case atStart => exact ⟨0, l - 1, by go_num, rfl, Nat.zero_le _, by omega, by omega, Lib.hid (by rw [drop_zero]; exact HR.out), Below.refl _ _⟩
   case round =>
     obtain ⟨i, c, rfl, rfl, hi, hc0, hc1, HCn, hb⟩ := hrel
     have hcell : wr.cell? ⟨B, 11, none⟩ = some (.slice a k.len cap) := below_cell hb HC.out
     by_cases hend : i = k.len
     · have HRes := Lib.hid (show c = R by have := HCn.out; rw [drop_end (by omega)] at this; exact this)
       subst hend
       go_wp2_with fail
       go_ret
       exact ⟨by rw [HRes.out]; rfl, below_trans HB.out hb⟩
     · by_cases hneg : c < 0
       · have HRes := Lib.hid (show c = R by have := HCn.out; rw [cnt_neg _ _ hneg] at this; exact this)
         go_wp2_with fail
         go_ret
         exact ⟨by rw [HRes.out]; rfl, below_trans HB.out hb⟩
       · obtain ⟨y, k', r, hdr⟩ := drop_lt (f := k) (i := i) (by omega)
         obtain ⟨b, o, cap', hv2, hcap, hcap2, hlt, hf⟩ := kid_at (below_kids (below_trans HB.out hb) HK.out) hdr
         obtain ⟨rfl, rfl⟩ : a = some ⟨b, o, none⟩ ∧ cap = cap' := by
           have := hv2
           simp only [Value.slice.injEq] at this
           exact ⟨this.1, this.2.2⟩
         have hnd := fAt_head hf
         have hcs := Lib.hid hf.1
         have hsz := size_lt hdr
         have HI := Lib.hid (ih y k' c wr (by omega) hnd (by omega) (by omega))
         have hstep : cnt k' (c - 1) ≤ 4000 ∧ -1 ≤ cnt k' (c - 1) := by rw [cnt_eq' k' c (by omega)]; omega
         have HN := Lib.hid (show cnt (k.drop (i + 1)) (cnt k' (c - 1)) = R by
           rw [drop_succ hdr, ← HCn.out, hdr]
           exact (cnt_cons hneg).symm)
         have hadd := add_row b o i 12
         obtain ⟨q, hq⟩ : ∃ q, cnt k' (c - 1) = q := ⟨_, rfl⟩
         rw [hq] at hstep HI HN
         clear hf hnd hdr hq hv2
         go_wp2_with (refine wpList_load_nd rfl _ rfl b (o + i * 12) rfl y hcs.out ?_)
         refine HI.out.mono ?_
         rintro e w2 ⟨rfl, hb2⟩
         go_wp2_with fail
         go_roundw
         case rel => exact ⟨i + 1, q, rfl, by go_num, hlt, hstep.2, hstep.1, HN, below_trans hb hb2⟩
         case measure => simp [intOf]; omega
end Go.Proofs.Ytpjaahojoabgjaa.trw
end
section
namespace Go.Proofs.Ytpjaahojoabgjaa.trw
open Go Go.RowKit trp
set_option maxHeartbeats 400000 in
theorem small_any (x : Lab) (k : F) (w : World) (hd : NdAt w (x, k)) : Calls Try.prog 12 #[ndV x] w (BoolB (decide (k.size + 1 ≤ 4000)) w) := by
 have hbl := below_alloc w (.cells (ndC x).toArray 25)
 have HC := Lib.hid (count_any (k.size + 1) x k 4000 (w.alloc (.cells (ndC x).toArray 25)) (Nat.lt_succ_self _) (below_nd hbl hd) (by omega) (by omega))
 have HB := Lib.hid hbl
 have hq : decide (0 ≤ cnt k (4000 - 1)) = decide (k.size + 1 ≤ 4000) := by
   rw [cnt_eq' k 4000 (by omega)]
   exact decide_eq_decide.2 (by omega)
 have HQ := Lib.hid hq
 clear hbl hd hq
 generalize cnt k (4000 - 1) = c at *
 unfold ndC at HC HB
 unfold ndV at *
 go_enter Try.func12, Try.ntmps12
 go_wp2_with fail
 refine HC.out.mono ?_
 rintro e w2 ⟨rfl, hb2⟩
 go_wp2_with fail
 go_ret
 exact ⟨by rw [← HQ.out]; rfl, below_trans HB.out hb2⟩
set_option maxHeartbeats 400000 in
theorem rsize_any (x : Lab) (k : F) (w : World) (hd : NdAt w (x, k)) : Calls Try.prog 11 #[ndV x] w (IntB (min 4001 (k.size + 1) : Nat) w) := by
 have hbl := below_alloc w (.cells (ndC x).toArray 25)
 have HC := Lib.hid (count_any (k.size + 1) x k 4000 (w.alloc (.cells (ndC x).toArray 25)) (Nat.lt_succ_self _) (below_nd hbl hd) (by omega) (by omega))
 have HB := Lib.hid hbl
 have hq : 4000 - cnt k (4000 - 1) = ((min 4001 (k.size + 1) : Nat) : Int) ∧ -1 ≤ cnt k (4000 - 1) ∧ cnt k (4000 - 1) ≤ 4000 := by
   rw [cnt_eq' k 4000 (by omega)]
   omega
 obtain ⟨hq, hq1, hq2⟩ := hq
 have HQ := Lib.hid hq
 clear hbl hd hq
 generalize cnt k (4000 - 1) = c at *
 unfold ndC at HC HB
 unfold ndV at *
 go_enter Try.func11, Try.ntmps11
 go_wp2_with fail
 refine HC.out.mono ?_
 rintro e w2 ⟨rfl, hb2⟩
 go_wp2_with fail
 go_ret
 exact ⟨by rw [← HQ.out]; rfl, below_trans HB.out hb2⟩
set_option maxRecDepth 100000 in
set_option maxHeartbeats 2000000 in
theorem deep_any : ∀ (n : Nat) (x : Lab) (k : F) (L : Nat) (w : World), k.size < n → NdAt w (x, k) → 1 ≤ L → L ≤ 301 → Calls Try.prog 29 #[ndV x, .int .i64 L] w (IntB (min L (k.deep + 1) : Nat) w) := by
 intro n
 induction n with
 | zero => intro x k l w hn; omega
 | succ n ih =>
   intro x k L w hn hd hl0 hl1
   obtain ⟨hlab, hrg, hk⟩ := hd
   obtain ⟨a, cap, hkv⟩ := kids_len hk
   obtain ⟨xk, xa, xc, xs, xset, xneg, xn, xm, xmode, xname, xon, xoff, xkv⟩ := x
   simp only at hk hkv hrg hlab
   subst hkv
   have HK := Lib.hid hk
   clear hk hlab hrg
   obtain ⟨R, hR⟩ : ∃ R, min (L - 1) k.deep = R := ⟨_, rfl⟩
   have HR := Lib.hid hR
   have HF := Lib.hid (show ((R + 1 : Nat) : Int) = (min L (k.deep + 1) : Nat) by rw [← hR]; omega)
   have hR2 : R ≤ 300 := by omega
   clear hR
   by_cases h1 : L = 1
   · have HF2 := Lib.hid (show ((min L (k.deep + 1) : Nat) : Int) = 1 by rw [h1]; omega)
     subst h1
     go_enter Try.func29, Try.ntmps29
     unfold ndV
     go_wp2_with fail
     go_ret
     exact ⟨by rw [HF2.out]; rfl, below_alloc w _⟩
   have hb1 : ((L : Int) == 1) = false := by simp; omega
   go_enter Try.func29, Try.ntmps29
   unfold ndV
   go_wp2_with fail
   have hbl := below_alloc w (.cells #[.int .i64 xk, .int .i64 xa, .int .i64 xc, xs, .bool xneg, .int .i64 xn, .int .i64 xm, .int .i64 xmode, .string xname, .int .i64 xon, .int .i64 xoff, .slice a k.len cap] 25)
   have hc11 : (w.alloc (.cells #[.int .i64 xk, .int .i64 xa, .int .i64 xc, xs, .bool xneg, .int .i64 xn, .int .i64 xm, .int .i64 xmode, .string xname, .int .i64 xon, .int .i64 xoff, .slice a k.len cap] 25)).cell? ⟨w.heap.size, 11, none⟩ = some (.slice a k.len cap) := by simp
   obtain ⟨B, hB⟩ : ∃ B, w.heap.size = B := ⟨_, rfl⟩
   rw [hB] at hc11 ⊢
   generalize w.alloc _ = w1 at *
   have HB := Lib.hid hbl
   have HC := Lib.hid hc11
   clear hbl hc11
   go_loopw [5, 6, 7] (fun mv iv _ wr => ∃ (i m : Nat), mv = .int .i64 m ∧ iv = .int .i64 i ∧ i ≤ k.len ∧ m ≤ 300 ∧ Hid (max m (min (L - 1) (k.drop i).deep) = R) ∧ Below w1.heap.size w1 wr) (fun _ iv _ _ => k.len - (intOf iv).toNat)
   case atStart => exact ⟨0, 0, rfl, rfl, Nat.zero_le _, by omega, Lib.hid (by rw [drop_zero, HR.out]; omega), Below.refl _ _⟩
   case round =>
     obtain ⟨i, m, rfl, rfl, hi, hm, HM, hb⟩ := hrel
     have hcell : wr.cell? ⟨B, 11, none⟩ = some (.slice a k.len cap) := below_cell hb HC.out
     by_cases hend : i = k.len
     · have HRes := Lib.hid (show m = R by have := HM.out; rw [drop_end (by omega)] at this; simpa [F.deep] using this)
       subst hend
       go_wp2_with fail
       go_ret
       exact ⟨by rw [← HF.out, ← HRes.out]; go_num, below_trans HB.out hb⟩
     · have hlt0 : i < k.len := by omega
       obtain ⟨y, k', r, hdr⟩ := drop_lt (f := k) (i := i) (by omega)
       obtain ⟨b, o, cap', hv2, hcap, hcap2, hlt, hf⟩ := kid_at (below_kids (below_trans HB.out hb) HK.out) hdr
       obtain ⟨rfl, rfl⟩ : a = some ⟨b, o, none⟩ ∧ cap = cap' := by
         have := hv2
         simp only [Value.slice.injEq] at this
         exact ⟨this.1, this.2.2⟩
       have hnd := fAt_head hf
       have hcs := Lib.hid hf.1
       have hsz := size_lt hdr
       have hadd := add_row b o i 12
       have HI := Lib.hid (ih y k' (L - 1) wr (by omega) hnd (by omega) (by omega))
       have hdm : min (L - 1) (k'.deep + 1) ≤ 300 := by omega
       have hl2 : (L : Int) - 1 = ((L - 1 : Nat) : Int) := by omega
       have HN := Lib.hid (show max (max m (min (L - 1) (k'.deep + 1))) (min (L - 1) (k.drop (i + 1)).deep) = R by
         rw [drop_succ hdr, ← HM.out, hdr]
         simp only [F.deep]
         omega)
       obtain ⟨q, hq⟩ : ∃ q, min (L - 1) (k'.deep + 1) = q := ⟨_, rfl⟩
       rw [hq] at HI HN hdm
       clear hf hnd hdr hq hv2
       go_wp2_with (refine wpList_load_nd rfl _ rfl b (o + i * 12) rfl y hcs.out ?_)
       refine HI.out.mono ?_
       rintro e w2 ⟨rfl, hb2⟩
       by_cases hgt : m < q
       · go_wp2_with fail
         go_roundw
         case rel => exact ⟨i + 1, q, rfl, by go_num, hlt, hdm, Lib.hid (by rw [← HN.out]; congr 1; omega), below_trans hb hb2⟩
         case measure => simp [intOf]; omega
       · go_wp2_with fail
         go_roundw
         case rel => exact ⟨i + 1, m, rfl, by go_num, hlt, hm, Lib.hid (by rw [← HN.out]; congr 1; omega), below_trans hb hb2⟩
         case measure => simp [intOf]; omega
end Go.Proofs.Ytpjaahojoabgjaa.trw
end
section
namespace Go.Proofs.Ytpjaahojoabgjaa.trw
open Go Go.RowKit trp
set_option maxHeartbeats 400000 in
theorem within_any (n a b : Int) (w : World) : Calls Try.prog 43 #[.int .i64 n, .int .i64 a, .int .i64 b] w (BoolB (wi n a b) w) := by
 by_cases h1 : a ≤ n
 · by_cases h2 : n ≤ b
   · have HR := Lib.hid (show wi n a b = true by simp [wi, h1, h2])
     go_enter Try.func43, Try.ntmps43
     go_wp2_with fail
     go_ret
     exact ⟨by rw [HR.out]; rfl, Below.refl _ _⟩
   · have HR := Lib.hid (show wi n a b = false by simp [wi, h2])
     go_enter Try.func43, Try.ntmps43
     go_wp2_with fail
     go_ret
     exact ⟨by rw [HR.out]; rfl, Below.refl _ _⟩
 · have HR := Lib.hid (show wi n a b = false by simp [wi, h1])
   go_enter Try.func43, Try.ntmps43
   go_wp2_with fail
   go_ret
   exact ⟨by rw [HR.out]; rfl, Below.refl _ _⟩
set_option maxHeartbeats 400000 in
theorem repeatable_any (n : Int) (w : World) : Calls Try.prog 48 #[.int .i64 n] w (BoolB (repK n) w) := by
 by_cases h : n = 4 ∨ n = 5 ∨ n = 9 ∨ n = 10 ∨ n = 11
 · have HR := Lib.hid (show repK n = false by rcases h with rfl | rfl | rfl | rfl | rfl <;> rfl)
   rcases h with rfl | rfl | rfl | rfl | rfl
   all_goals
     go_enter Try.func48, Try.ntmps48
     go_wp2_with fail
     go_ret
     exact ⟨by rw [HR.out]; rfl, Below.refl _ _⟩
 · simp only [not_or] at h
   obtain ⟨h1, h2, h3, h4, h5⟩ := h
   have HR := Lib.hid (show repK n = true by simp [repK, h1, h2, h3, h4, h5])
   go_enter Try.func48, Try.ntmps48
   go_wp2_with fail
   go_ret
   exact ⟨by rw [HR.out]; rfl, Below.refl _ _⟩
theorem rises_bad {lo : Int} {r : Int × Int} {l : List (Int × Int)} (h : r.1 < lo ∨ r.2 < r.1 ∨ 1114111 < r.2) : rises lo (r :: l) = false := by
 unfold rises
 rcases h with h | h | h
 · simp [show ¬ lo ≤ r.1 by omega]
 · simp [show ¬ r.1 ≤ r.2 by omega]
 · simp [show ¬ r.2 ≤ 1114111 by omega]
theorem rises_ok {lo : Int} {r : Int × Int} {l : List (Int × Int)} (h1 : lo ≤ r.1) (h2 : r.1 ≤ r.2) (h3 : r.2 ≤ 1114111) : rises lo (r :: l) = rises (r.2 + 2) l := by
 show (decide (lo ≤ r.1) && decide (r.1 ≤ r.2) && decide (r.2 ≤ 1114111) && rises (r.2 + 2) l) = _
 simp [h1, h2, h3]
theorem rg_len {w : World} {v : Value} {l : List (Int × Int)} (h : RgAt w v l) : ∃ a cap, v = .slice a l.length cap := by
 obtain ⟨a, cap, h, _⟩ := h
 exact ⟨a, cap, h⟩
theorem rg_at {w : World} {a : Option Addr} {n cap : Nat} {l : List (Int × Int)} (h : RgAt w (.slice a n cap) l) {i : Nat} (hi : i < l.length) : ∃ b o, a = some ⟨b, o, none⟩ ∧ n = l.length ∧ l.length ≤ cap ∧ cap ≤ 140737488355328 ∧
   ∀ i r, l[i]? = some r → w.cell? ⟨b, o + i * 2, none⟩ = some (.int .i64 r.1) ∧ w.cell? ⟨b, o + i * 2 + 1, none⟩ = some (.int .i64 r.2) ∧ I64 r.1 ∧ I64 r.2 := by
 obtain ⟨a', cap', h1, h2, h3, h4 | ⟨b, o, h4, h5⟩⟩ := h
 · subst h4; simp at hi
 · simp only [Value.slice.injEq] at h1
   obtain ⟨rfl, rfl, rfl⟩ := h1
   exact ⟨b, o, h4, rfl, h2, h3, h5⟩
theorem get_drop {l : List (Int × Int)} {i : Nat} (h : i < l.length) : ∃ r, l[i]? = some r ∧ l.drop i = r :: l.drop (i + 1) := ⟨l[i], by simp [h], List.drop_eq_getElem_cons h⟩
set_option maxRecDepth 100000 in
set_option maxHeartbeats 2000000 in
theorem setFits_any (v : Value) (l : List (Int × Int)) (w : World) (hv : RgAt w v l) : Calls Try.prog 49 #[v] w (BoolB (rises 0 l) w) := by
 obtain ⟨a, cap, rfl⟩ := rg_len hv
 obtain ⟨R, hR⟩ : ∃ R, rises 0 l = R := ⟨_, rfl⟩
 rw [hR]
 have HR := Lib.hid hR
 have HV := Lib.hid hv
 clear hR hv
 go_enter Try.func49, Try.ntmps49
 go_wp2_with fail
 go_loopw [3, 5, 8] (fun lv _ iv wr => ∃ (i : Nat) (lo : Int), lv = .int .i64 lo ∧ iv = .int .i64 i ∧ i ≤ l.length ∧ 0 ≤ lo ∧ lo ≤ 1114113 ∧ Hid (rises lo (l.drop i) = R) ∧ Below w.heap.size w wr) (fun _ _ iv _ => l.length - (intOf iv).toNat)
 case atStart => exact ⟨0, 0, rfl, rfl, Nat.zero_le _, Int.le_refl _, by omega, HR, Below.refl _ _⟩
 case round =>
   obtain ⟨i, lo, rfl, rfl, hi, hl0, hl1, HL, hb⟩ := hrel
   by_cases hend : i = l.length
   · have HRes := Lib.hid (show true = R by have := HL.out; rwa [hend, List.drop_length] at this)
     subst hend
     go_wp2_with fail
     go_ret
     exact ⟨by rw [← HRes.out]; rfl, hb⟩
   · have hlt : i < l.length := by omega
     obtain ⟨b, o, rfl, _, hcap, hcap2, hall⟩ := rg_at HV.out hlt
     obtain ⟨r, hr, hdr⟩ := get_drop hlt
     obtain ⟨c0, c1, i0, i1⟩ := hall i r hr
     have c0 := below_cell hb c0
     have c1 := below_cell hb c1
     obtain ⟨lo', hi'⟩ := r
     simp only [I64] at c0 c1 i0 i1
     have hadd := add_row b o i 2
     have HD := Lib.hid hdr
     clear hall hr hdr
     by_cases hbad : lo' < lo ∨ hi' < lo' ∨ 1114111 < hi'
     · have HRes := Lib.hid (show false = R by rw [← HL.out, HD.out, rises_bad hbad])
       rcases (show lo' < lo ∨ (lo ≤ lo' ∧ hi' < lo') ∨ (lo ≤ lo' ∧ lo' ≤ hi' ∧ 1114111 < hi') by omega) with h | ⟨h, h2⟩ | ⟨h, h2, h3⟩
       all_goals
         clear hbad
         go_wp2_with fail
         go_ret
         exact ⟨by rw [← HRes.out]; rfl, below_trans hb (below_alloc wr _)⟩
     · simp only [not_or] at hbad
       obtain ⟨h1, h2, h3⟩ := hbad
       have HN := Lib.hid (show rises (hi' + 2) (l.drop (i + 1)) = R by rw [← HL.out, HD.out, rises_ok (by omega) (by omega) (by omega)])
       have h1 : lo ≤ lo' := by omega
       have h2 : lo' ≤ hi' := by omega
       have h3 : hi' ≤ 1114111 := by omega
       go_wp2_with fail
       go_roundw
       case rel => exact ⟨i + 1, hi' + 2, rfl, by go_num, hlt, by omega, by omega, HN, below_trans hb (below_alloc wr _)⟩
       case measure => simp [intOf]; omega
end Go.Proofs.Ytpjaahojoabgjaa.trw
end
section
namespace Go.Proofs.Ytpjaahojoabgjaa.trw
open Go.Sort Go Go.RowKit trp
theorem cell_regrown {w : World} {a : Addr} {v : Value} (h : w.cell? a = some v) : ∀ d os, (grow (redrawn w d) os).cell? a = some v := fun d os => below_cell (below_regrown w d os) h
end Go.Proofs.Ytpjaahojoabgjaa.trw
end
section
namespace Go.Proofs.Ytpjaahojoabgjaa.trw
open Go Go.RowKit trp
theorem below_box {w w2 : World} {o : Obj} (h : Below (w.alloc o).heap.size (w.alloc o) w2) : Below w.heap.size w w2 := below_trans (below_alloc w o) h
end Go.Proofs.Ytpjaahojoabgjaa.trw
end
section
namespace Go.Proofs.Ytpjaahojoabgjaa.trw
open Go Go.RowKit trp
theorem len_one {k : F} (h : 1 ≤ k.len) : ∃ x k' r, k = .cons x k' r := by
 cases k with
 | nil => simp [F.len] at h
 | cons x k' r => exact ⟨x, k', r, rfl⟩
theorem hd_at {w : World} {a : Option Addr} {n cap : Nat} {k : F} (h : KidsAt w (.slice a n cap) k) (h1 : 1 ≤ k.len) : ∃ b o, a = some ⟨b, o, none⟩ ∧ w.cell? ⟨b, o, none⟩ = some (.int .i64 k.hd) := by
 obtain ⟨a', cap', e1, _, _, e4 | ⟨b, o, e4, e5⟩⟩ := h
 · omega
 · simp only [Value.slice.injEq] at e1
   obtain ⟨rfl, rfl, rfl⟩ := e1
   obtain ⟨x, k', r, rfl⟩ := len_one h1
   exact ⟨b, o, e4, e5.1 0 _ rfl⟩
end Go.Proofs.Ytpjaahojoabgjaa.trw
end
section
namespace Go.Proofs.Ytpjaahojoabgjaa.trw
open Go Go.RowKit trp
set_option maxRecDepth 100000 in
set_option maxHeartbeats 4000000 in
theorem leaf_1 (x : Lab) (k : F) (w : World) (hd : NdAt w (x, k)) (hk : x.kind = 1) : Calls Try.prog 46 #[ndV x] w (BoolB (leafP x) w) := by
 obtain ⟨hlab, hrg, hkd⟩ := hd
 obtain ⟨a, cap, hkv⟩ := kids_len hkd
 obtain ⟨xk, xa, xc, xs, xset, xneg, xn, xm, xmode, xname, xon, xoff, xkv⟩ := x
 simp only at hkd hkv hrg hlab hk
 subst hkv
 subst hk
 have HM := Lib.hid (show leafP (⟨1, xa, xc, xs, xset, xneg, xn, xm, xmode, xname, xon, xoff, .slice a k.len cap⟩) = (wi xc 0 1114111) by rfl)
 clear hkd hrg hlab
 unfold ndV
 go_enter Try.func46, Try.ntmps46
 go_wp2_with fail
 refine (within_any _ _ _ _).mono ?_
 rintro e w2 ⟨rfl, hb2⟩
 go_wp2_with fail
 go_ret
 exact ⟨by rw [HM.out]; rfl, below_box hb2⟩
set_option maxRecDepth 100000 in
set_option maxHeartbeats 4000000 in
theorem leaf_4 (x : Lab) (k : F) (w : World) (hd : NdAt w (x, k)) (hk : x.kind = 4) : Calls Try.prog 46 #[ndV x] w (BoolB (leafP x) w) := by
 obtain ⟨hlab, hrg, hkd⟩ := hd
 obtain ⟨a, cap, hkv⟩ := kids_len hkd
 obtain ⟨xk, xa, xc, xs, xset, xneg, xn, xm, xmode, xname, xon, xoff, xkv⟩ := x
 simp only at hkd hkv hrg hlab hk
 subst hkv
 subst hk
 have HM := Lib.hid (show leafP (⟨4, xa, xc, xs, xset, xneg, xn, xm, xmode, xname, xon, xoff, .slice a k.len cap⟩) = (wi xn 1 10) by rfl)
 clear hkd hrg hlab
 unfold ndV
 go_enter Try.func46, Try.ntmps46
 go_wp2_with fail
 refine (within_any _ _ _ _).mono ?_
 rintro e w2 ⟨rfl, hb2⟩
 go_wp2_with fail
 go_ret
 exact ⟨by rw [HM.out]; rfl, below_box hb2⟩
set_option maxRecDepth 100000 in
set_option maxHeartbeats 4000000 in
theorem leaf_9 (x : Lab) (k : F) (w : World) (hd : NdAt w (x, k)) (hk : x.kind = 9) : Calls Try.prog 46 #[ndV x] w (BoolB (leafP x) w) := by
 obtain ⟨hlab, hrg, hkd⟩ := hd
 obtain ⟨a, cap, hkv⟩ := kids_len hkd
 obtain ⟨xk, xa, xc, xs, xset, xneg, xn, xm, xmode, xname, xon, xoff, xkv⟩ := x
 simp only at hkd hkv hrg hlab hk
 subst hkv
 subst hk
 have HM := Lib.hid (show leafP (⟨9, xa, xc, xs, xset, xneg, xn, xm, xmode, xname, xon, xoff, .slice a k.len cap⟩) = (wi xn 1 7) by rfl)
 clear hkd hrg hlab
 unfold ndV
 go_enter Try.func46, Try.ntmps46
 go_wp2_with fail
 refine (within_any _ _ _ _).mono ?_
 rintro e w2 ⟨rfl, hb2⟩
 go_wp2_with fail
 go_ret
 exact ⟨by rw [HM.out]; rfl, below_box hb2⟩
set_option maxRecDepth 100000 in
set_option maxHeartbeats 4000000 in
theorem leaf_10 (x : Lab) (k : F) (w : World) (hd : NdAt w (x, k)) (hk : x.kind = 10) : Calls Try.prog 46 #[ndV x] w (BoolB (leafP x) w) := by
 obtain ⟨hlab, hrg, hkd⟩ := hd
 obtain ⟨a, cap, hkv⟩ := kids_len hkd
 obtain ⟨xk, xa, xc, xs, xset, xneg, xn, xm, xmode, xname, xon, xoff, xkv⟩ := x
 simp only at hkd hkv hrg hlab hk
 subst hkv
 subst hk
 have HM := Lib.hid (show leafP (⟨10, xa, xc, xs, xset, xneg, xn, xm, xmode, xname, xon, xoff, .slice a k.len cap⟩) = (wi xn 0 255) by rfl)
 clear hkd hrg hlab
 unfold ndV
 go_enter Try.func46, Try.ntmps46
 go_wp2_with fail
 refine (within_any _ _ _ _).mono ?_
 rintro e w2 ⟨rfl, hb2⟩
 go_wp2_with fail
 go_ret
 exact ⟨by rw [HM.out]; rfl, below_box hb2⟩
set_option maxRecDepth 100000 in
set_option maxHeartbeats 4000000 in
theorem leaf_2 (x : Lab) (k : F) (w : World) (hd : NdAt w (x, k)) (hk : x.kind = 2) : Calls Try.prog 46 #[ndV x] w (BoolB (leafP x) w) := by
 obtain ⟨hlab, hrg, hkd⟩ := hd
 obtain ⟨a, cap, hkv⟩ := kids_len hkd
 obtain ⟨xk, xa, xc, xs, xset, xneg, xn, xm, xmode, xname, xon, xoff, xkv⟩ := x
 simp only at hkd hkv hrg hlab hk
 subst hkv
 subst hk
 have HM := Lib.hid (show leafP (⟨2, xa, xc, xs, xset, xneg, xn, xm, xmode, xname, xon, xoff, .slice a k.len cap⟩) = rises 0 xset by rfl)
 have HS := Lib.hid (setFits_any xs xset (w.alloc (.cells #[.int .i64 2, .int .i64 xa, .int .i64 xc, xs, .bool xneg, .int .i64 xn, .int .i64 xm, .int .i64 xmode, .string xname, .int .i64 xon, .int .i64 xoff, .slice a k.len cap] 25)) (rgAt_mono (fun _ _ hc => below_cell (below_alloc w _) hc) hrg))
 clear hkd hrg hlab
 unfold ndV
 go_enter Try.func46, Try.ntmps46
 go_wp2_with fail
 refine HS.out.mono ?_
 rintro e w2 ⟨rfl, hb2⟩
 go_wp2_with fail
 go_ret
 exact ⟨by rw [HM.out]; rfl, below_box hb2⟩
set_option maxRecDepth 100000 in
set_option maxHeartbeats 4000000 in
theorem leaf_3 (x : Lab) (k : F) (w : World) (hd : NdAt w (x, k)) (hk : x.kind = 3) : Calls Try.prog 46 #[ndV x] w (BoolB (leafP x) w) := by
 obtain ⟨hlab, hrg, hkd⟩ := hd
 obtain ⟨a, cap, hkv⟩ := kids_len hkd
 obtain ⟨xk, xa, xc, xs, xset, xneg, xn, xm, xmode, xname, xon, xoff, xkv⟩ := x
 simp only at hkd hkv hrg hlab hk
 subst hkv
 subst hk
 have HM := Lib.hid (show leafP (⟨3, xa, xc, xs, xset, xneg, xn, xm, xmode, xname, xon, xoff, .slice a k.len cap⟩) = true by rfl)
 clear hkd hrg hlab
 unfold ndV
 go_enter Try.func46, Try.ntmps46
 go_wp2_with fail
 go_ret
 exact ⟨by rw [HM.out]; rfl, below_alloc w _⟩
set_option maxRecDepth 100000 in
set_option maxHeartbeats 4000000 in
theorem leaf_5 (x : Lab) (k : F) (w : World) (hd : NdAt w (x, k)) (hk : x.kind = 5) : Calls Try.prog 46 #[ndV x] w (BoolB (leafP x) w) := by
 obtain ⟨hlab, hrg, hkd⟩ := hd
 obtain ⟨a, cap, hkv⟩ := kids_len hkd
 obtain ⟨xk, xa, xc, xs, xset, xneg, xn, xm, xmode, xname, xon, xoff, xkv⟩ := x
 simp only at hkd hkv hrg hlab hk
 subst hkv
 subst hk
 have HM := Lib.hid (show leafP (⟨5, xa, xc, xs, xset, xneg, xn, xm, xmode, xname, xon, xoff, .slice a k.len cap⟩) = true by rfl)
 clear hkd hrg hlab
 unfold ndV
 go_enter Try.func46, Try.ntmps46
 go_wp2_with fail
 go_ret
 exact ⟨by rw [HM.out]; rfl, below_alloc w _⟩
set_option maxRecDepth 100000 in
set_option maxHeartbeats 4000000 in
theorem leaf_6 (x : Lab) (k : F) (w : World) (hd : NdAt w (x, k)) (hk : x.kind = 6) : Calls Try.prog 46 #[ndV x] w (BoolB (leafP x) w) := by
 obtain ⟨hlab, hrg, hkd⟩ := hd
 obtain ⟨a, cap, hkv⟩ := kids_len hkd
 obtain ⟨xk, xa, xc, xs, xset, xneg, xn, xm, xmode, xname, xon, xoff, xkv⟩ := x
 simp only at hkd hkv hrg hlab hk
 subst hkv
 subst hk
 have HM := Lib.hid (show leafP (⟨6, xa, xc, xs, xset, xneg, xn, xm, xmode, xname, xon, xoff, .slice a k.len cap⟩) = true by rfl)
 clear hkd hrg hlab
 unfold ndV
 go_enter Try.func46, Try.ntmps46
 go_wp2_with fail
 go_ret
 exact ⟨by rw [HM.out]; rfl, below_alloc w _⟩
set_option maxRecDepth 100000 in
set_option maxHeartbeats 4000000 in
theorem leaf_11 (x : Lab) (k : F) (w : World) (hd : NdAt w (x, k)) (hk : x.kind = 11) : Calls Try.prog 46 #[ndV x] w (BoolB (leafP x) w) := by
 obtain ⟨hlab, hrg, hkd⟩ := hd
 obtain ⟨a, cap, hkv⟩ := kids_len hkd
 obtain ⟨xk, xa, xc, xs, xset, xneg, xn, xm, xmode, xname, xon, xoff, xkv⟩ := x
 simp only at hkd hkv hrg hlab hk
 subst hkv
 subst hk
 have HM := Lib.hid (show leafP (⟨11, xa, xc, xs, xset, xneg, xn, xm, xmode, xname, xon, xoff, .slice a k.len cap⟩) = true by rfl)
 clear hkd hrg hlab
 unfold ndV
 go_enter Try.func46, Try.ntmps46
 go_wp2_with fail
 go_ret
 exact ⟨by rw [HM.out]; rfl, below_alloc w _⟩
set_option maxRecDepth 100000 in
set_option maxHeartbeats 4000000 in
theorem leaf_7 (x : Lab) (k : F) (w : World) (hd : NdAt w (x, k)) (hk : x.kind = 7) : Calls Try.prog 46 #[ndV x] w (BoolB (leafP x) w) := by
 obtain ⟨hlab, hrg, hkd⟩ := hd
 obtain ⟨a, cap, hkv⟩ := kids_len hkd
 obtain ⟨xk, xa, xc, xs, xset, xneg, xn, xm, xmode, xname, xon, xoff, xkv⟩ := x
 simp only at hkd hkv hrg hlab hk
 subst hkv
 subst hk
 have HM := Lib.hid (show leafP (⟨7, xa, xc, xs, xset, xneg, xn, xm, xmode, xname, xon, xoff, .slice a k.len cap⟩) = (wi xm 0 3 && wi xn 0 255) by rfl)
 clear hkd hrg hlab
 unfold ndV
 go_enter Try.func46, Try.ntmps46
 go_wp2_with fail
 refine (within_any _ _ _ _).mono ?_
 rintro e w2 ⟨rfl, hb2⟩
 have c5 := below_cell hb2 (a := ⟨w.heap.size, 5, none⟩) (v := .int .i64 xn) (by simp)
 cases h1 : wi xm 0 3 with
 | false =>
   rw [h1] at HM
   go_wp2_with fail
   go_ret
   exact ⟨by rw [HM.out]; rfl, below_box hb2⟩
 | true =>
   rw [h1] at HM
   go_wp2_with fail
   refine (within_any _ _ _ _).mono ?_
   rintro e w3 ⟨rfl, hb3⟩
   go_wp2_with fail
   go_ret
   exact ⟨by rw [HM.out]; rfl, below_trans (below_box hb2) hb3⟩
set_option maxRecDepth 100000 in
set_option maxHeartbeats 4000000 in
theorem leaf_8 (x : Lab) (k : F) (w : World) (hd : NdAt w (x, k)) (hk : x.kind = 8) : Calls Try.prog 46 #[ndV x] w (BoolB (leafP x) w) := by
 obtain ⟨hlab, hrg, hkd⟩ := hd
 obtain ⟨a, cap, hkv⟩ := kids_len hkd
 obtain ⟨xk, xa, xc, xs, xset, xneg, xn, xm, xmode, xname, xon, xoff, xkv⟩ := x
 simp only at hkd hkv hrg hlab hk
 subst hkv
 subst hk
 have HM := Lib.hid (show leafP (⟨8, xa, xc, xs, xset, xneg, xn, xm, xmode, xname, xon, xoff, .slice a k.len cap⟩) = (wi xm 0 3 && wi xn 0 255) by rfl)
 clear hkd hrg hlab
 unfold ndV
 go_enter Try.func46, Try.ntmps46
 go_wp2_with fail
 refine (within_any _ _ _ _).mono ?_
 rintro e w2 ⟨rfl, hb2⟩
 have c5 := below_cell hb2 (a := ⟨w.heap.size, 5, none⟩) (v := .int .i64 xn) (by simp)
 cases h1 : wi xm 0 3 with
 | false =>
   rw [h1] at HM
   go_wp2_with fail
   go_ret
   exact ⟨by rw [HM.out]; rfl, below_box hb2⟩
 | true =>
   rw [h1] at HM
   go_wp2_with fail
   refine (within_any _ _ _ _).mono ?_
   rintro e w3 ⟨rfl, hb3⟩
   go_wp2_with fail
   go_ret
   exact ⟨by rw [HM.out]; rfl, below_trans (below_box hb2) hb3⟩
set_option maxRecDepth 100000 in
set_option maxHeartbeats 4000000 in
theorem leaf_no (x : Lab) (k : F) (w : World) (hd : NdAt w (x, k)) (hk : x.kind < 1 ∨ 11 < x.kind) : Calls Try.prog 46 #[ndV x] w (BoolB (leafP x) w) := by
 obtain ⟨hlab, hrg, hkd⟩ := hd
 obtain ⟨a, cap, hkv⟩ := kids_len hkd
 obtain ⟨xk, xa, xc, xs, xset, xneg, xn, xm, xmode, xname, xon, xoff, xkv⟩ := x
 simp only at hkd hkv hrg hlab hk
 subst hkv
 have HM := Lib.hid (show leafP (⟨xk, xa, xc, xs, xset, xneg, xn, xm, xmode, xname, xon, xoff, .slice a k.len cap⟩) = false by
   unfold leafP
   simp only
   rw [if_neg (by omega), if_neg (by omega), if_neg (by omega), if_neg (by omega), if_neg (by omega), if_neg (by omega), if_neg (by omega)])
 have n1 : (xk == 1) = false := by simp; omega
 have n2 : (xk == 2) = false := by simp; omega
 have n3 : (xk == 3) = false := by simp; omega
 have n4 : (xk == 4) = false := by simp; omega
 have n5 : (xk == 5) = false := by simp; omega
 have n6 : (xk == 6) = false := by simp; omega
 have n7 : (xk == 7) = false := by simp; omega
 have n8 : (xk == 8) = false := by simp; omega
 have n9 : (xk == 9) = false := by simp; omega
 have n10 : (xk == 10) = false := by simp; omega
 have n11 : (xk == 11) = false := by simp; omega
 clear hkd hrg hlab hk
 unfold ndV
 go_enter Try.func46, Try.ntmps46
 go_wp2_with fail
 go_ret
 exact ⟨by rw [HM.out]; rfl, below_alloc w _⟩
theorem leaf_any (x : Lab) (k : F) (w : World) (hd : NdAt w (x, k)) : Calls Try.prog 46 #[ndV x] w (BoolB (leafP x) w) := by
 by_cases hno : x.kind < 1 ∨ 11 < x.kind
 · exact leaf_no x k w hd hno
 by_cases k1 : x.kind = 1
 · exact leaf_1 x k w hd k1
 by_cases k2 : x.kind = 2
 · exact leaf_2 x k w hd k2
 by_cases k3 : x.kind = 3
 · exact leaf_3 x k w hd k3
 by_cases k4 : x.kind = 4
 · exact leaf_4 x k w hd k4
 by_cases k5 : x.kind = 5
 · exact leaf_5 x k w hd k5
 by_cases k6 : x.kind = 6
 · exact leaf_6 x k w hd k6
 by_cases k7 : x.kind = 7
 · exact leaf_7 x k w hd k7
 by_cases k8 : x.kind = 8
 · exact leaf_8 x k w hd k8
 by_cases k9 : x.kind = 9
 · exact leaf_9 x k w hd k9
 by_cases k10 : x.kind = 10
 · exact leaf_10 x k w hd k10
 exact leaf_11 x k w hd (by omega)
end Go.Proofs.Ytpjaahojoabgjaa.trw
end
section
namespace Go.Proofs.Ytpjaahojoabgjaa.trw
open Go Go.RowKit trp
set_option maxRecDepth 100000 in
set_option maxHeartbeats 4000000 in
theorem cond_any (x : Lab) (k : F) (w : World) (hd : NdAt w (x, k)) : Calls Try.prog 44 #[ndV x] w (BoolB (condP x k) w) := by
 obtain ⟨hlab, hrg, hkd⟩ := hd
 obtain ⟨a, cap, hkv⟩ := kids_len hkd
 obtain ⟨xk, xa, xc, xs, xset, xneg, xn, xm, xmode, xname, xon, xoff, xkv⟩ := x
 simp only at hkd hkv hrg hlab
 subst hkv
 obtain ⟨R, hR⟩ : ∃ R, condP (⟨xk, xa, xc, xs, xset, xneg, xn, xm, xmode, xname, xon, xoff, .slice a k.len cap⟩) k = R := ⟨_, rfl⟩
 rw [hR]
 have HM := Lib.hid (show (wi xmode (-1) 255 && wi xm 0 3 && (if xn = 9 ∨ xn = 10 ∨ xn = 11 then wi k.len 1 2 else if xn = 12 then decide (k.len = 1) else if xn = 13 then wi k.len 2 3 && decide (k.hd = 18) else false)) = R by rw [← hR]; rfl)
 have HK := Lib.hid hkd
 clear hkd hrg hlab hR
 unfold ndV
 go_enter Try.func44, Try.ntmps44
 go_wp2_with fail
 refine (within_any _ _ _ _).mono ?_
 rintro e w2 ⟨rfl, hb2⟩
 have c6 := below_cell hb2 (a := ⟨w.heap.size, 6, none⟩) (v := .int .i64 xm) (by simp)
 have c5 := below_cell hb2 (a := ⟨w.heap.size, 5, none⟩) (v := .int .i64 xn) (by simp)
 have c11 := below_cell hb2 (a := ⟨w.heap.size, 11, none⟩) (v := .slice a k.len cap) (by simp)
 cases h1 : wi xmode (-1) 255 with
 | false =>
   rw [h1] at HM
   go_wp2_with fail
   go_ret
   exact ⟨by rw [← HM.out]; rfl, below_box hb2⟩
 | true =>
   rw [h1] at HM
   go_wp2_with fail
   refine (within_any _ _ _ _).mono ?_
   rintro e w3 ⟨rfl, hb3⟩
   have c5 := below_cell hb3 c5
   have c11 := below_cell hb3 c11
   have hb13 := below_trans (below_box hb2) hb3
   cases h2 : wi xm 0 3 with
   | false =>
     rw [h2] at HM
     go_wp2_with fail
     go_ret
     exact ⟨by rw [← HM.out]; rfl, hb13⟩
   | true =>
     rw [h2] at HM
     simp only [Bool.true_and] at HM
     clear c6 hb2 hb3
     obtain ⟨M, hM⟩ : ∃ M, w.heap.size = M := ⟨_, rfl⟩
     rw [hM] at c5 c11 ⊢
     have HB := Lib.hid hb13
     clear hb13 hM
     by_cases h3 : xn = 9 ∨ xn = 10 ∨ xn = 11
     · have HM2 := Lib.hid (show wi k.len 1 2 = R by rw [← HM.out, if_pos h3])
       clear HM
       rcases h3 with rfl | rfl | rfl
       all_goals
         go_wp2_with fail
         refine (within_any _ _ _ _).mono ?_
         rintro e w4 ⟨rfl, hb4⟩
         go_wp2_with fail
         go_ret
         exact ⟨by rw [← HM2.out]; rfl, below_trans HB.out hb4⟩
     · by_cases h4 : xn = 12
       · subst h4
         have HM2 := Lib.hid (show decide (k.len = 1) = R by rw [← HM.out, if_neg h3, if_pos rfl])
         clear HM h3
         obtain ⟨n, hn⟩ : ∃ n, k.len = n := ⟨_, rfl⟩
         rw [hn] at HM2 c11 ⊢
         clear hn
         go_wp2_with fail
         go_ret
         refine ⟨?_, HB.out⟩
         rw [← HM2.out]
         refine congrArg (fun b => Ending.returned (Value.bool b)) ?_
         rw [Bool.eq_iff_iff]
         simp
         try omega
       · by_cases h5 : xn = 13
         · subst h5
           have HM2 := Lib.hid (show (wi k.len 2 3 && decide (k.hd = 18)) = R by rw [← HM.out, if_neg h3, if_neg h4, if_pos rfl])
           clear HM h3 h4
           cases h6 : wi k.len 2 3 with
           | false =>
             rw [h6] at HM2
             have H6 := Lib.hid h6
             clear h6
             go_wp2_with fail
             refine (within_any _ _ _ _).mono ?_
             rintro e w4 ⟨rfl, hb4⟩
             rw [H6.out]
             go_wp2_with fail
             go_ret
             exact ⟨by rw [← HM2.out]; rfl, below_trans HB.out hb4⟩
           | true =>
             rw [h6] at HM2
             have H6 := Lib.hid h6
             have hlen : 2 ≤ k.len := by
               simp only [wi, Bool.and_eq_true, decide_eq_true_eq] at h6
               omega
             obtain ⟨b, o, rfl, hc⟩ := hd_at HK.out (by omega)
             have hc := below_cell HB.out hc
             have hlz : (0 : Int) < (k.len : Int) := by omega
             clear h6
             generalize k.hd = q at *
             go_wp2_with fail
             refine (within_any _ _ _ _).mono ?_
             rintro e w4 ⟨rfl, hb4⟩
             rw [H6.out]
             have hc := below_cell hb4 hc
             have c11 := below_cell hb4 c11
             go_wp2_with fail
             go_ret
             refine ⟨?_, below_trans HB.out hb4⟩
             rw [← HM2.out]
             refine congrArg (fun b => Ending.returned (Value.bool b)) ?_
             rw [Bool.eq_iff_iff]
             simp
         · have HM2 := Lib.hid (show false = R by rw [← HM.out, if_neg h3, if_neg h4, if_neg h5])
           have e1 : (xn == 9) = false := by simp; omega
           have e2 : (xn == 10) = false := by simp; omega
           have e3 : (xn == 11) = false := by simp; omega
           have e4 : (xn == 12) = false := by simp; omega
           have e5 : (xn == 13) = false := by simp; omega
           clear HM h3 h4 h5
           go_wp2_with fail
           go_ret
           exact ⟨by rw [← HM2.out]; rfl, HB.out⟩
end Go.Proofs.Ytpjaahojoabgjaa.trw
end
