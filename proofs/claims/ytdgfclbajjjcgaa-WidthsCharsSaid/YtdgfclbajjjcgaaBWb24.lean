/- T -/
import Derived.Deep.Cut
import Derived.Deep.DeepCutAuto
import Derived.KernelRfl
import Derived.Lib.SlBytesConst
import Derived.StillTailTactics
import Derived.Test.YtdgfclbajjjcgaaBWb23
set_option maxHeartbeats 16000000
set_option maxRecDepth 1000000
namespace Go.Proofs.Ytdgfclbajjjcgaa
section
namespace gpp
open sq
open Go tkp trp rpp rsp setp setw
theorem allNm_app : ∀ {f g : F}, AllNm f → AllNm g → AllNm (F.app f g)
 | .nil, _, _, h => h
 | .cons _ _ _, _, h, k => ⟨h.1, h.2.1, allNm_app h.2.2 k⟩
theorem yj {x : Lab} {k : F} (h1 : x.name.size ≤ 9223372036854775807) (h3 : AllNm k) : AllNm (F.one x k) := ⟨h1, h3, trivial⟩
theorem nmL (k a : Int) : (lab k a).name.size ≤ 9223372036854775807 := by show (⟨#[]⟩ : ByteArray).size ≤ _; decide
theorem allNm_oneF (kind : Int) : ∀ {l : F}, AllNm l → AllNm (oneF kind l)
 | .nil, _ => ⟨nmL 0 0, trivial, trivial⟩
 | .cons x k .nil, h => h
 | .cons x k (.cons y j r), h => ⟨nmL 0 0, h, trivial⟩
theorem getD_nm {L : List Tk} (hL : ∀ t ∈ L, t.name.size ≤ 9223372036854775807) (i : Nat) : (L.getD i zeroT).name.size ≤ 9223372036854775807 := by
 rw [List.getD_eq_getElem?_getD];cases h : L[i]? with
 | none => show (⟨#[]⟩ : ByteArray).size ≤ _; decide
 | some t => exact hL t (List.mem_of_getElem? h)
theorem allNm_group {t : Tk} (ht : t.name.size ≤ 9223372036854775807) {look l : F} (h1 : AllNm look) (h2 : AllNm l) : AllNm (jf t look l) := by
 have ho := allNm_oneF 13 h2;unfold jf
 repeat' split
 ·exact yj ht ho
 ·exact yj (nmL 0 0) ho
 ·exact yj (nmL 0 0) ho
 ·exact yj (nmL 0 0) ho
 ·exact yj (nmL 0 0) h2
 ·exact yj ht (allNm_app h1 h2)
theorem allNm_zero : AllNm zeroF := yj (nmL 0 0) trivial
def accNm : Md → Prop
 | .alt acc => AllNm acc
 | .seq acc => AllNm acc
 | .thing => True
theorem run_nm {L : List Tk} (hL : ∀ t ∈ L, t.name.size ≤ 9223372036854775807) : ∀ (n : Nat) (md : Md) (s : Ps), accNm md → AllNm (run L n md s).1
 | 0, _, _, _ => trivial
 | n + 1, .alt acc, s, h => by
  have a := run_nm hL n (.seq .nil) s trivial;rw [run];simp only;split
  ·exact run_nm hL n (.alt _) _ (allNm_app h a)
  ·exact allNm_app h a
 | n + 1, .seq acc, s, h => by
  rw [run];split
  ·exact allNm_oneF 12 h
  ·split
   ·exact allNm_zero
   ·have a := run_nm hL n .thing s trivial;simp only;split
    ·exact run_nm hL n (.seq _) _ (allNm_app h (yj (nmL 0 0) a))
    ·exact run_nm hL n (.seq _) _ (allNm_app h a)
 | n + 1, .thing, s, _ => by
  rw [run];simp only;split
  ·exact yj (getD_nm hL s.i) trivial
  ·split
   ·exact allNm_zero
   ·have hq : AllNm (if (L.getD s.i zeroT).n = 13 ∧ kindS L ⟨s.i + 1, s.op + 1, s.e, s.at_⟩ = 10 then run L n .thing ⟨s.i + 1, s.op + 1, s.e, s.at_⟩ else (.nil, ⟨s.i + 1, s.op + 1, s.e, s.at_⟩)).1 := by
     split
     ·exact run_nm hL n .thing _ trivial
     ·trivial
    generalize (if (L.getD s.i zeroT).n = 13 ∧ kindS L ⟨s.i + 1, s.op + 1, s.e, s.at_⟩ = 10 then run L n .thing ⟨s.i + 1, s.op + 1, s.e, s.at_⟩ else (.nil, ⟨s.i + 1, s.op + 1, s.e, s.at_⟩)) = q at *;split
    ·exact allNm_zero
    ·exact allNm_group (getD_nm hL s.i) hq (run_nm hL n (.alt .nil) _ trivial)
theorem parse_nm {L : List Tk} {n : Int} {f : F} (hL : ∀ t ∈ L, t.name.size ≤ 9223372036854775807) (h : parseP L n = .ok f) : AllNm f := by
 have a := run_nm hL (3 * L.length + 3) (.alt .nil) { i := 0 } trivial;unfold parseP at h;generalize run L (3 * L.length + 3) (.alt .nil) { i := 0 } = r at *;simp only at h;generalize (if r.2.e = 0 ∧ r.2.i < L.length then failS r.2 31 (L.getD r.2.i zeroT).at_ else r.2) = s at h;split at h
 ·cases h
 ·split at h
  ·cases h
  ·cases h;exact allNm_oneF 13 a
def NmS : F → Prop
 | .nil => True
 | .cons x k r => (x.name.size ≤ 9223372036854775807 ∧ x.set.length ≤ 1000000) ∧ NmS k ∧ NmS r
theorem nmS_app : ∀ {f g : F}, NmS f → NmS g → NmS (F.app f g)
 | .nil, _, _, h => h
 | .cons _ _ _, _, h, k => ⟨h.1, h.2.1, nmS_app h.2.2 k⟩
theorem nmS_one {x : Lab} {k : F} (h1 : x.name.size ≤ 9223372036854775807 ∧ x.set.length ≤ 1000000) (h3 : NmS k) : NmS (F.one x k) := ⟨h1, h3, trivial⟩
theorem nmSL (k a : Int) : (lab k a).name.size ≤ 9223372036854775807 ∧ (lab k a).set.length ≤ 1000000 := ⟨nmL k a, by simp [lab]⟩
theorem nmS_oneF (kind : Int) : ∀ {l : F}, NmS l → NmS (oneF kind l)
 | .nil, _ => ⟨nmSL 0 0, trivial, trivial⟩
 | .cons x k .nil, h => h
 | .cons x k (.cons y j r), h => ⟨nmSL 0 0, h, trivial⟩
theorem nmS_first : ∀ {l : F}, NmS l → NmS (firstF l)
 | .nil, h => h
 | .cons x k r, h => ⟨h.1, h.2.1, trivial⟩
theorem nmS_list {x : Lab} {k : F} (h1 : x.name.size ≤ 9223372036854775807 ∧ x.set.length ≤ 1000000) (h : NmS k) : NmS (listF x k) := by
 unfold listF;split
 ·exact h
 ·exact nmS_one h1 h
theorem nmS_flat : ∀ {l : F}, NmS l → NmS (flatF l)
 | .nil, _ => trivial
 | .cons x k r, h => nmS_app (nmS_list h.1 h.2.1) (nmS_flat h.2.2)
theorem nmS_strip : ∀ {f : F}, NmS (strip f) ↔ NmS f
 | .nil => Iff.rfl
 | .cons x k r => by rw [strip];unfold NmS;rw [nmS_strip (f := k), nmS_strip (f := r)]
theorem nmS_ok : ∀ {f : F}, OkF f → AllNm f → NmS f
 | .nil, _, _ => trivial
 | .cons x k r, h, g => ⟨⟨g.1, by have := h.1; omega⟩, nmS_ok h.2.2.1 g.2.1, nmS_ok h.2.2.2 g.2.2⟩
theorem canon_len : ∀ {l : List Rg} {lo : Int}, l.Pairwise (fun a b => a.2 + 1 < b.1) → (∀ r ∈ l, lo ≤ r.1 ∧ r.1 ≤ r.2 ∧ r.2 ≤ 1114111) → 0 ≤ lo → lo ≤ 1114112 → (l.length : Int) * 2 ≤ 1114113 - lo
 | [], lo, _, _, _, h => by simp; omega
 | r :: l, lo, hp, hr, h0, h1 => by
  have a := hr r (dJ ..);have hp1 := List.pairwise_cons.1 hp;cases l with
  | nil => simp; omega
  | cons q l =>
   have b := hp1.1 q (dJ ..);have c := hr q (List.mem_cons_of_mem _ (dJ ..));have := canon_len (l := q :: l) (lo := r.2 + 2) hp1.2 (fun s hs => by have d := hr s (List.mem_cons_of_mem _ hs);have e := hp1.1 s hs;exact ⟨by omega, d.2⟩) (by omega) (by omega)
   simp only [dB] at this ⊢;omega
theorem canon_le {l : List Rg} (h : Canon l) : l.length ≤ 1000000 := by have := canon_len (lo := 0) h.1 h.2 (Int.le_refl _) (by decide);omega
theorem setP_canon (u : Bool) {m : Int} (hm : m ≤ 1114111) (l : List Rg) (cl neg : Bool) : Canon (setP u m l cl neg) := by exact z102
theorem nmS_set {l : List Rg} (a : Int) (h : l.length ≤ 1000000) : NmS (setL a l) := nmS_one ⟨nmL 0 0, h⟩ trivial
theorem nmS_line {m : Int} (hm : m ≤ 1114111) (a : Int) : NmS (lineF m a) := by unfold lineF;exact nmS_one (nmSL 0 0) (nmS_one (nmSL 0 0) (nmS_app (nmS_one (nmSL 0 0) (nmS_app (nmS_set a (by simp)) (nmS_set a (by simp)))) (nmS_set a (canon_le (ja hm _)))))
theorem nmS_node {u : Bool} {m : Int} (hm : m ≤ 1114111) {rk : Int → F × Int} {x : Lab} {k : F} (hx : x.name.size ≤ 9223372036854775807 ∧ x.set.length ≤ 1000000) (hk : NmS k) (hr : ∀ g, NmS (rk g).1) (f : Int) : NmS (nodeP u m rk x k f).1 := by
 unfold nodeP
 repeat' split
 ·exact nmS_set _ (canon_le (setP_canon u hm _ _ _))
 ·exact nmS_set _ (canon_le (setP_canon u hm _ _ _))
 ·exact nmS_set _ (canon_le (setP_canon u hm _ _ _))
 ·exact nmS_set _ (canon_le (setP_canon u hm _ _ _))
 ·exact nmS_one hx (nmS_strip.2 hk)
 ·exact nmS_line hm _
 ·exact nmS_one hx (nmS_strip.2 hk)
 ·exact nmS_one (nmSL 0 0) trivial
 ·exact nmS_oneF 12 (nmS_flat (hr _))
 ·exact nmS_one hx (hr _)
 ·exact nmS_first (hr _)
 ·exact nmS_one hx (hr _)
theorem nmS_row {u : Bool} {m : Int} (hm : m ≤ 1114111) : ∀ {l : F} (f : Int), NmS l → NmS (rowP u m l f).1
 | .nil, _, _ => trivial
 | .cons x k r, f, h => nmS_app (nmS_node hm h.1 h.2.1 (fun g => nmS_row hm g h.2.1) f) (nmS_row hm _ h.2.2)
theorem nmS_res {x : Lab} {k : F} (h : NmS (F.one x k)) (o : Int) : NmS (resP (x, k) o) := by
 unfold resP;have hm : (if andI o 32 ≠ 0 then (1114111 : Int) else 255) ≤ 1114111 := by split <;> omega
 exact nmS_node hm h.1 h.2.1 (fun g => nmS_row hm g h.2.1) _
theorem len_le : ∀ f : F, f.len ≤ f.size := rsp.len_size
theorem res_sz (x : Lab) (k : F) (o : Int) : (resP (x, k) o).size ≤ 6 * k.size + 6 := by unfold resP;exact node_size _ _ _ _ _ _ fun g => row_size _ _ k g
end gpp
end
section
namespace gpw
open sq
open Go.Sort Go Go.RowKit Go.Maps setp setw tkp trp trw rpp gpp sq prw
open rpw (fC jP FSub jQ jd own_below qp vW qh qA)
open utfw (Sl at_ strOf)
open tkw (sg)
open rsw (flatP)
open rtp (rlexP)
open rsp (resP zU)
theorem cpOk_of : ∀ {f : F} {n : Nat}, NmS f → f.size ≤ 100000 → CpOk f
 | .nil, _, _, _ => trivial
 | .cons x k r, n, h, hs => by simp only [F.size] at hs;have := len_le k;exact ⟨h.1.2, by omega, cpOk_of (n := n) h.2.1 (by omega), cpOk_of (n := n) h.2.2 (by omega)⟩
theorem flat_ok {n : Nat} {g : Nat → Int} {o : Int} {t : F} (h : flatP (sg (strOf n g)) n o = some t) : NmS t ∧ t.size ≤ 100000 := by
 unfold flatP at h;split at h
 ·cases h
 ·rename_i T hT;have ht := rsw.rlex_ok hT;split at h
  ·cases h
  ·rename_i f hf;have hp := zU (fun t h => (ht.1 t h).1.s) hf;have hn := parse_nm (fun t h => (ht.1 t h).1.nm) hf;split at h
   ·cases h
   ·rename_i x k r;cases h;have hs := hp.2.1;simp only [F.size] at hs;have hz := res_sz x k o;exact ⟨nmS_res ⟨⟨hn.1, by have := hp.1.1; omega⟩, nmS_ok hp.1.2.2.1 hn.2.1, trivial⟩ o, by omega⟩
end gpw
end
section
namespace rfp
open sq
open Go trp rpp gpp
def nameN (l : Nm) (s : ByteArray) : Int := ((l.find? fun q => decide (q.1 = s)).map (·.2)).getD (-1)
def target (l : Nm) (cur m k : Int) (s : ByteArray) : Int := if m = 1 then cur - k + 1 else if m = 2 then cur + k else if m = 3 then nameN l s else k
def inn (cnt k least : Int) : Bool := decide (least ≤ k) && decide (k ≤ cnt)
def stepP (cnt : Int) (l : Nm) (x : Lab) (cur : Int) : Bool × Lab × Int :=
 if x.kind = 14 then (true, x, x.n)
 else if x.kind = 19 then
  (if x.n = 10 then (inn cnt (target l cur 3 x.mode x.name) 1, { x with n := 9, mode := target l cur 3 x.mode x.name, m := 0, name := ⟨#[]⟩ }, cur)
   else if x.n = 9 then (inn cnt (target l cur x.m x.mode x.name) 1, { x with mode := target l cur x.m x.mode x.name, m := 0, name := ⟨#[]⟩ }, cur)
   else if x.n = 11 then
    (if x.m = 3 then (inn cnt (target l cur 3 x.mode x.name) 1, { x with mode := target l cur 3 x.mode x.name, m := 0, name := ⟨#[]⟩ }, cur)
     else (decide (x.mode = -1) || inn cnt x.mode 0, x, cur))
   else (true, x, cur))
 else if x.kind = 7 ∨ x.kind = 8 then
  (inn cnt (target l cur x.m x.n x.name) (if x.kind = 8 then 0 else 1), { x with n := target l cur x.m x.n x.name, m := 0, name := ⟨#[]⟩ }, cur)
 else (true, x, cur)
def meant (cnt : Int) (l : Nm) (last m k : Int) (s : ByteArray) : Int :=
 if m = 3 then nameN l s else
 let k2 := if m = 1 then last - k + 1 else if m = 2 then last + k else k
 if k2 < 0 ∨ cnt < k2 then -1 else k2
def stepD (cnt : Int) (l : Nm) (x : Lab) (last : Int) : Bool × Lab × Int :=
 if x.kind = 7 ∨ x.kind = 8 then
  (decide (meant cnt l last x.m x.n x.name < if x.kind = 8 then 0 else 1), { x with n := meant cnt l last x.m x.n x.name, m := 0, name := ⟨#[]⟩ }, last)
 else if x.kind = 19 then
  (if x.n = 9 ∨ x.n = 10 then
   (decide (meant cnt l last (if x.n = 10 then 3 else x.m) x.mode x.name < 1), { x with n := 9, mode := meant cnt l last (if x.n = 10 then 3 else x.m) x.mode x.name, m := 0, name := ⟨#[]⟩ }, last)
   else if x.n = 11 ∧ x.mode ≠ -1 then
    (decide (meant cnt l last x.m x.mode x.name < if x.m = 3 then 1 else 0), { x with mode := meant cnt l last x.m x.mode x.name, m := 0, name := ⟨#[]⟩ }, last)
   else (false, x, last))
 else (false, x, if x.kind = 14 then x.n else last)
def NmOk (cnt : Int) (l : Nm) : Prop := 0 ≤ cnt ∧ ∀ s, nameN l s = -1 ∨ (1 ≤ nameN l s ∧ nameN l s ≤ cnt)
def LabOk (x : Lab) : Prop := (x.kind = 19 → x.n = 11 → (x.m = 3 ∧ x.mode ≠ -1) ∨ (x.m = 0 ∧ x.name = ⟨#[]⟩))
theorem target_meant {cnt : Int} {l : Nm} (h : NmOk cnt l) (cur m k : Int) (s : ByteArray) (least : Int) (hl : least = 0 ∨ least = 1) :
 inn cnt (target l cur m k s) least = !decide (meant cnt l cur m k s < least) ∧ (inn cnt (target l cur m k s) least = true → target l cur m k s = meant cnt l cur m k s) := by
 have hn := h.2 s;have h0 := h.1;have key : (inn cnt (target l cur m k s) least = true ↔ ¬ meant cnt l cur m k s < least) ∧ (inn cnt (target l cur m k s) least = true → target l cur m k s = meant cnt l cur m k s) := by
  unfold inn target meant;rw [dK, dF, dF];simp only;by_cases h3 : m = 3
  ·subst h3;rw [if_neg (by decide), if_neg (by decide), if_pos rfl, if_pos rfl];constructor
   ·omega
   ·intro _; rfl
  ·rw [if_neg h3];simp only [if_neg h3];generalize (if m = 1 then cur - k + 1 else if m = 2 then cur + k else k) = z;by_cases hz : z < 0 ∨ cnt < z
   ·rw [if_pos hz];constructor <;> omega
   ·rw [if_neg hz];constructor
    ·omega
    ·intro _; rfl
 refine ⟨?_, key.2⟩;by_cases c : meant cnt l cur m k s < least
 ·rw [decide_eq_true c];cases e : inn cnt (target l cur m k s) least with
  | false => rfl
  | true => exact absurd c (key.1.1 e)
 ·rw [decide_eq_false c];exact key.1.2 c
theorem step_same {cnt : Int} {l : Nm} (h : NmOk cnt l) {x : Lab} (hx : LabOk x) (cur : Int) :
 (stepP cnt l x cur).1 = !(stepD cnt l x cur).1 ∧ ((stepP cnt l x cur).1 = true → (stepP cnt l x cur).2 = (stepD cnt l x cur).2) := by
 unfold stepP stepD;by_cases c14 : x.kind = 14
 ·rw [if_pos c14, if_neg (by omega), if_neg (by omega), if_pos c14];exact ⟨rfl, fun _ => rfl⟩
 rw [if_neg c14];by_cases c19 : x.kind = 19
 ·rw [if_pos c19, if_neg (show ¬ (x.kind = 7 ∨ x.kind = 8) by omega), if_pos c19];by_cases n10 : x.n = 10
  ·obtain ⟨a, b⟩ := target_meant h cur 3 x.mode x.name 1 (.inr rfl);rw [if_pos n10, if_pos (.inr n10), if_pos n10];exact ⟨a, fun e => by simp only; rw [b e]⟩
  rw [if_neg n10, if_neg n10];by_cases n9 : x.n = 9
  ·obtain ⟨a, b⟩ := target_meant h cur x.m x.mode x.name 1 (.inr rfl);rw [if_pos n9, if_pos (.inl n9)];exact ⟨a, fun e => by simp only; rw [b e, ← n9]⟩
  rw [if_neg n9, if_neg (show ¬ (x.n = 9 ∨ x.n = 10) by omega)];by_cases n11 : x.n = 11
  ·rw [if_pos n11];rcases hx c19 n11 with ⟨m3, md⟩ | ⟨m0, nm⟩
   ·obtain ⟨a, b⟩ := target_meant h cur 3 x.mode x.name 1 (.inr rfl);rw [if_pos m3, if_pos ⟨n11, md⟩, if_pos m3, m3];exact ⟨a, fun e => by simp only; rw [b e]⟩
   ·rw [if_neg (by omega)];by_cases md : x.mode = -1
    ·rw [if_neg (fun q => q.2 md), decide_eq_true md];exact ⟨rfl, fun _ => rfl⟩
    ·obtain ⟨a, b⟩ := target_meant h cur x.m x.mode x.name 0 (.inl rfl);have t : target l cur x.m x.mode x.name = x.mode := by rw [m0]; rfl
     rw [if_pos ⟨n11, md⟩, if_neg (by omega), decide_eq_false md, Bool.false_or];rw [t] at a b;refine ⟨a, fun e => ?_⟩;simp only;rw [← b e, ← m0, ← nm]
  ·rw [if_neg n11, if_neg (fun q => n11 q.1)];exact ⟨rfl, fun _ => rfl⟩
 rw [if_neg c19];by_cases c7 : x.kind = 7 ∨ x.kind = 8
 ·rw [if_pos c7, if_pos c7];obtain ⟨a, b⟩ := target_meant h cur x.m x.n x.name (if x.kind = 8 then 0 else 1) (by split <;> simp);exact ⟨a, fun e => by simp only; rw [b e]⟩
 ·rw [if_neg c7, if_neg c7, if_neg c19, if_neg c14];exact ⟨rfl, fun _ => rfl⟩
def visF (cnt : Int) (l : Nm) (rs : Bool) (bef : Int) : F → Int → Int → Option Int × F × Int × Int
 | .nil, lg, cur => (none, .nil, lg, cur)
 | .cons x k r, lg, cur =>
  let s := stepP cnt l x cur
  if s.1 = false then (some x.at_, .cons s.2.1 k r, lg, s.2.2) else
  let q := visF cnt l (decide (x.kind = 16)) s.2.2 k s.2.2 s.2.2
  if q.1 ≠ none then (q.1, .cons s.2.1 q.2.1 r, lg, q.2.2.2) else
  let c := if x.kind = 16 then q.2.2.1 else q.2.2.2
  let t := visF cnt l rs bef r (if rs = true then max lg c else lg) (if rs = true then bef else c)
  (t.1, .cons s.2.1 q.2.1 t.2.1, t.2.2.1, t.2.2.2)
def fst2 (a b : Option Int) : Option Int := match a with
 | some v => some v
 | none => b
def docF (cnt : Int) (l : Nm) (rs : Bool) (last : Int) : F → Int → F × Int × Option Int
 | .nil, most => (.nil, most, none)
 | .cons x k r, most =>
  let s := stepD cnt l x (if rs = true then last else most)
  let q := docF cnt l (decide (x.kind = 16)) s.2.2 k s.2.2
  let t := docF cnt l rs last r (if most < q.2.1 then q.2.1 else most)
  (.cons s.2.1 q.1 t.1, t.2.1, fst2 (if s.1 = true then some x.at_ else none) (fst2 q.2.2 t.2.2))
def LabsOk : F → Prop
 | .nil => True
 | .cons x k r => LabOk x ∧ LabsOk k ∧ LabsOk r
theorem stepD_last (cnt : Int) (l : Nm) (x : Lab) (last : Int) : (stepD cnt l x last).2.2 = if x.kind = 14 then x.n else last := by
 unfold stepD;by_cases c : x.kind = 7 ∨ x.kind = 8
 ·rw [if_pos c, if_neg (show ¬ x.kind = 14 by omega)]
 rw [if_neg c];by_cases d : x.kind = 19
 ·rw [if_pos d, if_neg (show ¬ x.kind = 14 by omega)];split
  ·rfl
  ·split <;> rfl
 ·rw [if_neg d]
theorem vis_doc {cnt : Int} {l : Nm} (h : NmOk cnt l) : ∀ (f : F) (rs : Bool) (bef lg cur : Int), LabsOk f → (refF rs bef f (if rs = true then lg else cur)).1 = f →
 (visF cnt l rs bef f lg (if rs = true then bef else cur)).1 = (docF cnt l rs bef f (if rs = true then lg else cur)).2.2 ∧
 (docF cnt l rs bef f (if rs = true then lg else cur)).2.1 = (refF rs bef f (if rs = true then lg else cur)).2 ∧
 ((docF cnt l rs bef f (if rs = true then lg else cur)).2.2 = none → (visF cnt l rs bef f lg (if rs = true then bef else cur)).2.1 = (docF cnt l rs bef f (if rs = true then lg else cur)).1 ∧
  (if rs = true then (visF cnt l rs bef f lg (if rs = true then bef else cur)).2.2.1 else (visF cnt l rs bef f lg (if rs = true then bef else cur)).2.2.2) = (docF cnt l rs bef f (if rs = true then lg else cur)).2.1)
 | .nil, rs, bef, lg, cur, _, _ => ⟨rfl, rfl, fun _ => ⟨rfl, by cases rs <;> rfl⟩⟩
 | .cons x k r, rs, bef, lg, cur, ho, hn => by
  obtain ⟨hx, hk, hr⟩ := ho;have ha : (if rs = true then bef else (if rs = true then lg else cur)) = if rs = true then bef else cur := by cases rs <;> rfl
  rw [refF] at hn;rw [visF, docF, refF];simp only at hn ⊢;rw [ha] at hn ⊢;generalize ha2 : (if rs = true then bef else cur) = a at *;generalize hm : (if rs = true then lg else cur) = most at *;injection hn with n1 n2 n3;have hb : (if x.kind = 14 then x.n else a) = if x.kind = 14 then a + 1 else a := by
   by_cases c : x.kind = 14
   ·rw [if_pos c] at n1;rw [if_pos c, if_pos c, ← n1]
   ·rw [if_neg c, if_neg c]
  have hs := stepD_last cnt l x a;rw [hb] at hs;obtain ⟨s1, s2⟩ := step_same h hx a;generalize stepD cnt l x a = D at *;generalize stepP cnt l x a = P at *;rw [← hs] at n2 n3 ⊢;have gl := ref_le k (decide (x.kind = 16)) D.2.2 D.2.2;have hDa : a ≤ D.2.2 := by rw [hs]; split <;> omega
  have ik := vis_doc h k (decide (x.kind = 16)) D.2.2 D.2.2 D.2.2 hk (by rw [ite_self]; exact n2);rw [ite_self] at ik;obtain ⟨k1, k2, k3⟩ := ik;generalize hR : refF (decide (x.kind = 16)) D.2.2 k D.2.2 = R at *;generalize hq : docF cnt l (decide (x.kind = 16)) D.2.2 k D.2.2 = q at *;have hmo : (if most < q.2.1 then q.2.1 else most) = if most < R.2 then R.2 else most := by rw [k2]
  rw [hmo];generalize hmx : (if most < R.2 then R.2 else most) = mx at *;have e1 : (if rs = true then (if rs = true then mx else lg) else mx) = mx := by cases rs <;> rfl
  have ir := vis_doc h r rs bef (if rs = true then mx else lg) mx hr (by rw [e1]; exact n3);rw [e1] at ir;obtain ⟨r1, r2, r3⟩ := ir;generalize hT : docF cnt l rs bef r mx = T at *;by_cases p0 : P.1 = false
  ·rw [if_pos p0];have d1 : D.1 = true := by
    cases hd : D.1 with
    | true => rfl
    | false => rw [p0, hd] at s1; cases s1
   rw [if_pos d1];exact ⟨rfl, r2, fun z => by cases z⟩
  have p1 : P.1 = true := by
   cases hp : P.1 with
   | true => rfl
   | false => exact absurd hp p0
  have d1 : D.1 = false := by
   cases hd : D.1 with
   | false => rfl
   | true => rw [p1, hd] at s1; cases s1
  rw [if_neg p0, s2 p1];have d2 : ¬ D.1 = true := by rw [d1]; decide
  rw [if_neg d2];generalize hV : visF cnt l (decide (x.kind = 16)) D.2.2 k D.2.2 D.2.2 = V at *;show _ ∧ _ ∧ (fst2 q.2.2 T.2.2 = none → _);by_cases v0 : V.1 ≠ none
  ·rw [if_pos v0];have : ∃ v, V.1 = some v := Option.ne_none_iff_exists'.1 v0;obtain ⟨v, hv⟩ := this;have hq2 : q.2.2 = some v := by rw [← k1, hv]
   refine ⟨?_, r2, fun z => ?_⟩
   ·show V.1 = fst2 q.2.2 T.2.2;rw [hq2, hv];rfl
   ·rw [hq2] at z;cases z
  have v1 := Decidable.not_not.1 v0;rw [if_neg v0];have hq2 : q.2.2 = none := by rw [← k1, v1]
  obtain ⟨k4, k5⟩ := k3 hq2;have hc : (if x.kind = 16 then V.2.2.1 else V.2.2.2) = R.2 := by
   rw [← k2, ← k5];by_cases c : x.kind = 16
   ·rw [if_pos c, if_pos (decide_eq_true c)]
   ·rw [if_neg c, if_neg (by rw [decide_eq_false c]; decide)]
  rw [hc];have w1 : (if rs = true then max lg R.2 else lg) = if rs = true then mx else lg := by
   cases rs with
   | false => rfl
   | true =>
    rw [if_pos rfl] at hm ⊢;rw [if_pos rfl, ← hmx, ← hm];split <;> omega
  have w2 : (if rs = true then bef else R.2) = if rs = true then bef else mx := by
   cases rs with
   | true => rfl
   | false =>
    rw [if_neg (by decide)] at hm ha2 ⊢;rw [if_neg (by decide), ← hmx];split <;> omega
  rw [w1, w2];refine ⟨?_, r2, fun z => ?_⟩
  ·show _ = fst2 q.2.2 T.2.2;rw [hq2];exact r1
  ·rw [hq2] at z;obtain ⟨y1, y2⟩ := r3 z;exact ⟨by rw [y1, k4], y2⟩
theorem ref_again : ∀ (f : F) (rs : Bool) (last most : Int), refF rs last (refF rs last f most).1 most = refF rs last f most
 | .nil, _, _, _ => rfl
 | .cons x k r, rs, last, most => by
  have e : refF rs last (.cons x k r) most = (.cons (if x.kind = 14 then { x with n := (if rs = true then last else most) + 1 } else x) (refF (decide (x.kind = 16)) (if x.kind = 14 then (if rs = true then last else most) + 1 else (if rs = true then last else most)) k (if x.kind = 14 then (if rs = true then last else most) + 1 else (if rs = true then last else most))).1 (refF rs last r (if most < (refF (decide (x.kind = 16)) (if x.kind = 14 then (if rs = true then last else most) + 1 else (if rs = true then last else most)) k (if x.kind = 14 then (if rs = true then last else most) + 1 else (if rs = true then last else most))).2 then (refF (decide (x.kind = 16)) (if x.kind = 14 then (if rs = true then last else most) + 1 else (if rs = true then last else most)) k (if x.kind = 14 then (if rs = true then last else most) + 1 else (if rs = true then last else most))).2 else most)).1, (refF rs last r (if most < (refF (decide (x.kind = 16)) (if x.kind = 14 then (if rs = true then last else most) + 1 else (if rs = true then last else most)) k (if x.kind = 14 then (if rs = true then last else most) + 1 else (if rs = true then last else most))).2 then (refF (decide (x.kind = 16)) (if x.kind = 14 then (if rs = true then last else most) + 1 else (if rs = true then last else most)) k (if x.kind = 14 then (if rs = true then last else most) + 1 else (if rs = true then last else most))).2 else most)).2) := by rw [refF]
  rw [e];generalize ha : (if rs = true then last else most) = a;generalize hb : (if x.kind = 14 then a + 1 else a) = b;have hk : (if x.kind = 14 then { x with n := a + 1 } else x : Lab).kind = x.kind := by split <;> rfl
  generalize hx' : (if x.kind = 14 then { x with n := a + 1 } else x : Lab) = y at *;have ik := ref_again k (decide (x.kind = 16)) b b;generalize refF (decide (x.kind = 16)) b k b = R at *;generalize hm : (if most < R.2 then R.2 else most) = m;have ir := ref_again r rs last m;generalize refF rs last r m = T at *;rw [refF];rw [ha, hk, hb, ik, hm, ir, ← hx'];by_cases c : x.kind = 14
  ·simp [c]
  ·simp [c]
theorem refs_doc {cnt : Int} {l : Nm} (h : NmOk cnt l) (x : Lab) (k : F) (ho : LabsOk (.cons x k .nil)) (hn : (refF false 0 (.cons x k .nil) 0).1 = .cons x k .nil) :
 (visF cnt l false 0 (.cons x k .nil) 0 0).1 = (docF cnt l false 0 (.cons x k .nil) 0).2.2 ∧
 ((docF cnt l false 0 (.cons x k .nil) 0).2.2 = none → (visF cnt l false 0 (.cons x k .nil) 0 0).2.1 = (docF cnt l false 0 (.cons x k .nil) 0).1) := by
 have := vis_doc h (.cons x k .nil) false 0 0 0 ho hn;exact ⟨this.1, fun z => (this.2.2 z).1⟩
end rfp
end
section
namespace rfp
open sq
open Go tkp trp setp rtp rpp rsp gpp
def TkC (t : Tk) : Prop := t.kind = 10 → 1 ≤ t.n ∧ t.n ≤ 13 ∧ (t.n = 11 → (t.m = 3 ∧ t.mode = 0) ∨ (t.m = 0 ∧ t.name = ⟨#[]⟩)) ∧ (12 ≤ t.n → t.m = 0 ∧ t.name = ⟨#[]⟩ ∧ t.mode = 0)
def RpN (k n m : Int) (K : Int) : Prop := k = K → 0 ≤ n ∧ n ≤ 255 ∧ (m = -1 ∨ (n ≤ m ∧ m ≤ 255))
def TkQ (t : Tk) : Prop := RpN t.kind t.n t.m 9
def GC (f : Nat) (r : G) : Prop := ∀ t b, r = .ok (some t, b) → t.at_ = f ∧ TkC t ∧ TkQ t
theorem tq0 {t : Tk} (h : t.kind ≠ 9 := by first | decide | (dsimp only; decide) | omega | (dsimp only; omega)) : TkQ t := fun e => absurd e h
theorem gc_err (f : Nat) (e : Int × Int) : GC f (.error e) := fun t b h => by cases h
theorem gc_none (f b : Nat) : GC f (.ok (none, b)) := fun t b h => by cases h
theorem gc_ite {c : Prop} [Decidable c] {f : Nat} {a b : G} (h1 : GC f a) (h2 : GC f b) : GC f (if c then a else b) := by
 split
 ·exact h1
 ·exact h2
theorem gc_tok {t : Tk} (h : TkC t) (f b : Nat) (hq : TkQ t := by exact tq0) : GC f (gtok t f b) := fun t' b' e => by
 unfold gtok at e;cases e;exact ⟨rfl, h, hq⟩
theorem tc0 {t : Tk} (h : t.kind ≠ 10 ∨ (1 ≤ t.n ∧ t.n ≤ 10) := by first | omega | (dsimp only; omega)) : TkC t := fun e => by
 have h := h.resolve_left (fun c => c e);exact ⟨h.1, by omega, fun c => by omega, fun c => by omega⟩
theorem tc3 {t : Tk} (h : t.n = 11 ∧ t.m = 3 ∧ t.mode = 0) : TkC t := fun _ => ⟨by omega, by omega, fun _ => .inl h.2, fun c => by omega⟩
theorem tcn {t : Tk} (h : t.n = 11 ∧ t.m = 0 ∧ t.name = ⟨#[]⟩) : TkC t := fun _ => ⟨by omega, by omega, fun _ => .inr h.2, fun c => by omega⟩
theorem tcd {t : Tk} (h : (t.n = 12 ∨ t.n = 13) ∧ t.m = 0 ∧ t.name = ⟨#[]⟩ ∧ t.mode = 0) : TkC t := fun _ => ⟨by omega, by omega, fun c => by omega, fun _ => h.2⟩
theorem quotes_q (p : Pt) (a : Nat) : (p.quotes a).1 = 11 ∨ (p.quotes a).1 = 12 := by
 unfold Pt.quotes
 repeat' split
 all_goals simp
theorem quan_gc (p : Pt) (i to_ : Nat) {n m : Int} (h : 0 ≤ n ∧ n ≤ 255 ∧ (m = -1 ∨ (n ≤ m ∧ m ≤ 255))) : GC i (quan p i to_ n m) := gc_tok tc0 _ _ fun _ => h
theorem refR_gc (p : Pt) (f i : Nat) : GC f (refR p f i) := by
 have hq := quotes_q p i;unfold refR;simp only
 repeat' (first | exact gc_err _ _ | exact gc_tok tc0 _ _ | refine gc_ite ?_ ?_ | split)
theorem backR_gc (p : Pt) (i to_ : Nat) : ∀ l, GC i (backR p i to_ l)
 | [] => gc_err _ _
 | (o, z) :: l => by
  rw [backR]
  repeat' split
  all_goals first | exact backR_gc p i to_ l | exact gc_tok tc0 _ _
theorem escR_gc (p : Pt) (i : Nat) : GC i (escR p i) := by
 unfold escR;simp only
 repeat' (first | exact gc_err _ _ | exact gc_none _ _ | exact gc_tok tc0 _ _ | exact refR_gc _ _ _ | exact backR_gc _ _ _ _ | refine gc_ite ?_ ?_ | split)
theorem clsR_gc (p : Pt) (f : Nat) : GC f (clsR p f) := by
 unfold clsR;simp only;split
 ·exact gc_err _ _
 ·exact gc_tok tc0 _ _
theorem shutR_gc (p : Pt) {t : Tk} (ht : TkC t) (f i : Nat) (s : List UInt8) (e : Int) (hq : TkQ t := by exact tq0) : GC f (shutR p t f i s e) := by
 unfold shutR
 repeat' split
 all_goals first | exact gc_err _ _ | exact gc_tok ht _ _ hq
theorem callR_gc (p : Pt) {t : Tk} (ht : t.kind ≠ 10 ∨ (1 ≤ t.n ∧ t.n ≤ 10)) (f i : Nat) (s : List UInt8) (hq : TkQ t := by exact tq0) : GC f (callR p t f i s) := by
 unfold callR
 repeat' split
 all_goals first | exact gc_err _ _ | exact gc_tok (t := { t with name := p.sub i (p.name i).1 }) (tc0 ht) _ _ hq
theorem flagR_gc (p : Pt) (f : Nat) : ∀ (k i : Nat) (off : Bool) (on of_ : Int), GC f (flagR p f k i off on of_)
 | 0, _, _, _, _ => gc_err _ _
 | k + 1, i, off, on, of_ => by
  rw [flagR]
  repeat' split
  all_goals first | exact gc_err _ _ | exact flagR_gc p f k _ _ _ _ | exact gc_tok tc0 _ _
theorem condE_gc (p : Pt) (f : Nat) {t : Tk} (ht : TkC t) (to_ : Nat) (ok : Bool) (hq : TkQ t := by exact tq0) : GC f (condE p f t to_ ok) := by
 unfold condE
 repeat' split
 all_goals first | exact gc_err _ _ | exact gc_tok ht _ _ hq
theorem condR_gc (p : Pt) (f i : Nat) : GC f (condR p f i) := by
 unfold condR condN
 repeat' (first | exact gc_err _ _ | exact condE_gc _ _ tc0 _ _ | exact condE_gc _ _ (tc3 ⟨rfl, rfl, rfl⟩) _ _ | exact condE_gc _ _ (tcn ⟨rfl, rfl, rfl⟩) _ _ | exact condE_gc _ _ (tcd ⟨.inl rfl, rfl, rfl, rfl⟩) _ _ | exact gc_tok (tcd ⟨.inr rfl, rfl, rfl, rfl⟩) _ _ | exact gc_tok tc0 _ _ | refine gc_ite ?_ ?_ | split)
theorem verbG_gc (f i : Nat) (word arg : ByteArray) (wth : Bool) : GC f (verbG f i word arg wth) := by
 unfold verbG;split
 ·exact gc_err _ _
 ·exact gc_tok tc0 _ _
theorem verbR_gc (p : Pt) (f : Nat) : GC f (verbR p f) := by
 unfold verbR
 repeat' split
 all_goals first | exact gc_err _ _ | exact verbG_gc _ _ _ _ _
theorem kindR_gc (p : Pt) (f i : Nat) : ∀ (l : List (List UInt8 × Int)) (_ : ∀ q ∈ l, 1 ≤ q.2 ∧ q.2 ≤ 10) (g : G), kindR p f i l = some g → GC f g
 | [], _, g, h => by cases h
 | (s, k) :: l, hl, g, h => by
  rw [kindR] at h;split at h
  ·cases h;have := hl (s, k) (dJ ..);exact gc_tok (tc0 (.inr this)) _ _
  ·exact kindR_gc p f i l (fun q hq => hl q (List.mem_cons_of_mem _ hq)) g h
theorem numR_gc (p : Pt) (f i : Nat) : GC f (numR p f i) := by
 have h1 := shutR_gc p (t := { kind := 12, n := (sgn p i).1, m := (sgn p i).2.1 }) (tc0 (.inl (show (12 : Int) ≠ 10 by decide))) f (sgn p i).2.2.1 [41] 26;unfold numR;simp only;split
 ·exact gc_err _ _
 split
 ·split
  ·exact gc_err _ _
  ·exact gc_err _ _
 split
 ·exact gc_err _ _
 ·rename_i r hr;split
  ·exact gc_err _ _
  ·rw [hr] at h1;exact h1
theorem openK_gc (p : Pt) (f i : Nat) : GC f (openK p f i) := by
 unfold openK
 repeat' (first | exact gc_err _ _ | exact gc_none _ _ | exact condR_gc _ _ _ | exact numR_gc _ _ _ | exact flagR_gc _ _ _ _ _ _ _ | exact shutR_gc _ tc0 _ _ _ _ | exact callR_gc _ (by first | omega | (dsimp only; omega)) _ _ _ | refine gc_ite ?_ ?_ | split)
theorem openR_gc (p : Pt) (f : Nat) : GC f (openR p f) := by
 unfold openR;split
 ·exact verbR_gc _ _
 split
 ·exact gc_tok tc0 _ _
 split
 ·exact gc_err _ _
 split
 ·rename_i g hg;exact kindR_gc p f (f + 2) kindsT (by decide) g hg
 ·exact openK_gc _ _ _
theorem num_q (p : Pt) (a : Nat) (h : ¬ (num p a).2.2 = true) : 0 ≤ (num p a).1 ∧ (num p a).1 ≤ 255 := by have := rtw.dig0 p a;unfold num at h ⊢;simp only [dF] at h;simp only;rw [if_neg h];omega
theorem bracR_q (p : Pt) (i : Nat) {n m : Int} {b : Nat} {g : Bool} (h : bracR p i = some (n, m, b, g)) (hg : ¬ g = true) : 0 ≤ n ∧ n ≤ 255 ∧ -1 ≤ m ∧ m ≤ 255 := by
 unfold bracR at h;simp only at h;split at h
 ·split at h
  ·simp only [dG, dL] at h;obtain ⟨rfl, rfl, _, rfl⟩ := h;simp only [Bool.or_eq_true, not_or] at hg;have h1 := num_q p _ hg.1;have h2 := num_q p _ hg.2;refine ⟨h1.1, h1.2, ?_, ?_⟩
   ·split <;> omega
   ·split <;> omega
  ·cases h
 ·split at h
  ·cases h
  ·simp only [dG, dL] at h;obtain ⟨rfl, rfl, _, rfl⟩ := h;have h1 := num_q p _ hg;exact ⟨h1.1, h1.2, by omega, h1.2⟩
theorem brq_gc (p : Pt) (i : Nat) (c : Int) (to_ : Nat) : GC i (match bracR p i with
 | none => gtok { kind := 1, c := c } i to_
 | some (n, m, b, great) => if great = true then .error (25, (i : Int)) else if 0 ≤ m ∧ m < n then .error (23, (i : Int)) else quan p i (b + 1) n m) := by
 split
 ·exact gc_tok tc0 _ _
 ·rename_i n m b g hb;by_cases hg : g = true
  ·rw [if_pos hg]; exact gc_err _ _
  rw [if_neg hg];by_cases hm : 0 ≤ m ∧ m < n
  ·rw [if_pos hm]; exact gc_err _ _
  rw [if_neg hm];have := bracR_q p i hb hg;exact quan_gc _ _ _ (by omega)
theorem tokR_gc (p : Pt) (i : Nat) : GC i (tokR p i) := by
 unfold tokR;simp only
 repeat' (first | exact gc_err _ _ | exact gc_none _ _ | exact escR_gc _ _ | exact clsR_gc _ _ | exact openR_gc _ _ | exact quan_gc _ _ _ (by omega) | exact gc_tok tc0 _ _ | exact brq_gc _ _ _ _ | refine gc_ite ?_ ?_)
def TkJ (n : Nat) (t : Tk) : Prop := t.at_ < n ∧ TkC t ∧ TkQ t
theorem lexF_at (p : Pt) : ∀ (k : Nat) (q : Bool) (T : List Tk) (i : Nat) (R : List Tk), (∀ t ∈ T, TkJ p.n t) → lexF p k q T i = .ok R → ∀ t ∈ R, TkJ p.n t
 | 0, _, T, i, R, h2, e => by rw [lexF] at e;cases e;exact h2
 | k + 1, q, T, i, R, h2, e => by
  rw [lexF] at e;have snoc : ∀ x : Tk, TkJ p.n x → ∀ t ∈ T ++ [x], TkJ p.n t := fun x hx t ht => by
   rcases List.mem_append.1 ht with ht | ht
   ·exact h2 t ht
   ·simp only [List.mem_cons, dM, or_false] at ht;subst ht;exact hx
  split at e
  ·cases e;exact h2
  rename_i hi;split at e
  ·split at e
   ·exact lexF_at p k _ _ _ _ h2 e
   ·exact lexF_at p k _ _ _ _ (snoc (lay { kind := 1, c := (p.char i).1 } i (p.char i).2) ⟨by show i < p.n; omega, fun c => absurd (show (1 : Int) = 10 from c) (by decide), fun c => absurd (show (1 : Int) = 9 from c) (by decide)⟩) e
  split at e
  ·exact lexF_at p k _ _ _ _ h2 e
  split at e
  ·cases e
  ·exact lexF_at p k _ _ _ _ h2 e
  ·rename_i t to_ ht;obtain ⟨a, b⟩ := tokR_gc p i t to_ ht;exact lexF_at p k _ _ _ _ (snoc _ ⟨by rw [a]; omega, b⟩) e
theorem rlex_at {g : Nat → Int} {n : Nat} {o : Int} {L : List Tk} (h : rlexP g n o = .ok L) : ∀ t ∈ L, TkJ n t := by
 unfold rlexP at h;split at h
 ·cases h
 split at h
 ·cases h
 split at h
 ·cases h
 exact lexF_at _ _ _ _ _ _ (fun t ht => by cases ht) h
def Bq (a : Int) : Prop := -2000000 ≤ a ∧ a ≤ 2000000
def TkI (n : Nat) (t : Tk) : Prop := TkJ n t ∧ Bq t.n ∧ Bq t.mode
theorem tkI_of {g : Nat → Int} {n : Nat} {o : Int} {L : List Tk} (h : rlexP g n o = .ok L) (hb : ∀ t ∈ L, Bq t.n ∧ Bq t.mode) : ∀ t ∈ L, TkI n t := fun t ht => ⟨rlex_at h t ht, hb t ht⟩
def LabI (n : Nat) (x : Lab) : Prop := (x.kind = 7 ∨ x.kind = 8 ∨ x.kind = 19 → 0 ≤ x.at_ ∧ x.at_ < n ∧ Bq x.n ∧ Bq x.mode) ∧
 (x.kind = 19 → 9 ≤ x.n ∧ x.n ≤ 13 ∧ (x.n = 11 → (x.m = 3 ∧ x.mode = 0) ∨ (x.m = 0 ∧ x.name = ⟨#[]⟩)) ∧ (12 ≤ x.n → x.m = 0 ∧ x.name = ⟨#[]⟩ ∧ x.mode = 0)) ∧ RpN x.kind x.n x.m 20
def AllI (n : Nat) : F → Prop
 | .nil => True
 | .cons x k r => LabI n x ∧ AllI n k ∧ AllI n r
theorem allI_app {n : Nat} : ∀ {f g : F}, AllI n f → AllI n g → AllI n (F.app f g)
 | .nil, _, _, h => h
 | .cons _ _ _, _, ⟨a, b, c⟩, h => ⟨a, b, allI_app c h⟩
theorem allI_one {n : Nat} {x : Lab} {k : F} (h : LabI n x) (hk : AllI n k) : AllI n (F.one x k) := ⟨h, hk, trivial⟩
theorem labI_j {n : Nat} (K : Int) {x : Lab} (e : x.kind = K := by rfl) (h : K ≠ 7 ∧ K ≠ 8 ∧ K ≠ 19 ∧ K ≠ 20 := by decide) : LabI n x := by subst e;exact ⟨fun c => by omega, fun c => by omega, fun c => by omega⟩
theorem labI_k {n : Nat} {x : Lab} (h : x.kind ≠ 7 ∧ x.kind ≠ 8 ∧ x.kind ≠ 19 ∧ x.kind ≠ 20) : LabI n x := ⟨fun c => by omega, fun c => by omega, fun c => by omega⟩
theorem allI_oneF {n : Nat} (K : Int) (hK : K ≠ 7 ∧ K ≠ 8 ∧ K ≠ 19 ∧ K ≠ 20) : ∀ {l : F}, AllI n l → AllI n (oneF K l)
 | .nil, h => ⟨labI_k hK, h, trivial⟩
 | .cons _ _ .nil, h => h
 | .cons _ _ (.cons _ _ _), h => ⟨labI_k hK, h, trivial⟩
theorem leafK_q (k : Int) : leafK k ≠ 19 ∧ (leafK k = 7 → k = 11) ∧ (leafK k = 8 → k = 12) := by
 generalize e : leafK k = q;unfold leafK at e
 repeat' split at e
 all_goals omega
theorem leafK_20 (k : Int) : leafK k ≠ 20 := by
 generalize e : leafK k = q;unfold leafK at e
 repeat' split at e
 all_goals omega
theorem kindS_9 {L : List Tk} {s : Ps} (h : kindS L s = 9) : (L.getD s.i zeroT).kind = 9 := by
 unfold kindS at h;split at h
 ·cases h
 ·cases hl : L[s.i]? with
  | none => rw [hl] at h; cases h
  | some t =>
   rw [hl] at h;rw [List.getD, hl];exact h
theorem allI_group {n : Nat} {t : Tk} (ht : t.kind = 10 → TkI n t) (h10 : t.kind = 10) {look l : F} (h : AllI n look) (hl : AllI n l) : AllI n (jf t look l) := by
 have a := allI_oneF 13 (by decide) hl;obtain ⟨⟨b, c, _⟩, d1, d2⟩ := ht h10;obtain ⟨c1, c2, c3, c4⟩ := c h10;unfold jf;split
 ·exact allI_one (labI_j 14) a
 split
 ·exact allI_one (labI_j 15) a
 split
 ·exact allI_one (labI_j 17) a
 split
 ·exact allI_one (labI_j 18) a
 split
 ·exact allI_one (labI_j 16) hl
 ·exact allI_one ⟨fun _ => ⟨by show (0 : Int) ≤ (t.at_ : Int); omega, by show (t.at_ : Int) < (n : Int); omega, d1, d2⟩, fun _ => ⟨by show 9 ≤ t.n; omega, c2, c3, c4⟩, fun c => absurd (show (19 : Int) = 20 from c) (by decide)⟩ (allI_app h hl)
theorem allI_zero (n : Nat) : AllI n zeroF := ⟨labI_j 0, trivial, trivial⟩
def AccI (n : Nat) : Md → Prop
 | .alt acc => AllI n acc
 | .seq acc => AllI n acc
 | .thing => True
theorem run_allI {n : Nat} {L : List Tk} (hL : ∀ i, (L.getD i zeroT).kind = 0 ∨ TkI n (L.getD i zeroT)) : ∀ (f : Nat) (md : Md) (s : Ps), AccI n md → AllI n (run L f md s).1
 | 0, _, _, _ => trivial
 | f + 1, .alt acc, s, h => by
  have a := run_allI hL f (.seq .nil) s trivial;have b : AccI n (.alt (F.app acc (run L f (.seq .nil) s).1)) := allI_app h a;rw [run];simp only;split
  ·exact run_allI hL f _ _ b
  ·exact b
 | f + 1, .seq acc, s, h => by
  have a := run_allI hL f .thing s trivial;rw [run];split
  ·exact allI_oneF 12 (by decide) h
  split
  ·exact allI_zero n
  simp only;split
  ·rename_i hc;refine run_allI hL f _ _ (allI_app h (allI_one ⟨fun c => absurd (show (20 : Int) = 7 ∨ (20 : Int) = 8 ∨ (20 : Int) = 19 from c) (by decide), fun c => absurd (show (20 : Int) = 19 from c) (by decide), fun _ => ?_⟩ a));have h9 := kindS_9 hc.1;exact ((hL _).resolve_left (by omega)).1.2.2 h9
  ·exact run_allI hL f _ _ (allI_app h a)
 | f + 1, .thing, s, _ => by
  rw [run];simp only;have hT := hL s.i;split
  ·obtain ⟨q1, q2, q3⟩ := leafK_q (L.getD s.i zeroT).kind;refine allI_one ⟨fun c => ?_, fun c => absurd (show leafK _ = 19 from c) q1, fun c => absurd (show leafK _ = 20 from c) (leafK_20 _)⟩ trivial;have c : leafK (L.getD s.i zeroT).kind = 7 ∨ leafK (L.getD s.i zeroT).kind = 8 ∨ leafK (L.getD s.i zeroT).kind = 19 := c;rcases hT with hT | hT
   ·omega
   ·have := hT.1.1;exact ⟨by show (0 : Int) ≤ ((L.getD s.i zeroT).at_ : Int); omega, by show ((L.getD s.i zeroT).at_ : Int) < (n : Int); omega, hT.2.1, by show Bq 0; unfold Bq; omega⟩
  rename_i h10;have h10 := Decidable.not_not.1 h10;split
  ·exact allI_zero n
  obtain ⟨q, hq⟩ : ∃ q, (if (L.getD s.i zeroT).n = 13 ∧ kindS L { s with i := s.i + 1, op := s.op + 1 } = 10 then run L f .thing { s with i := s.i + 1, op := s.op + 1 } else (.nil, { s with i := s.i + 1, op := s.op + 1 })) = q := ⟨_, rfl⟩;have hq1 : AllI n q.1 := by
   rw [← hq];split
   ·exact run_allI hL f .thing _ trivial
   ·exact trivial
  rw [hq];split
  ·exact allI_zero n
  ·exact allI_group (fun _ => hT.resolve_left (by omega)) h10 hq1 (run_allI hL f (.alt .nil) _ trivial)
theorem parse_allI {k : Nat} {L : List Tk} {n : Int} (hL : ∀ t ∈ L, TkI k t) {q : F} (h : parseP L n = .ok q) : AllI k q := by
 have hL : ∀ i, (L.getD i zeroT).kind = 0 ∨ TkI k (L.getD i zeroT) := fun i => by
  rw [List.getD];cases c : L[i]? with
  | none => exact .inl rfl
  | some t => exact .inr (hL t (List.mem_of_getElem? c))
 unfold parseP at h;simp only at h;have e : oneF 13 (run L (3 * L.length + 3) (.alt .nil) { i := 0 }).1 = q := by generalize (if (run L (3 * L.length + 3) (.alt .nil) { i := 0 }).2.e = 0 ∧ (run L (3 * L.length + 3) (.alt .nil) { i := 0 }).2.i < L.length then failS (run L (3 * L.length + 3) (.alt .nil) { i := 0 }).2 31 (L.getD (run L (3 * L.length + 3) (.alt .nil) { i := 0 }).2.i zeroT).at_ else (run L (3 * L.length + 3) (.alt .nil) { i := 0 }).2) = z at h;exact z110
 rw [← e];exact allI_oneF 13 (by decide) (run_allI hL _ (.alt .nil) _ trivial)
theorem strip_allI {n : Nat} : ∀ {f : F}, AllI n f → AllI n (strip f)
 | .nil, h => h
 | .cons _ _ _, ⟨a, b, c⟩ => ⟨a, strip_allI b, strip_allI c⟩
theorem listF_allI {n : Nat} {x : Lab} {k : F} (h : LabI n x) (hk : AllI n k) : AllI n (listF x k) := by
 unfold listF;split
 ·exact hk
 ·exact allI_one h hk
theorem flatF_allI {n : Nat} : ∀ {f : F}, AllI n f → AllI n (flatF f)
 | .nil, h => h
 | .cons _ _ _, ⟨a, b, c⟩ => allI_app (listF_allI a b) (flatF_allI c)
theorem firstF_allI {n : Nat} : ∀ {f : F}, AllI n f → AllI n (firstF f)
 | .nil, h => h
 | .cons _ _ _, ⟨a, b, _⟩ => allI_one a b
theorem setL_allI (n : Nat) (a : Int) (l : List Rg) : AllI n (setL a l) := allI_one (labI_j 2) trivial
theorem nodeP_allI {n : Nat} (u : Bool) (m : Int) (rk : Int → F × Int) (hr : ∀ f, AllI n (rk f).1) (x : Lab) (k : F) (f : Int) (hx : LabI n x) (hk : AllI n k) : AllI n (nodeP u m rk x k f).1 := by
 unfold nodeP;split
 ·exact setL_allI _ _ _
 split
 ·exact setL_allI _ _ _
 split
 ·exact setL_allI _ _ _
 split
 ·rename_i h4;exact allI_one (labI_k (show x.kind ≠ 7 ∧ x.kind ≠ 8 ∧ x.kind ≠ 19 ∧ x.kind ≠ 20 by omega)) (strip_allI hk)
 split
 ·exact allI_one (labI_j 17) (allI_one (labI_j 13) (allI_app (allI_one (labI_j 12) (allI_app (setL_allI _ _ _) (setL_allI _ _ _))) (setL_allI _ _ _)))
 split
 ·exact allI_one ⟨hx.1, hx.2⟩ (strip_allI hk)
 split
 ·exact allI_one (labI_j 12) trivial
 split
 ·exact allI_oneF 12 (by decide) (flatF_allI (hr f))
 split
 ·exact allI_one ⟨hx.1, hx.2⟩ (hr f)
 split
 ·exact firstF_allI (hr _)
 ·have : x.kind ≠ 20 → repM f x.kind x.mode = x.mode := fun c => by unfold repM;rw [if_neg (fun q => by omega), if_neg (fun q => by omega)]
  refine allI_one ⟨fun c => ?_, fun c => ?_, hx.2.2⟩ (hr f)
  ·have c : x.kind = 7 ∨ x.kind = 8 ∨ x.kind = 19 := c;show _ ∧ _ ∧ _ ∧ Bq (repM f x.kind x.mode);rw [this (by omega)];exact hx.1 c
  ·have c : x.kind = 19 := c;show 9 ≤ x.n ∧ x.n ≤ 13 ∧ (x.n = 11 → (x.m = 3 ∧ repM f x.kind x.mode = 0) ∨ _) ∧ (_ → _ ∧ _ ∧ repM f x.kind x.mode = 0);rw [this (by omega)];exact hx.2.1 c
theorem rowP_allI {n : Nat} (u : Bool) (m : Int) : ∀ (l : F) (f : Int), AllI n l → AllI n (rowP u m l f).1
 | .nil, _, _ => trivial
 | .cons x k r, f, ⟨a, b, c⟩ => by rw [rowP];exact allI_app (nodeP_allI u m _ (fun g => rowP_allI u m k g b) x k f a b) (rowP_allI u m r _ c)
theorem resP_allI {n : Nat} (t : Nd) (o : Int) (h : AllI n (F.one t.1 t.2)) : AllI n (resP t o) := by unfold resP;exact nodeP_allI _ _ _ (fun g => rowP_allI _ _ t.2 g h.2.1) t.1 t.2 _ h.1 h.2.1
theorem refF_allI {n : Nat} : ∀ (l : F) (rs : Bool) (last most : Int), AllI n l → AllI n (refF rs last l most).1
 | .nil, _, _, _, _ => trivial
 | .cons x k r, rs, last, most, ⟨a, b, c⟩ => by
  rw [refF];refine ⟨?_, refF_allI k _ _ _ b, refF_allI r _ _ _ c⟩;by_cases h : x.kind = 14
  ·rw [if_pos h];exact labI_k (show x.kind ≠ 7 ∧ x.kind ≠ 8 ∧ x.kind ≠ 19 ∧ x.kind ≠ 20 by omega)
  ·rw [if_neg h];exact a
theorem allI_ok {n : Nat} : ∀ {f : F}, AllI n f → LabsOk f
 | .nil, _ => trivial
 | .cons x _ _, ⟨a, b, c⟩ => ⟨fun h e => ((a.2.1 h).2.2.1 e).imp (fun q => ⟨q.1, by rw [q.2]; decide⟩) id, allI_ok b, allI_ok c⟩
theorem cap_in : ∀ (l : F) (rs : Bool) (last most : Int), 0 ≤ last → last ≤ most → ∀ x ∈ capL (refF rs last l most).1, 1 ≤ x.n ∧ x.n ≤ (refF rs last l most).2
 | .nil, _, _, _, _, _, x, hx => by cases hx
 | .cons y k r, rs, last, most, h0, h1, x, hx => by
  rw [refF] at hx ⊢;simp only at hx ⊢;generalize ha : (if rs = true then last else most) = a at *;have ha0 : 0 ≤ a ∧ a ≤ most := by rw [← ha]; split <;> omega
  generalize hb : (if y.kind = 14 then a + 1 else a) = b at *;have hb0 : 0 ≤ b ∧ a ≤ b := by rw [← hb]; split <;> omega
  have g1 := cap_in k (decide (y.kind = 16)) b b hb0.1 (Int.le_refl _);have gl := ref_le k (decide (y.kind = 16)) b b;generalize refF (decide (y.kind = 16)) b k b = q at *;have g2 := cap_in r rs last (if most < q.2 then q.2 else most) h0 (by split <;> omega);have g3 := ref_le r rs last (if most < q.2 then q.2 else most);have g4 : q.2 ≤ (if most < q.2 then q.2 else most) := by split <;> omega
  generalize refF rs last r (if most < q.2 then q.2 else most) = t at *;rw [capL, List.mem_append, List.mem_append] at hx;rcases hx with (hx | hx) | hx
  ·by_cases c : y.kind = 14
   ·rw [if_pos c] at hx hb;rw [if_pos (show ({ y with n := a + 1 } : Lab).kind = 14 from c)] at hx;simp only [List.mem_cons, dM, or_false] at hx;subst hx;show 1 ≤ a + 1 ∧ a + 1 ≤ t.2;omega
   ·rw [if_neg c, if_neg c] at hx;cases hx
  ·have := g1 x hx;omega
  ·exact g2 x hx
theorem nameR_mem : ∀ (c : List Lab) (l : Nm) (s : ByteArray) (k : Int), (s, k) ∈ (nameR l c).2 → (s, k) ∈ l ∨ ∃ x ∈ c, x.n = k
 | [], _, _, _, h => .inl h
 | x :: c, l, s, k, h => by
  have ha : (s, k) ∈ (addR x l).2 → (s, k) ∈ l ∨ x.n = k := fun h => by
   unfold addR at h;split at h
   ·exact .inl h
   split at h
   ·exact .inl h
   split at h
   ·exact .inl h
   split at h
   ·exact .inl h
   ·rw [List.mem_append] at h;rcases h with h | h
    ·exact .inl h
    ·simp only [List.mem_cons, dM, or_false, dL] at h;exact .inr h.2.symm
  rw [nameR] at h;split at h
  ·exact .inl h
  ·rcases nameR_mem c _ s k h with h | ⟨y, hy, e⟩
   ·rcases ha h with h | h
    ·exact .inl h
    ·exact .inr ⟨x, dJ .., h⟩
   ·exact .inr ⟨y, List.mem_cons_of_mem _ hy, e⟩
theorem nm_okT (t : F) : NmOk (refF false 0 t 0).2 (nameR [] (capL (refF false 0 t 0).1)).2 := by
 refine ⟨ref_le _ _ _ _, fun s => ?_⟩;unfold nameN;cases h : List.find? (fun q => decide (q.1 = s)) (nameR [] (capL (refF false 0 t 0).1)).2 with
 | none => exact .inl rfl
 | some q =>
  obtain ⟨a, b⟩ := q;rcases nameR_mem _ _ _ _ (List.mem_of_find?_eq_some h) with c | ⟨y, hy, e⟩
  ·cases c
  ·have := cap_in _ false 0 0 (Int.le_refl _) (Int.le_refl _) y hy;rw [e] at this;exact .inr this
theorem nm_ok (x : Lab) (k : F) : NmOk (refF false 0 (.cons x k .nil) 0).2 (nameR [] (capL (refF false 0 (.cons x k .nil) 0).1)).2 := nm_okT _
end rfp
end
section
namespace rfw
open sq
open Go.Sort Go Go.RowKit Go.Maps setp setw tkp trp trw rpp gpp rfp sq
open gqw (NmI9 nm_blw9 name_n9)
theorem nameN_cons (q : ByteArray × Int) (l : Nm) (s : ByteArray) : nameN (q :: l) s = if q.1 = s then q.2 else nameN l s := by
 unfold nameN;rw [List.find?_cons];by_cases h : q.1 = s
 ·rw [if_pos h];simp [h]
 ·rw [if_neg h];simp [h]
end rfw
end
section
namespace rfw
open sq
open Go.Sort Go Go.RowKit Go.Maps setp setw tkp trp trw rpp gpp rfp sq
open rpw (fC jP jQ)
open gqw (NmI9)
open gpw (Chg)
def visN (cnt : Int) (l : Nm) (x : Lab) (k : F) (cur : Int) : Option Int × (Lab × F) × Int :=
 let s := stepP cnt l x cur
 if s.1 = false then (some x.at_, (s.2.1, k), s.2.2) else
 let q := visF cnt l (decide (x.kind = 16)) s.2.2 k s.2.2 s.2.2
 if q.1 ≠ none then (q.1, (s.2.1, q.2.1), q.2.2.2) else (none, (s.2.1, q.2.1), if x.kind = 16 then q.2.2.1 else q.2.2.2)
theorem visF_cons (cnt : Int) (l : Nm) (rs : Bool) (bef : Int) (x : Lab) (k r : F) (lg cur : Int) : visF cnt l rs bef (.cons x k r) lg cur =
 (if (visN cnt l x k cur).1 ≠ none then ((visN cnt l x k cur).1, .cons (visN cnt l x k cur).2.1.1 (visN cnt l x k cur).2.1.2 r, lg, (visN cnt l x k cur).2.2) else
  let t := visF cnt l rs bef r (if rs = true then max lg (visN cnt l x k cur).2.2 else lg) (if rs = true then bef else (visN cnt l x k cur).2.2)
  (t.1, .cons (visN cnt l x k cur).2.1.1 (visN cnt l x k cur).2.1.2 t.2.1, t.2.2.1, t.2.2.2)) := by
 rw [visF];unfold visN;simp only;generalize stepP cnt l x cur = s;by_cases h : s.1 = false
 ·rw [if_pos h, if_pos h, if_pos (by simp)]
 ·rw [if_neg h, if_neg h];generalize visF cnt l (decide (x.kind = 16)) s.2.2 k s.2.2 s.2.2 = q;by_cases h2 : q.1 ≠ none
  ·rw [if_pos h2, if_pos h2, if_pos h2]
  ·rw [if_neg h2, if_neg h2];simp only [ne_eq, not_true, if_false]
def LV (x : Lab) : Prop := (x.kind = 14 → 0 ≤ x.n ∧ x.n ≤ 1000000) ∧ (x.kind = 7 ∨ x.kind = 8 ∨ x.kind = 19 → Bq x.n ∧ Bq x.mode)
def AllV : F → Prop
 | .nil => True
 | .cons x k r => LV x ∧ AllV k ∧ AllV r
def Cb (c : Int) : Prop := 0 ≤ c ∧ c ≤ 1000000
end rfw
end
section
namespace rfw
open sq
open Go.Sort Go Go.RowKit Go.Maps setp setw tkp trp trw rpp rsp gpp rfp sq
open rpw (fC qp qh ql)
open gqw (NmI9 nm_blw9)
open gpw (Chg CpOk)
theorem allV_strip : ∀ {f : F}, AllV (strip f) ↔ AllV f
 | .nil => Iff.rfl
 | .cons x k r => by rw [strip];unfold AllV;rw [allV_strip (f := k), allV_strip (f := r)];exact Iff.rfl
theorem results_rs {fn : Func} {p q r : Tmp} (h : fn.results = #[.cell p 27, .tmp q, .tmp r]) (tmps : Array Value) (w : World) (g : Nat) (l : Lab) (hp : tmps.getD p undef = .pointer (some ⟨g, 0, none⟩)) (hg : w.heap[g]? = some (.cells (ndC l).toArray 27 (0, 0))) :
 (results fn tmps).run Try.prog w = .ok (.tuple #[ndV l, tmps.getD q undef, tmps.getD r undef]) w := by
 have hp' : tmps[p]?.getD undef = .pointer (some ⟨g, 0, none⟩) := by simpa using hp
 exact z133
end rfw
end
section
namespace rfl10
open sq
open Go Go.RowKit Go.Maps utfw tkp trp trw rpp rsp rtp setw gpp rsw
open rtw (TkB Bd LexB rlex_any str_size Pat lexF_ok)
open rpw (sees jB TkIn LOk ParB rparse_any qh ql qp jm qI)
open tkw (sg)
open gqw (rnumber_any refN refN_hi refF_cons NmI9 nm_i9 capL_len)
theorem refN_eq (y : Lab) (j : F) : refN y j 0 = refF false 0 (strip (F.one y j)) 0 := by
 have hc := refF_cons false 0 y j .nil 0;have h0 := (refN_hi y j 0).1;rw [show strip (F.one y j) = strip (.cons y j .nil) from rfl, hc];refine Prod.ext ?_ ?_
 ·show _ = F.app (refN y j 0).1 .nil;exact (app_nil _).symm
 ·show (refN y j 0).2 = if (0 : Int) < (refN y j 0).2 then (refN y j 0).2 else 0
  split <;> omega
theorem refF_size10 : ∀ (f : F) (rs : Bool) (a b : Int), (refF rs a f b).1.size = f.size
 | .nil, _, _, _ => rfl
 | .cons x k r, rs, a, b => by rw [refF]; simp only [F.size]; rw [refF_size10 k, refF_size10 r]
theorem nameR_len10 : ∀ (c : List Lab) (l : Nm), (nameR l c).2.length ≤ l.length + c.length
 | [], l => by simp [nameR]
 | x :: c, l => by
  have ha : (addR x l).2.length ≤ l.length + 1 := by
   unfold addR
   repeat' split
   all_goals simp
  rw [nameR];split
  ·simp
  ·have := nameR_len10 c (addR x l).2;simp only [dB];omega
theorem nm_len10 {t : F} (h : t.size ≤ 100000) : (nameR [] (capL (refF false 0 t 0).1)).2.length ≤ 2000000 := by have h1 := nameR_len10 (capL (refF false 0 t 0).1) [];have h2 := capL_len (refF false 0 t 0).1;rw [refF_size10] at h2;simp only [dA] at h1;omega
end rfl10
end
section
namespace rfl10
open sq
open Go Go.RowKit Go.Maps utfw tkp trp trw rpp rsp rtp setw gpp rfp rfw
open rsw (flatP)
open tkw (sg vJ jM)
open rpw (qp qh ql)
open gpw (CpOk)
open gqw (NmI9 wpList_store_ny)
theorem flat_allI {n : Nat} {g : Nat → Int} {o : Int} {t : F} (h : flatP (sg (strOf n g)) n o = some t) : AllI n t := by
 unfold flatP at h;split at h
 ·cases h
 ·rename_i T hT;split at h
  ·cases h
  ·rename_i f hf;have hb := rsw.rlex_ok hT;have hI := parse_allI (tkI_of hT fun t ht => ⟨(hb.1 t ht).1.n, (hb.1 t ht).1.mode⟩) hf;split at h
   ·cases h
   ·cases h;exact resP_allI _ _ ⟨hI.1, hI.2.1, trivial⟩
theorem ref_nmS : ∀ (l : F) (rs : Bool) (a b : Int), NmS l → NmS (refF rs a l b).1
 | .nil, _, _, _, _ => trivial
 | .cons x k r, rs, a, b, ⟨h1, h2, h3⟩ => by
  rw [refF];refine ⟨?_, ref_nmS k _ _ _ h2, ref_nmS r _ _ _ h3⟩;split
  ·exact h1
  ·exact h1
theorem ref_allV {n : Nat} : ∀ (l : F) (rs : Bool) (a b : Int), AllI n l → 0 ≤ a → a ≤ b → b + l.size ≤ 1000000 → AllV (refF rs a l b).1
 | .nil, _, _, _, _, _, _, _ => trivial
 | .cons x k r, rs, a, b, ⟨h1, h2, h3⟩, h4, h5, h6 => by
  rw [F.size] at h6;rw [refF];simp only;generalize ha : (if rs = true then a else b) = c;have hc : 0 ≤ c ∧ c ≤ b := by rw [← ha]; split <;> omega
  generalize hd0 : (if x.kind = 14 then c + 1 else c) = d;have hd : c ≤ d ∧ d ≤ c + 1 := by rw [← hd0]; split <;> omega
  have hq := gqw.ref_hi k (decide (x.kind = 16)) d d (Int.le_refl _);have g1 := ref_allV k (decide (x.kind = 16)) d d h2 (by omega) (Int.le_refl _) (by omega);generalize refF (decide (x.kind = 16)) d k d = q at *;refine ⟨⟨fun e => ?_, fun e => ?_⟩, g1, ref_allV r _ _ _ h3 h4 (by split <;> omega) (by split <;> omega)⟩
  ·by_cases h : x.kind = 14
   ·rw [if_pos h] at e ⊢;show 0 ≤ c + 1 ∧ c + 1 ≤ 1000000;omega
   ·rw [if_neg h] at e;exact absurd e h
  ·by_cases h : x.kind = 14
   ·rw [if_pos h] at e;have e : x.kind = 7 ∨ x.kind = 8 ∨ x.kind = 19 := e;omega
   ·rw [if_neg h] at e ⊢;exact (h1.1 e).2.2
structure NT (n : Nat) (t : F) : Prop where
 i : AllI n (refF false 0 t 0).1
 v : AllV (refF false 0 t 0).1
 c : CpOk (refF false 0 t 0).1
 z : (refF false 0 t 0).1.size ≤ 100000
 k : 0 ≤ (refF false 0 t 0).2 ∧ (refF false 0 t 0).2 ≤ 1000000
theorem nt_of {n : Nat} {g : Nat → Int} {o : Int} {t : F} (h : flatP (sg (strOf n g)) n o = some t) : NT n t := by
 obtain ⟨h1, h2⟩ := gpw.flat_ok h;have hI := flat_allI h;have hz : (refF false 0 t 0).1.size ≤ 100000 := by rw [refF_size10]; exact h2
 have hh := gqw.ref_hi t false 0 0 (Int.le_refl _);have hl := ref_le t false 0 0;exact ⟨refF_allI _ _ _ _ hI, ref_allV t false 0 0 hI (Int.le_refl _) (Int.le_refl _) (by omega), gpw.cpOk_of (n := 0) (ref_nmS _ _ _ _ h1) hz, hz, hl, by omega⟩
end rfl10
end
section
namespace rfl10
open sq
open Go Go.RowKit Go.Maps utfw tkp trp trw rpp rsp rtp setw gpp rfp rfw
open rpw (qp ql)
open gqw (wpList_store_ny NmI9 nm_blw9)
open rsw (flatP)
open tkw (sg)
theorem visF_one (cnt : Int) (l : Nm) (x : Lab) (k : F) (cur : Int) : (visF cnt l false cur (.cons x k .nil) cur cur).1 = (visN cnt l x k cur).1 ∧ (visF cnt l false cur (.cons x k .nil) cur cur).2.1 = F.one (visN cnt l x k cur).2.1.1 (visN cnt l x k cur).2.1.2 := by
 rw [visF_cons];by_cases h : (visN cnt l x k cur).1 ≠ none
 ·rw [if_pos h];exact ⟨rfl, rfl⟩
 ·rw [if_neg h];exact ⟨(Decidable.not_not.1 h).symm, rfl⟩
end rfl10
end
section
namespace gqw
open sq
open Go.Sort Go Go.RowKit Go.Maps setp setw tkp trp trw rpp rsp gpp sq
open rpw (sees jB qp ql)
open gpw (flat_ok nmC)
open utfw (Sl at_ strOf)
open tkw (sg)
open rsw (flatP)
theorem nd129 {w : World} {b : Nat} {x : Lab} (h : w.heap[b]? = some (.cells (ndC x).toArray 27 (0, 0))) : w.cell? ⟨b, 0, none⟩ = some (.int .i64 x.kind) ∧ w.cell? ⟨b, 1, none⟩ = some (.int .i64 x.at_) ∧ w.cell? ⟨b, 2, none⟩ = some (.int .i64 x.c) ∧ w.cell? ⟨b, 3, none⟩ = some x.sv ∧ w.cell? ⟨b, 4, none⟩ = some (.bool x.neg) ∧ w.cell? ⟨b, 5, none⟩ = some (.int .i64 x.n) ∧ w.cell? ⟨b, 6, none⟩ = some (.int .i64 x.m) ∧ w.cell? ⟨b, 7, none⟩ = some (.int .i64 x.mode) ∧ w.cell? ⟨b, 8, none⟩ = some (.string x.name) ∧ w.cell? ⟨b, 9, none⟩ = some (.int .i64 x.on) ∧ w.cell? ⟨b, 10, none⟩ = some (.int .i64 x.off) ∧ w.cell? ⟨b, 11, none⟩ = some x.kv := by unfold World.cell?;rw [h];exact ⟨rfl, rfl, rfl, rfl, rfl, rfl, rfl, rfl, rfl, rfl, rfl, rfl⟩
end gqw
end
end Go.Proofs.Ytdgfclbajjjcgaa
