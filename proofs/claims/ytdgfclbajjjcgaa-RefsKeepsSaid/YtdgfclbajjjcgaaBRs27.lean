/- T -/
import Derived.Test.YtdgfclbajjjcgaaBRs26
set_option maxHeartbeats 16000000
set_option maxRecDepth 1000000
namespace Go.Proofs.Ytdgfclbajjjcgaa
section
namespace rfw
open sq
open Go.Sort Go Go.RowKit Go.Maps setp setw tkp trp trw rpp gpp rfp sq
open rpw (fC jP jQ)
open gqw (NmI9)
open gpw (Chg Sub NdI sub_cons sub_le ndI_le ndI_keep ndI_hi sub_keep sub_hi sub_app sub_one set_keep app_one app_as app_nl len1)
def visN (cnt : Int) (l : Nm) (x : Lab) (k : F) (cur : Int) : Option Int × (Lab × F) × Int :=
 let s := stepP cnt l x cur
 if s.1 = false then (some x.at_, (s.2.1, k), s.2.2) else
 let q := visF cnt l (decide (x.kind = 16)) s.2.2 k s.2.2 s.2.2
 if q.1 ≠ none then (q.1, (s.2.1, q.2.1), q.2.2.2) else (none, (s.2.1, q.2.1), if x.kind = 16 then q.2.2.1 else q.2.2.2)
theorem visF_cons (cnt : Int) (l : Nm) (rs : Bool) (bef : Int) (x : Lab) (k r : F) (lg cur : Int) : visF cnt l rs bef (.cons x k r) lg cur =
 (if (visN cnt l x k cur).1 ≠ none then ((visN cnt l x k cur).1, .cons (visN cnt l x k cur).2.1.1 (visN cnt l x k cur).2.1.2 r, lg, (visN cnt l x k cur).2.2) else
  let t := visF cnt l rs bef r (if rs = true then max lg (visN cnt l x k cur).2.2 else lg) (if rs = true then bef else (visN cnt l x k cur).2.2)
  (t.1, .cons (visN cnt l x k cur).2.1.1 (visN cnt l x k cur).2.1.2 t.2.1, t.2.2.1, t.2.2.2)) := by
 rw [visF];unfold visN;simp only;generalize stepP cnt l x cur = s;by_cases h : s.1 = false
 ·rw [if_pos h, if_pos h, if_pos (by simp)]
 ·rw [if_neg h, if_neg h];generalize visF cnt l (decide (x.kind = 16)) s.2.2 k s.2.2 s.2.2 = q;by_cases h2 : q.1 ≠ none
  ·rw [if_pos h2, if_pos h2, if_pos h2]
  ·rw [if_neg h2, if_neg h2];simp only [ne_eq, not_true, if_false]
def LV (x : Lab) : Prop := (x.kind = 14 → 0 ≤ x.n ∧ x.n ≤ 1000000) ∧ (x.kind = 7 ∨ x.kind = 8 ∨ x.kind = 19 → Bq x.n ∧ Bq x.mode)
def AllV : F → Prop
 | .nil => True
 | .cons x k r => LV x ∧ AllV k ∧ AllV r
def Cb (c : Int) : Prop := 0 ≤ c ∧ c ≤ 1000000
theorem step_bd {cnt : Int} {l : Nm} {x : Lab} (h : LV x) {cur : Int} (hc : Cb cur) : Cb (stepP cnt l x cur).2.2 := by
 unfold stepP;by_cases k14 : x.kind = 14
 ·rw [if_pos k14];exact h.1 k14
 rw [if_neg k14]
 repeat' split
 all_goals exact hc
theorem vis_bd {cnt : Int} {l : Nm} : ∀ (f : F) (rs : Bool) (bef lg cur : Int), AllV f → Cb bef → Cb lg → Cb cur → Cb (visF cnt l rs bef f lg cur).2.2.1 ∧ Cb (visF cnt l rs bef f lg cur).2.2.2
 | .nil, _, _, _, _, _, _, h2, h3 => ⟨h2, h3⟩
 | .cons x k r, rs, bef, lg, cur, ⟨a, b, c⟩, h1, h2, h3 => by
  have s1 := step_bd (cnt := cnt) (l := l) a h3;have q1 := vis_bd (cnt := cnt) (l := l) k (decide (x.kind = 16)) _ _ _ b s1 s1 s1;rw [visF];simp only;split
  ·exact ⟨h2, s1⟩
  split
  ·exact ⟨h2, q1.2⟩
  ·have hcc : Cb (if x.kind = 16 then (visF cnt l (decide (x.kind = 16)) (stepP cnt l x cur).2.2 k (stepP cnt l x cur).2.2 (stepP cnt l x cur).2.2).2.2.1 else (visF cnt l (decide (x.kind = 16)) (stepP cnt l x cur).2.2 k (stepP cnt l x cur).2.2 (stepP cnt l x cur).2.2).2.2.2) := by
    split
    ·exact q1.1
    ·exact q1.2
   refine vis_bd (cnt := cnt) (l := l) r rs bef _ _ c h1 ?_ ?_
   ·split
    ·unfold Cb at *; omega
    ·exact h2
   ·split
    ·exact h1
    ·exact hcc
theorem visN_bd {cnt : Int} {l : Nm} {x : Lab} {k : F} {cur : Int} (a : LV x) (b : AllV k) (h : Cb cur) : Cb (visN cnt l x k cur).2.2 := by
 have s1 := step_bd (cnt := cnt) (l := l) a h;have q1 := vis_bd (cnt := cnt) (l := l) k (decide (x.kind = 16)) _ _ _ b s1 s1 s1;unfold visN;simp only;split
 ·exact s1
 split
 ·exact q1.2
 split
 ·exact q1.1
 ·exact q1.2
theorem step_lab {cnt : Int} {l : Nm} {x : Lab} {cur : Int} (hcn : cnt ≤ 1000000) (hx : trw.LabOk x) (h : (stepP cnt l x cur).1 = true) : trw.LabOk (stepP cnt l x cur).2.1 := by
 obtain ⟨a1, a2, a3, a4, a5, a6, a7, a8⟩ := hx;have z : I64 0 := by unfold I64; omega
 have z9 : I64 9 := by unfold I64; omega
 have tb : ∀ {k least : Int}, (least = 0 ∨ least = 1) → inn cnt k least = true → I64 k := fun hl hi => by have := inn_iff.1 hi;unfold I64;omega
 unfold stepP at h ⊢;by_cases c14 : x.kind = 14
 ·rw [if_pos c14];exact ⟨a1, a2, a3, a4, a5, a6, a7, a8⟩
 rw [if_neg c14] at h ⊢;by_cases c19 : x.kind = 19
 ·rw [if_pos c19] at h ⊢;by_cases n10 : x.n = 10
  ·rw [if_pos n10] at h ⊢;exact ⟨a1, a2, a3, z9, z, tb (.inr rfl) h, a7, a8⟩
  rw [if_neg n10] at h ⊢;by_cases n9 : x.n = 9
  ·rw [if_pos n9] at h ⊢;exact ⟨a1, a2, a3, a4, z, tb (.inr rfl) h, a7, a8⟩
  rw [if_neg n9] at h ⊢;by_cases n11 : x.n = 11
  ·rw [if_pos n11] at h ⊢;by_cases m3 : x.m = 3
   ·rw [if_pos m3] at h ⊢;exact ⟨a1, a2, a3, a4, z, tb (.inr rfl) h, a7, a8⟩
   ·rw [if_neg m3];exact ⟨a1, a2, a3, a4, a5, a6, a7, a8⟩
  ·rw [if_neg n11];exact ⟨a1, a2, a3, a4, a5, a6, a7, a8⟩
 rw [if_neg c19] at h ⊢;by_cases c7 : x.kind = 7 ∨ x.kind = 8
 ·rw [if_pos c7] at h ⊢;exact ⟨a1, a2, a3, tb (by split <;> simp) h, z, a6, a7, a8⟩
 ·rw [if_neg c7];exact ⟨a1, a2, a3, a4, a5, a6, a7, a8⟩
def VisB (w0 : World) (H G b o lo hi : Nat) (cnt : Int) (v : Value) (A Z : List Value) (N : Option Int × (Lab × F) × Int) (w : World) (e : Ending) (w' : World) : Prop :=
 Chg H b lo hi w w' ∧ match N.1 with
  | some p => e = .returned (.tuple #[.int .i64 34, .int .i64 p])
  | none => e = .returned (.tuple #[.int .i64 0, .int .i64 0]) ∧ At w' b o A Z N.2.1.1 ∧ RS w0 G cnt v N.2.2 w' ∧ NdI w' N.2.1.1 N.2.1.2 lo hi
structure VsR (w0 : World) (H G b o hi B : Nat) (cnt : Int) (v : Value) (l : Nm) (A Z : List Value) (y : Lab) (k : F) (rs : Bool) (bef : Int) (w wr : World) (g r : F) (lg cur : Int) (m : Nat) : Prop where
 row : wr.heap[B]? = some (.cells (fC (F.app g r)).toArray 27 (0, 0))
 sg : Sub wr g (B + 1) m
 sr : Sub wr r m hi
 st : RS w0 G cnt v cur wr
 ch : Chg H b B hi w wr
 nb : At wr b o A Z y
 len : g.len + r.len = k.len
 eq : visF cnt l rs bef k bef bef = ((visF cnt l rs bef r lg cur).1, F.app g (visF cnt l rs bef r lg cur).2.1, (visF cnt l rs bef r lg cur).2.2)
 c1 : Cb lg
 c2 : Cb cur
 av : AllV r
 sz : r.size ≤ k.size
 H2 : H ≤ wr.heap.size
theorem fC_cut (g : F) (x : Lab) (k r : F) : fC (F.app g (.cons x k r)) = fC g ++ ndC x ++ fC r := by rw [jQ, fC, List.append_assoc]
theorem VsR.next {w0 : World} {H G b o hi B : Nat} {cnt : Int} {v : Value} {l : Nm} {A Z : List Value} {x : Lab} {k : F} {rs : Bool} {bef : Int} {w wr w4 w5 : World} {g r : F} {lg cur : Int} {m m1 : Nat} {y : Lab} {kk : F} (R : VsR w0 H G b o hi B cnt v l A Z x k rs bef w wr g (.cons y kk r) lg cur m)
 (hbl : b < B ∨ hi ≤ b) (hbH : b < H) (hH : hi ≤ H) (h0 : Cb bef) (hm : m1 ≤ hi) (hs : Sub wr r m1 hi) (he : (visN cnt l y kk cur).1 = none)
 (hc : Chg H B m m1 wr w4) (hr : At w4 B (g.len * 12) (fC g) (fC r) (visN cnt l y kk cur).2.1.1) (hn : NdI w4 (visN cnt l y kk cur).2.1.1 (visN cnt l y kk cur).2.1.2 m m1)
 (h5 : ∀ j, j < H → w5.heap[j]? = w4.heap[j]?) (h5c : Chg H b B hi w4 w5) (ht : RS w0 G cnt v (if rs = true then bef else (visN cnt l y kk cur).2.2) w5) :
 VsR w0 H G b o hi B cnt v l A Z x k rs bef w w5 (F.app g (F.one (visN cnt l y kk cur).2.1.1 (visN cnt l y kk cur).2.1.2)) r (if rs = true then max lg (visN cnt l y kk cur).2.2 else lg) (if rs = true then bef else (visN cnt l y kk cur).2.2) m1 := by
 have hbB : B + 1 ≤ m := sub_le R.sg;have hmm := ndI_le hn;have hmh := sub_le hs;have hE := R.eq;rw [visF_cons, if_neg (by rw [he]; simp)] at hE;simp only at hE;have hcs : Chg H b B hi wr w4 := ⟨hc.os, hc.tape, hc.output, hc.size, fun j k1 k2 k3 => hc.block j k1 (by omega) (by omega)⟩;have hsz := R.sz;have hln := R.len;have hvb := visN_bd (cnt := cnt) (l := l) R.av.1 R.av.2.1 R.c2;have hc1 := R.c1;simp only [F.size, F.len] at hsz hln;generalize hq : visN cnt l y kk cur = q at *;refine ⟨?_, sub_app (sub_keep (a := B + 1) (b := m) (fun j k1 k2 => (h5 j (by omega)).trans (hc.block j (by omega) (by omega) (Or.inl k2))) R.sg (xL _) (xL _)) (sub_one (ndI_keep hn fun j k1 k2 => h5 j (by omega))),
  sub_keep (a := m1) (b := hi) (fun j k1 k2 => (h5 j (by omega)).trans (hc.block j (by omega) (by omega) (Or.inr k1))) hs (xL _) (xL _), ht, (R.ch.trans hcs).trans h5c,
  R.nb.keep ((h5 b hbH).trans (hc.block b hbH (by omega) (by omega))), by rw [len1]; omega, ?_, ?_, ?_, R.av.2.2, by omega, Nat.le_trans R.H2 (Nat.le_trans hc.size h5c.size)⟩
 ·rw [h5 B (by omega), hr.1, app_one, fC_cut]
 ·rw [hE, app_as];rfl
 ·split
  ·unfold Cb at *; omega
  ·exact hc1
 ·split
  ·exact h0
  ·exact hvb
theorem visit_all {w0 : World} {G H : Nat} {cnt : Int} {v : Value} {l : Nm} (hn0 : NmI9 w0 v l) (hG : H ≤ G) (hcn : cnt ≤ 1000000) : ∀ (z : Nat) (w : World) (b o lo hi : Nat) (A Z : List Value) (x : Lab) (k : F) (cur : Int) (hz : k.size < z) (hA : At w b o A Z x) (hbl : b < lo ∨ hi ≤ b) (hbH : b < H) (h0 : w0.heap.size ≤ b) (h0l : w0.heap.size ≤ lo) (hhi : hi ≤ H) (hn : NdI w x k lo hi) (R : RS w0 G cnt v cur w) (hH : H ≤ w.heap.size) (hc : Cb cur) (hv : AllV (F.one x k)),
 Calls Try.prog 40 #[.pointer (some ⟨G, 0, none⟩), .pointer (some ⟨b, o, none⟩)] w (VisB w0 H G b o lo hi cnt v A Z (visN cnt l x k cur) w) := by
 intro z;refine Nat.rec ?_ (fun z ih => ?_) z
 ·intro w b o lo hi A Z x k cur hz;exact absurd hz (Nat.not_lt_zero _)
 intro w b o lo hi A Z x k cur hz hA hbl hbH h0 h0l hhi hn R hH hc hv;have IH := xH (@ih);clear ih;obtain ⟨hlab, a, B, hla, haB, hset, hkl, hkv, hrow, hsub⟩ := id hn;have hlo := ndI_le hn;have hBh := sub_le hsub;have HNO := xH (node_any R hn0 hA hbH hG h0 hH hc hv.1.2);have HSB := xH (step_bd (cnt := cnt) (l := l) hv.1 hc);have HLAB := xH hlab;have HSET := xH hset;have HKV := xH hkv;have HROW := xH hrow;have HSUB := xH hsub;have HV := xH hv.2.1;have HZ := xH hz;have HH := xH hH;have HK0 := xH (show (stepP cnt l x cur).2.1.kind = x.kind ∧ (stepP cnt l x cur).2.1.kv = x.kv ∧ (stepP cnt l x cur).2.1.sv = x.sv ∧ (stepP cnt l x cur).2.1.set = x.set ∧ (stepP cnt l x cur).2.1.at_ = x.at_ from by
  unfold stepP
  repeat' split
  all_goals exact ⟨rfl, rfl, rfl, rfl, rfl⟩)
 have HN := xH (show visN cnt l x k cur = if (stepP cnt l x cur).1 = false then (some x.at_, ((stepP cnt l x cur).2.1, k), (stepP cnt l x cur).2.2) else
  if (visF cnt l (decide (x.kind = 16)) (stepP cnt l x cur).2.2 k (stepP cnt l x cur).2.2 (stepP cnt l x cur).2.2).1 ≠ none then ((visF cnt l (decide (x.kind = 16)) (stepP cnt l x cur).2.2 k (stepP cnt l x cur).2.2 (stepP cnt l x cur).2.2).1, ((stepP cnt l x cur).2.1, (visF cnt l (decide (x.kind = 16)) (stepP cnt l x cur).2.2 k (stepP cnt l x cur).2.2 (stepP cnt l x cur).2.2).2.1), (visF cnt l (decide (x.kind = 16)) (stepP cnt l x cur).2.2 k (stepP cnt l x cur).2.2 (stepP cnt l x cur).2.2).2.2.2) else (none, ((stepP cnt l x cur).2.1, (visF cnt l (decide (x.kind = 16)) (stepP cnt l x cur).2.2 k (stepP cnt l x cur).2.2 (stepP cnt l x cur).2.2).2.1), if x.kind = 16 then (visF cnt l (decide (x.kind = 16)) (stepP cnt l x cur).2.2 k (stepP cnt l x cur).2.2 (stepP cnt l x cur).2.2).2.2.1 else (visF cnt l (decide (x.kind = 16)) (stepP cnt l x cur).2.2 k (stepP cnt l x cur).2.2 (stepP cnt l x cur).2.2).2.2.2) from rfl)
 have HYL := xH (fun h => step_lab (cnt := cnt) (l := l) (cur := cur) hcn hlab h);clear R hA hn hz hv hH hlab hset hkv hrow hsub hc;generalize visN cnt l x k cur = N at *;generalize stepP cnt l x cur = S at *;obtain ⟨S1, y, cu⟩ := S;simp only at HNO HSB HK0 HN HYL;go_enter Try.func40, Try.ntmps40;have hbG : b ≠ G := by omega
 go_wp2_with fail
 refine HNO.out.mono ?_;rintro e w1 ⟨rfl, ha1, hr1, ht1⟩;have HA1 := xH ha1;have HR1 := xH hr1;have HT1 := xH ht1;clear ha1 hr1 ht1 HNO;cases S1 with
 | false =>
  have HE := xH (show N.1 = some x.at_ from by rw [HN.out, if_pos rfl]);have c1 : w1.cell? ⟨b, o + 1, none⟩ = some (.int .i64 x.at_) := HK0.out.2.2.2.2 ▸ HA1.out.cell (j := 1) rfl;clear HN HYL;go_wp2_with fail
  go_quiet (fail)
  rename_i nq;go_wp2_with fail
  go_ret2
  refine ⟨(HT1.out.wide (Or.inl rfl) (Or.inr (xL _)) (Or.inr (xL _))).trans (Chg.of_low (tkw.zI (Below.refl _ _) nq)), ?_⟩;rw [HE.out];rfl
 | true =>
  obtain ⟨rs, hrs⟩ : ∃ rs : Bool, decide (x.kind = 16) = rs := ⟨_, rfl⟩;obtain ⟨q, hq⟩ : ∃ q, visF cnt l rs cu k cu cu = q := ⟨_, rfl⟩;have HN2 := xH (show N = if q.1 ≠ none then (q.1, (y, q.2.1), q.2.2.2) else (none, (y, q.2.1), if rs = true then q.2.2.1 else q.2.2.2) from by
   rw [HN.out, if_neg (by decide), hrs, hq]
   congr 2
   rw [← hrs];by_cases h : x.kind = 16
   ·simp [h]
   ·simp [h])
  have HQ := xH hq;have b16 : (y.kind == 16) = rs := by rw [HK0.out.1, ← hrs]; rfl
  have HYL2 := xH (HYL.out rfl);obtain ⟨_, _, g2, _⟩ := HR1.out.c;clear HN HYL hq hrs;go_wp2_with fail
  go_quiet (fail)
  rename_i nq;have HDN := xH (tkw.zI (Below.refl w1.heap.size w1) nq);have HA2 := xH (HA1.out.keep (HDN.out.block b HA1.out.lt));have HR2 := xH (HR1.out.keep HDN.out);have HC2 := xH (show Chg H b B hi w (w1.drewN nq) from (HT1.out.wide (Or.inl rfl) (Or.inr (xL _)) (Or.inr (xL _))).trans (Chg.of_low (tkw.zI (Below.refl _ _) nq)));have HKP := xH (show ∀ j, j < H → j ≠ b → (w1.drewN nq).heap[j]? = w.heap[j]? from fun j h1 h2 => HT1.out.block j h1 h2 (by omega));clear HA1 HR1 HT1 HDN g2;generalize w1.drewN nq = w2 at *;have HR0 := xH (show VsR w0 H G b o hi B cnt v l A Z y k rs cu w w2 .nil k cu cu (B + 1) from
   ⟨(HKP.out B (by omega) (by omega)).trans HROW.out, xL _, sub_keep (a := lo) (b := hi) (fun j k1 k2 => HKP.out j (by omega) (by omega)) HSUB.out (by omega) (xL _), HR2.out, HC2.out, HA2.out, by simp only [F.len]; omega, rfl, HSB.out, HSB.out, HV.out, xL _, Nat.le_trans HH.out HC2.out.size⟩)
  have HKVY := xH (show y.kv = .slice (some ⟨B, 0, none⟩) k.len k.len from HK0.out.2.1.trans HKV.out);have y11 : w2.cell? ⟨b, o + 11, none⟩ = some (.slice (some ⟨B, 0, none⟩) k.len k.len) := HKVY.out ▸ HA2.out.cell (j := 11) rfl;clear HR2 HC2 HA2 HKP;have hkl2 : k.len ≤ 9223372036854775807 := by omega
  go_wp2_with fail
  go_loopw [7, 32] (fun v7 v32 wr => ∃ (g r : F) (lg c : Int) (m : Nat), v7 = .int .i64 lg ∧ v32 = .int .i64 g.len ∧ Hid (VsR w0 H G b o hi B cnt v l A Z y k rs cu w wr g r lg c m)) (fun _ v32 _ => k.len - (intOf v32).toNat)
  case atStart => exact ⟨.nil, k, cu, cu, _, rfl, rfl, HR0⟩
  case round =>
   obtain ⟨g, r, lg, c, m, rfl, rfl, HR⟩ := hrel;have hlen := HR.out.len;have y0 : wr.cell? ⟨b, o, none⟩ = some (.int .i64 y.kind) := HR.out.nb.cell (j := 0) rfl;have y11 : wr.cell? ⟨b, o + 11, none⟩ = some (.slice (some ⟨B, 0, none⟩) k.len k.len) := HKVY.out ▸ HR.out.nb.cell (j := 11) rfl;obtain ⟨_, _, g2, z2⟩ := HR.out.st.c;cases r with
   | nil =>
    have hg : g.len = k.len := hlen;have hd : decide (g.len < k.len) = false := by simp [hg]
    have HG := xH hg;have HQ2 := xH (show q = (none, g, lg, c) from HQ.out.symm.trans (HR.out.eq.trans (by simp only [visF, app_nl])));have HNN := xH (show N = (none, (y, g), if rs = true then lg else c) from by rw [HN2.out, HQ2.out, if_neg (fun h => h rfl)]);clear hlen hg y11;have fin : ∀ w5 cc, (if rs = true then lg else c) = cc → (∀ j, j < H → w5.heap[j]? = wr.heap[j]?) → Chg H b B hi wr w5 → RS w0 G cnt v cc w5 → VisB w0 H G b o lo hi cnt v A Z N w (.returned (.tuple #[.int .i64 0, .int .i64 0])) w5 := by
     intro w5 cc hcc h5 hc5 hr5;subst hcc;refine ⟨(HR.out.ch.trans hc5).wide (Or.inl rfl) (Or.inl (by omega)) (Or.inl (xL _)), ?_⟩;rw [HNN.out];refine ⟨rfl, HR.out.nb.keep (h5 b hbH), hr5, HYL2.out, a, B, hla, haB, ?_, by rw [HG.out]; exact hkl, by rw [HKVY.out, HG.out], ?_, ?_⟩
     ·rw [HK0.out.2.2.1, HK0.out.2.2.2.1];exact set_keep HSET.out (xL _) (xL _) fun j k1 k2 => (h5 j (by omega)).trans (HR.out.ch.block j (by omega) (by omega) (Or.inl (by omega)))
     ·rw [h5 B (by omega), HR.out.row, app_nl]
     ·exact sub_keep (a := B + 1) (b := hi) (fun j k1 k2 => h5 j (by omega)) (sub_hi HR.out.sg HR.out.sr) (xL _) (xL _)
    have FIN := xH fin;clear fin;cases rs with
    | true =>
     have HRS := xH (HR.out.st.cur lg);have HCS := xH (show Chg H b B hi wr (wr.setCell ⟨G, 2, none⟩ (.int .i64 lg)) from Chg.cell _ G 2 _ (Or.inr hG));have HKS := xH (show ∀ j, j < H → (wr.setCell ⟨G, 2, none⟩ (.int .i64 lg)).heap[j]? = wr.heap[j]? from fun j hj => heap_setCell_other _ _ j _ (show j ≠ G by omega));go_wp2_with fail
     go_ret2
     exact FIN.out _ lg rfl HKS.out HCS.out HRS.out
    | false =>
     go_wp2_with fail
     go_ret2
     exact FIN.out _ c rfl (fun _ _ => rfl) (Chg.refl _ _ _ _ _) HR.out.st
   | cons yk kk r =>
    have hlt : g.len < k.len := by simp only [F.len] at hlen; omega
    have hsz := HR.out.sz;simp only [F.size] at hsz;obtain ⟨m1, hm1, hny, hsr⟩ := sub_cons.1 HR.out.sr;have hm2 := sub_le hsr;have hm3 := sub_le HR.out.sg;have hm4 := ndI_le hny;have HSR := xH hsr;have HD7 := xH (show B < m ∧ m1 ≤ H ∧ m1 ≤ hi from ⟨by omega, by omega, hm1⟩);have HCL := xH (IH.out wr B (g.len * 12) m m1 (fC g) (fC r) yk kk c (by have := HZ.out; omega) ⟨by rw [HR.out.row, fC_cut], jP g⟩ (Or.inl (by omega)) (by omega) (by omega) (by omega) (by omega) hny HR.out.st HR.out.H2 HR.out.c2 ⟨HR.out.av.1, HR.out.av.2.1, trivial⟩);have i1 : (g.len : Int) < (k.len : Int) := by omega
    clear hlen hny hsr hsz hm1 hm2 hm3 hm4 y0;go_wp2_with fail
    refine HCL.out.mono ?_;rintro e w4 ⟨hch4, hq4⟩;have HCH4 := xH hch4;clear hch4 HCL;obtain ⟨M, hM⟩ : ∃ M, (visN cnt l yk kk c).1 = M := ⟨_, rfl⟩;rw [hM] at hq4;cases M with
    | some p =>
     have HE := xH (show N.1 = some p from by
      have hq1 : q.1 = some p := by rw [← HQ.out, HR.out.eq, visF_cons, if_pos (by rw [hM]; simp)];exact hM
      rw [HN2.out, if_pos (by rw [hq1]; simp)];exact hq1)
     obtain rfl := hq4;clear hM;go_wp2_with fail
     go_ret2
     refine ⟨(HR.out.ch.wide (b2 := b) (lo2 := lo) (hi2 := hi) (Or.inl rfl) (Or.inl (by omega)) (Or.inl (xL _))).trans (HCH4.out.wide (Or.inr ⟨by omega, by have := HD7.out; omega⟩) (Or.inl (by have := HD7.out; omega)) (Or.inl HD7.out.2.2)), ?_⟩;rw [HE.out];rfl
    | none =>
     obtain ⟨rfl, ha4, hr4, hn4⟩ := hq4;have HM := xH hM;have HA4 := xH ha4;have HR4 := xH hr4;have HN4 := xH hn4;have y0 : w4.cell? ⟨b, o, none⟩ = some (.int .i64 y.kind) := (HR.out.nb.keep (w' := w4) (HCH4.out.block b hbH (by have := HD7.out; omega) (by have := HD7.out; omega))).cell (j := 0) rfl;obtain ⟨_, _, k2, q2⟩ := hr4.c;have HLN := xH (len1 g (visN cnt l yk kk c).2.1.1 (visN cnt l yk kk c).2.1.2);have NX := xH (fun w5 h5 h5c ht => HR.out.next (w4 := w4) (w5 := w5) (m1 := m1) (by omega) hbH hhi HSB.out HD7.out.2.2 HSR.out hM HCH4.out ha4 hn4 h5 h5c ht);clear hM ha4 hr4 hn4 g2 z2;cases rs with
     | true =>
      have HRS := xH (HR4.out.cur cu);have HCS := xH (show Chg H b B hi w4 (w4.setCell ⟨G, 2, none⟩ (.int .i64 cu)) from Chg.cell _ G 2 _ (Or.inr hG));have HKS := xH (show ∀ j, j < H → (w4.setCell ⟨G, 2, none⟩ (.int .i64 cu)).heap[j]? = w4.heap[j]? from fun j hj => heap_setCell_other _ _ j _ (show j ≠ G by omega));have HX := xH (NX.out _ HKS.out HCS.out HRS.out);exact z97
     | false =>
      have HX := xH (NX.out w4 (fun _ _ => rfl) (Chg.refl _ _ _ _ _) HR4.out);exact z97
end rfw
end
section
namespace rfw
open sq
open Go.Sort Go Go.RowKit Go.Maps setp setw tkp trp trw rpp rsp gpp rfp sq
open rpw (fC qp qh ql)
open gqw (NmI9 nm_blw9)
open gpw (Chg NdI ndI_at ndI_keep ndI_hi CpOk CpB)
theorem stepP_bare (cnt : Int) (l : Nm) (x : Lab) (cur : Int) : stepP cnt l (bare x) cur = ((stepP cnt l x cur).1, bare (stepP cnt l x cur).2.1, (stepP cnt l x cur).2.2) := by
 unfold stepP;by_cases c14 : x.kind = 14
 ·rw [if_pos c14, if_pos (show (bare x).kind = 14 from c14)];rfl
 rw [if_neg c14, if_neg (show ¬ (bare x).kind = 14 from c14)];by_cases c19 : x.kind = 19
 ·rw [if_pos c19, if_pos (show (bare x).kind = 19 from c19)];by_cases n10 : x.n = 10
  ·rw [if_pos n10, if_pos (show (bare x).n = 10 from n10)];rfl
  rw [if_neg n10, if_neg (show ¬ (bare x).n = 10 from n10)];by_cases n9 : x.n = 9
  ·rw [if_pos n9, if_pos (show (bare x).n = 9 from n9)];rfl
  rw [if_neg n9, if_neg (show ¬ (bare x).n = 9 from n9)];by_cases n11 : x.n = 11
  ·rw [if_pos n11, if_pos (show (bare x).n = 11 from n11)];by_cases m3 : x.m = 3
   ·rw [if_pos m3, if_pos (show (bare x).m = 3 from m3)];rfl
   ·rw [if_neg m3, if_neg (show ¬ (bare x).m = 3 from m3)];rfl
  ·rw [if_neg n11, if_neg (show ¬ (bare x).n = 11 from n11)]
 rw [if_neg c19, if_neg (show ¬ (bare x).kind = 19 from c19)];by_cases c7 : x.kind = 7 ∨ x.kind = 8
 ·rw [if_pos c7, if_pos (show (bare x).kind = 7 ∨ (bare x).kind = 8 from c7)];rfl
 ·rw [if_neg c7, if_neg (show ¬ ((bare x).kind = 7 ∨ (bare x).kind = 8) from c7)]
theorem visF_strip (cnt : Int) (l : Nm) : ∀ (f : F) (rs : Bool) (bef lg cur : Int), visF cnt l rs bef (strip f) lg cur = ((visF cnt l rs bef f lg cur).1, strip (visF cnt l rs bef f lg cur).2.1, (visF cnt l rs bef f lg cur).2.2)
 | .nil, _, _, _, _ => rfl
 | .cons x k r, rs, bef, lg, cur => by
  rw [strip, visF, visF];simp only;rw [show stepP cnt l { x with sv := nil3, kv := nil3 } cur = _ from stepP_bare cnt l x cur];simp only;generalize stepP cnt l x cur = s;by_cases h : s.1 = false
  ·rw [if_pos h, if_pos h];rfl
  ·rw [if_neg h, if_neg h, visF_strip cnt l k];simp only;generalize visF cnt l (decide (x.kind = 16)) s.2.2 k s.2.2 s.2.2 = q;by_cases h2 : q.1 ≠ none
   ·rw [if_pos h2, if_pos h2];rfl
   ·rw [if_neg h2, if_neg h2, visF_strip cnt l r];rfl
theorem visN_strip (cnt : Int) (l : Nm) (x : Lab) (k : F) (cur : Int) : visN cnt l (bare x) (strip k) cur = ((visN cnt l x k cur).1, (bare (visN cnt l x k cur).2.1.1, strip (visN cnt l x k cur).2.1.2), (visN cnt l x k cur).2.2) := by
 unfold visN;simp only;rw [stepP_bare, show (bare x).kind = x.kind from rfl, show (bare x).at_ = x.at_ from rfl];simp only;generalize stepP cnt l x cur = s;by_cases h : s.1 = false
 ·rw [if_pos h, if_pos h]
 ·rw [if_neg h, if_neg h, visF_strip];simp only;generalize visF cnt l (decide (x.kind = 16)) s.2.2 k s.2.2 s.2.2 = q;by_cases h2 : q.1 ≠ none
  ·rw [if_pos h2, if_pos h2]
  ·rw [if_neg h2, if_neg h2]
theorem allV_strip : ∀ {f : F}, AllV (strip f) ↔ AllV f
 | .nil => Iff.rfl
 | .cons x k r => by rw [strip];unfold AllV;rw [allV_strip (f := k), allV_strip (f := r)];exact Iff.rfl
theorem results_rs {fn : Func} {p q r : Tmp} (h : fn.results = #[.cell p 27, .tmp q, .tmp r]) (tmps : Array Value) (w : World) (g : Nat) (l : Lab) (hp : tmps.getD p undef = .pointer (some ⟨g, 0, none⟩)) (hg : w.heap[g]? = some (.cells (ndC l).toArray 27 (0, 0))) :
 (results fn tmps).run Try.prog w = .ok (.tuple #[ndV l, tmps.getD q undef, tmps.getD r undef]) w := by
 have hp' : tmps[p]?.getD undef = .pointer (some ⟨g, 0, none⟩) := by simpa using hp
 exact z135
def ResRB (N : Option Int × (Lab × F) × Int) (w : World) (e : Ending) (w' : World) : Prop :=
 Below w.heap.size w w' ∧ ((∃ p, N.1 = some p ∧ e = .returned (.tuple #[ndV (lab 0 0), .int .i64 34, .int .i64 p])) ∨
  (N.1 = none ∧ ∃ y j, e = .returned (.tuple #[ndV y, .int .i64 0, .int .i64 0]) ∧ NdI w' y j w.heap.size w'.heap.size ∧ strip (F.one y j) = F.one N.2.1.1 N.2.1.2))
theorem rres_any (w : World) (x : Lab) (k : F) (cnt : Int) (v : Value) (l : Nm) (hn : NdAt w (x, k)) (hc : CpOk (F.one x k)) (hv : AllV (F.one x k)) (hnm : NmI9 w v l) (hcn : cnt ≤ 1000000) : Calls Try.prog 21 #[ndV x, .int .i64 cnt, v] w (ResRB (visN cnt l (bare x) (strip k) 0) w) := by
 have HV := xH hv;have e1 := World.size_alloc w (.cells (ndC x).toArray 27);have HP := xH (show ((w.alloc (.cells (ndC x).toArray 27)).alloc (.cells zC.toArray 27)).heap[w.heap.size]? = some (.cells (ndC x).toArray 27 (0, 0)) from (heap_alloc_old _ _ (by rw [e1]; omega)).trans (heap_alloc_new _ _));have HQ := xH (show ((w.alloc (.cells (ndC x).toArray 27)).alloc (.cells zC.toArray 27)).heap[w.heap.size + 1]? = some (.cells zC.toArray 27 (0, 0)) from e1 ▸ heap_alloc_new (w.alloc (.cells (ndC x).toArray 27)) (.cells zC.toArray 27));have HB := xH (trw.qi (trw.qg w (.cells (ndC x).toArray 27)) (trw.qg _ (.cells zC.toArray 27)));have HZ2 := xH (show ((w.alloc (.cells (ndC x).toArray 27)).alloc (.cells zC.toArray 27)).heap.size = w.heap.size + 2 by rw [World.size_alloc, e1]);have HCP := xH (rcopy_all (k.size + 1) ((w.alloc (.cells (ndC x).toArray 27)).alloc (.cells zC.toArray 27)) x k (Nat.lt_succ_self _) (trw.qY (fun _ _ h => trw.qf HB.out h) hn) hc);have HNM := xH (nm_blw9 hnm HB.out);obtain ⟨na, nc, hnv, _⟩ := id hnm;subst hnv;obtain ⟨N, hN⟩ : ∃ N, visN cnt l (bare x) (strip k) 0 = N := ⟨_, rfl⟩;rw [hN];have HN := xH hN;clear hn hc hv hnm e1 hN;unfold ndC zC at HP HQ HB HZ2 HCP HNM;unfold ndV;go_enter Try.func21, Try.ntmps21;go_upto_region 1 with (fail)
 generalize (w.alloc _).alloc _ = w1 at *;have HP : Hid (w1.heap[w.heap.size]? = some (.cells (ndC x).toArray 27 (0, 0))) := HP;go_wp2_with (first
  | (refine ql rfl _ rfl w.heap.size rfl x HP.out ?_)
  | (refine HCP.out.mono ?_))
 rintro e w2 ⟨y, j, rfl, hn, hs, hb⟩;have HN2 := xH hn;have HS2 := xH hs;have HB2 := xH hb;have HG2 := xH (heap_alloc_new w2 (.cells zC.toArray 27));have HO2 := xH (qp (ndI_at hn));have HST := xH (show ∀ w4, w4 = (w2.alloc (.cells zC.toArray 27)).setRow w2.heap.size (ndC y).toArray → Below w2.heap.size w2 w4 ∧ w4.heap[w2.heap.size]? = some (.cells (ndC y).toArray 27 (0, 0)) ∧ w4.heap.size = w2.heap.size + 1 from fun w4 h4 => by subst h4;exact ⟨rpw.jU w2 _ _ _, setRow_heap _ _ _ _ _ _ (heap_alloc_new w2 _), by rw [tkw.setRow_size, World.size_alloc]⟩)
 unfold zC at HG2 HST;clear hn hs hb HCP HP;dsimp only;go_upto_region 2 with (refine gqw.wpList_store_ny rfl rfl _ _ rfl w2.heap.size rfl _ y HG2.out rfl HO2.out rfl ?_; intro w3 h3; have HS3 := xH (HST.out w3 h3.out); clear h3)
 obtain ⟨T, hT⟩ : ∃ T, w2.heap.size = T := ⟨_, rfl⟩;have HT := xH hT;rw [hT] at HS3;simp only [hT];have HN3 := xH (ndI_keep HN2.out fun i _ h2 => HS3.out.1.block i (by omega));rw [hT] at HN3;have HB13 := xH (show Below w1.heap.size w1 w3 from HB2.out.trans ((hT ▸ HS3.out.1).mono HB2.out.size));have HO := xH (heap_alloc_new w3 (.cells #[.int .i64 cnt, .slice na l.length nc, .int .i64 0] 72));have HBA := xH (trw.qg w3 (.cells #[.int .i64 cnt, .slice na l.length nc, .int .i64 0] 72));have HZA := xH (World.size_alloc w3 (.cells #[.int .i64 cnt, .slice na l.length nc, .int .i64 0] 72));clear HG2 HST hT HO2;go_upto_region 3 with (fail)
 generalize w3.alloc _ = w5 at *;have hG : w3.heap.size = T + 1 := HS3.out.2.2;rw [hG] at HO HZA;simp only [hG];have HB15 := xH (HB13.out.trans (HBA.out.mono HB13.out.size));have HLO := xH (show w.heap.size + 2 = w1.heap.size ∧ w1.heap.size ≤ T from ⟨HZ2.out.symm, HT.out ▸ HB2.out.size⟩);have HVI := xH (visit_all (w0 := w1) (G := T + 1) (H := T + 1) (cnt := cnt) HNM.out (xL _) hcn (j.size + 1) w5 T 0 w1.heap.size T [] [] y j 0 (Nat.lt_succ_self _) ⟨by have := (HBA.out.block T (by omega)).trans HS3.out.2.1; simpa using this, rfl⟩ (Or.inr (xL _)) (Nat.lt_succ_self _) HLO.out.2 (xL _) (Nat.le_succ _)
  (ndI_keep HN3.out fun i _ h2 => HBA.out.block i (by omega)) ⟨HB15.out, HO.out, by have := HLO.out.2; omega⟩ (by rw [HZA.out]; exact Nat.le_succ _) (by unfold Cb; omega) (allV_strip.1 (by rw [HS2.out]; exact allV_strip.2 HV.out)))
 have HNS := xH (show N = ((visN cnt l y j 0).1, (bare (visN cnt l y j 0).2.1.1, strip (visN cnt l y j 0).2.1.2), (visN cnt l y j 0).2.2) from by have h1 := HS2.out;simp only [F.one, strip, F.cons.injEq, and_true] at h1;rw [← HN.out, ← visN_strip, show bare y = bare x from h1.1, h1.2])
 clear hG HN2 HS3 HN3 HB13 HO HBA HZA;go_wp2_with fail
 refine HVI.out.mono ?_;rintro e w6 ⟨hch, hq⟩;have HB6 := xH (show Below w.heap.size w w6 from (HB.out.trans (HB15.out.mono HB.out.size)).trans ⟨hch.os, hch.tape, hch.output, hch.size, fun i hi => hch.block i (by have := HLO.out; omega) (by have := HLO.out; omega) (Or.inl (by have := HLO.out; omega))⟩);have HQ6 := xH (show w6.heap[w.heap.size + 1]? = some (.cells zC.toArray 27 (0, 0)) from (hch.block _ (by have := HLO.out; omega) (by have := HLO.out; omega) (Or.inl (by have := HLO.out; omega))).trans ((HB15.out.block _ (by have := HLO.out; omega)).trans HQ.out));clear hch HVI;obtain ⟨M, hM⟩ : ∃ M, (visN cnt l y j 0).1 = M := ⟨_, rfl⟩;rw [hM] at hq;cases M with
 | some p =>
  obtain rfl := hq;have HE := xH (show N.1 = some p from by rw [HNS.out]; exact hM);have HO := xH (qp (t := (lab 0 0, F.nil)) (rpw.zero_at w6));clear hM;go_wp2_with (refine qh rfl rfl _ _ rfl (w.heap.size + 1) rfl _ (lab 0 0) HQ6.out rfl HO.out rfl ?_)
  refine xB (results_rs rfl _ _ (w.heap.size + 1) (lab 0 0) rfl (setRow_heap _ _ _ _ _ _ HQ6.out)) rfl ?_;exact ⟨rpw.qC HB6.out _ (Nat.le_succ _), .inl ⟨p, HE.out, rfl⟩⟩
 | none =>
  obtain ⟨rfl, ha, hr, hn⟩ := hq;have HE := xH (show N.1 = none from by rw [HNS.out]; exact hM);have HA := xH (show w6.heap[T]? = some (.cells (ndC (visN cnt l y j 0).2.1.1).toArray 27 (0, 0)) from by have := ha.1; simpa using this);have HNA := xH (ndI_at hn);have HO := xH (qp (ndI_at hn));have HNK := xH (show NdI (w6.setRow (w.heap.size + 1) (ndC (visN cnt l y j 0).2.1.1).toArray) (visN cnt l y j 0).2.1.1 (visN cnt l y j 0).2.1.2 w.heap.size (w6.setRow (w.heap.size + 1) (ndC (visN cnt l y j 0).2.1.1).toArray).heap.size from gpw.ndI_lo (ndI_hi (ndI_keep hn fun i k1 _ => tkw.setRow_other _ _ i _ (by have := HLO.out; omega)) (by rw [tkw.setRow_size]; have := ha.lt; omega)) (by have := HLO.out; omega));have HSN := xH (show strip (F.one (visN cnt l y j 0).2.1.1 (visN cnt l y j 0).2.1.2) = F.one N.2.1.1 N.2.1.2 from by rw [HNS.out]; rfl);clear hM ha hr hn HNS;generalize visN cnt l y j 0 = n at *;obtain ⟨n1, ⟨y6, j6⟩, n3⟩ := n;simp only at HA HNA HO HSN HNK;go_wp2_with (first
   | (refine ql rfl _ rfl T rfl y6 HA.out ?_)
   | (refine qh rfl rfl _ _ rfl (w.heap.size + 1) rfl _ y6 HQ6.out rfl HO.out rfl ?_))
  refine xB (results_rs rfl _ _ (w.heap.size + 1) y6 rfl (setRow_heap _ _ _ _ _ _ HQ6.out)) rfl ?_;refine ⟨rpw.qC HB6.out _ (Nat.le_succ _), .inr ⟨HE.out, y6, j6, rfl, ?_, HSN.out⟩⟩;exact HNK.out
end rfw
end
section
namespace rfl10
open sq
open Go Go.RowKit Go.Maps utfw tkp trp trw rpp rsp rtp setw gpp rsw
open rtw (TkB Bd LexB rlex_any str_size Pat lexF_ok)
open rpw (sees jB TkIn LOk ParB rparse_any qh ql qp jm qI)
open tkw (sg)
open gqw (rnumber_any refN refN_hi refF_cons NmI9 nm_i9 capL_len)
theorem refN_eq (y : Lab) (j : F) : refN y j 0 = refF false 0 (strip (F.one y j)) 0 := by
 have hc := refF_cons false 0 y j .nil 0;have h0 := (refN_hi y j 0).1;rw [show strip (F.one y j) = strip (.cons y j .nil) from rfl, hc];refine Prod.ext ?_ ?_
 ·show _ = F.app (refN y j 0).1 .nil;exact (app_nil _).symm
 ·show (refN y j 0).2 = if (0 : Int) < (refN y j 0).2 then (refN y j 0).2 else 0
  split <;> omega
theorem results_nd4 {fn : Func} {p q r s : Tmp} (h : fn.results = #[.cell p 27, .tmp q, .tmp r, .tmp s]) (tmps : Array Value) (w : World) (g : Nat) (l : Lab) (hp : tmps.getD p undef = .pointer (some ⟨g, 0, none⟩)) (hg : w.heap[g]? = some (.cells (ndC l).toArray 27 (0, 0))) :
 (results fn tmps).run Try.prog w = .ok (.tuple #[ndV l, tmps.getD q undef, tmps.getD r undef, tmps.getD s undef]) w := by
 have hp' : tmps[p]?.getD undef = .pointer (some ⟨g, 0, none⟩) := by simpa using hp
 exact z135
theorem refF_size10 : ∀ (f : F) (rs : Bool) (a b : Int), (refF rs a f b).1.size = f.size
 | .nil, _, _, _ => rfl
 | .cons x k r, rs, a, b => by rw [refF]; simp only [F.size]; rw [refF_size10 k, refF_size10 r]
theorem nameR_len10 : ∀ (c : List Lab) (l : Nm), (nameR l c).2.length ≤ l.length + c.length
 | [], l => by simp [nameR]
 | x :: c, l => by
  have ha : (addR x l).2.length ≤ l.length + 1 := by
   unfold addR
   repeat' split
   all_goals simp
  rw [nameR];split
  ·simp
  ·have := nameR_len10 c (addR x l).2;simp only [List.length_cons];omega
theorem nm_len10 {t : F} (h : t.size ≤ 100000) : (nameR [] (capL (refF false 0 t 0).1)).2.length ≤ 2000000 := by have h1 := nameR_len10 (capL (refF false 0 t 0).1) [];have h2 := capL_len (refF false 0 t 0).1;rw [refF_size10] at h2;simp only [List.length_nil] at h1;omega
def NumdB (R : Option F) (w : World) (e : Ending) (w' : World) : Prop := Below w.heap.size w w' ∧ match R with
 | none => e = .returned (.tuple #[ndV (lab 0 0), .int .i64 0, nil3, .bool false])
 | some t => ((nameR [] (capL (refF false 0 t 0).1)).1.1 ≠ 0 ∧ e = .returned (.tuple #[ndV (lab 0 0), .int .i64 0, nil3, .bool false])) ∨
  ((nameR [] (capL (refF false 0 t 0).1)).1.1 = 0 ∧ ∃ y j v, e = .returned (.tuple #[ndV y, .int .i64 (refF false 0 t 0).2, v, .bool true]) ∧ NdAt w' (y, j) ∧ strip (F.one y j) = (refF false 0 t 0).1 ∧ NmI9 w' v (nameR [] (capL (refF false 0 t 0).1)).2)
theorem numd_any (v : Value) (n : Nat) (g : Nat → Int) (o : Int) (w : World) (hv : Sl w v n g) : Calls Try.prog 20 #[v, .int .i64 o] w (NumdB (flatP (sg (strOf n g)) n o) w) := by
 have HL := xH (rlex_any v n g o (w.alloc (.cells zC.toArray 27)) (utfw.below_sl (qg w _) hv));have HB0 := xH (qg w (.cells zC.toArray 27));have HRV := xH (heap_alloc_new w (.cells zC.toArray 27));have HZ := xH (World.size_alloc w (.cells zC.toArray 27));obtain ⟨a, cap, rfl⟩ : ∃ a c, v = .slice a n c := by exact z142
 obtain ⟨R, hR⟩ : ∃ R, flatP (sg (strOf n g)) n o = R := ⟨_, rfl⟩;rw [hR];have HFO := xH (fun t (h : R = some t) => (gpw.flat_ok (hR.trans h)).2);unfold flatP at hR;have HOKT := xH (fun T => rlex_ok (n := n) (g := g) (o := o) (T := T));have HR0 := xH hR;clear hR hv;unfold zC at HL HB0 HRV HZ;go_enter Try.func20, Try.ntmps20;go_upto_region 1 with (fail)
 generalize w.alloc _ = w0 at *;have H1 := xH (qp (t := (lab 0 0, F.nil)) (rpw.zero_at w0));go_wp2_with fail
 refine HL.out.mono ?_;obtain ⟨q, hq⟩ : ∃ q, rlexP (sg (strOf n g)) n o = q := ⟨_, rfl⟩;rw [hq] at HR0 ⊢;have HOK := xH (fun T (h : q = .ok T) => HOKT.out T (hq.trans h));have HERR := xH (fun x (h : q = .error x) => rlex_err (hq.trans h));clear hq HL HOKT;cases q with
 | error x =>
  rintro e w1 ⟨hb, rfl⟩;have HR := xH (show none = R from HR0.out);have b1 : (x.1 != 0) = true := by simpa using HERR.out x rfl
  have HB1 := xH (trw.qi HB0.out hb);have HRV1 := xH ((hb.block _ (by have := HZ.out; omega)).trans HRV.out);clear hb HR0;dsimp only;go_wp2_with (refine qh rfl rfl _ _ rfl w.heap.size rfl _ (lab 0 0) HRV1.out rfl H1.out rfl ?_)
  refine xB (results_nd4 rfl _ _ w.heap.size (lab 0 0) rfl (setRow_heap _ _ _ _ _ _ HRV1.out)) rfl ?_;exact ⟨rpw.qC HB1.out _ (xL _), by rw [← HR.out]; rfl⟩
 | ok T =>
  rintro e w1 ⟨hb, v1, rfl, hrow⟩;have ht := HOK.out T rfl;have hl5 : T.length ≤ 50000 := by omega
  have htk := tkIn_of hrow (fun t h => (ht.1 t h).1.w) hl5;have HZ0 := xH (show w.heap.size + 1 = w0.heap.size from HZ.out.symm);have HPA := xH (rparse_any (bl := w0.heap.size) v1 T (n : Int) w1 hb.size htk (lok_of ht.1 ht.2.2 ht.2.1));have HBL := xH hb.size;have HSET := xH (fun t h => (ht.1 t h).1.s);have HLEN := xH (show T.length ≤ 1000 by omega);obtain ⟨a1, c1, rfl⟩ : ∃ a c, v1 = .slice a T.length c := by obtain ⟨a, c, h, _⟩ := htk;exact ⟨a, c, h⟩
  have HB1 := xH (trw.qi HB0.out hb);have HRV1 := xH ((hb.block _ (by have := HZ.out; omega)).trans HRV.out);have HZ1 := xH (show w.heap.size + 1 ≤ w1.heap.size by have := HZ.out; have := hb.size; omega);clear hb hrow ht htk HOK HERR HB0 HRV HZ;dsimp only;go_wp2_with fail
  refine HPA.out.mono ?_;obtain ⟨q, hq⟩ : ∃ q, parseP T (n : Int) = q := ⟨_, rfl⟩;have HR1 := xH (show (match parseP T (n : Int) with | .error _ => none | .ok f => (match f with | .nil => none | .cons x k _ => some (resP (x, k) o))) = R from HR0.out);have HPE := xH (fun x (h : q = .error x) => parse_err (hq.trans h));have HPO := xH (fun f (h : q = .ok f) => zU HSET.out (hq.trans h));rw [hq] at HR1 ⊢;clear hq HPA HR0 hl5;cases q with
  | error x =>
   rintro e w2 ⟨hb, rfl⟩;have HR := xH (show none = R from HR1.out);have b1 : (x.1 != 0) = true := by simpa using HPE.out x rfl
   have HB2 := xH (trw.qi HB1.out hb);have HRV2 := xH ((hb.block _ (by have := HZ1.out; omega)).trans HRV1.out);have HZ2 := xH (show w.heap.size + 1 ≤ w2.heap.size by have := HZ1.out; have := hb.size; omega);have HG2 := xH (heap_alloc_new w2 (.cells #[.int .i64 0, .int .i64 0, .int .i64 0, .slice none 0 0, .bool false, .int .i64 0, .int .i64 0, .int .i64 0, .string ⟨#[]⟩, .int .i64 0, .int .i64 0, .slice none 0 0] 27));have HB3 := xH (below_row0 HB2.out (.cells #[.int .i64 0, .int .i64 0, .int .i64 0, .slice none 0 0, .bool false, .int .i64 0, .int .i64 0, .int .i64 0, .string ⟨#[]⟩, .int .i64 0, .int .i64 0, .slice none 0 0] 27) (ndC (lab 0 0)).toArray);have HRV3 := xH (show ((w2.alloc (.cells #[.int .i64 0, .int .i64 0, .int .i64 0, .slice none 0 0, .bool false, .int .i64 0, .int .i64 0, .int .i64 0, .string ⟨#[]⟩, .int .i64 0, .int .i64 0, .slice none 0 0] 27)).setRow w2.heap.size (ndC (lab 0 0)).toArray).heap[w.heap.size]? = _ from ((rpw.qC (qg w2 (.cells #[.int .i64 0, .int .i64 0, .int .i64 0, .slice none 0 0, .bool false, .int .i64 0, .int .i64 0, .int .i64 0, .string ⟨#[]⟩, .int .i64 0, .int .i64 0, .slice none 0 0] 27)) (ndC (lab 0 0)).toArray (xL _)).block _ (by have := HZ2.out; omega)).trans HRV2.out);clear hb HR1 HPE HPO;dsimp only;unfold ndV;go_upto_region 5 with (refine qh rfl rfl _ _ rfl w2.heap.size rfl _ (lab 0 0) HG2.out rfl H1.out rfl ?_)
   generalize (w2.alloc _).setRow w2.heap.size _ = w3 at *;go_wp2_with (refine qh rfl rfl _ _ rfl w.heap.size rfl _ (lab 0 0) HRV3.out rfl H1.out rfl ?_)
   refine xB (results_nd4 rfl _ _ w.heap.size (lab 0 0) rfl (setRow_heap _ _ _ _ _ _ HRV3.out)) rfl ?_;exact ⟨rpw.qC HB3.out _ (xL _), by rw [← HR.out]; rfl⟩
  | ok f =>
   obtain ⟨hok, hsz, x, k, rfl⟩ := HPO.out f rfl;have HR := xH (show some (resP (x, k) o) = R from HR1.out);rintro e w2 ⟨hb, x2, k2, rfl, hn2, hs2⟩;obtain ⟨rfl, rfl⟩ : bare x2 = x ∧ strip k2 = k := by have := hs2;simp only [F.one, strip] at this;cases this;exact ⟨rfl, rfl⟩
   have HB2 := xH (trw.qi HB1.out hb);have HRV2 := xH ((hb.block _ (by have := HZ1.out; omega)).trans HRV1.out);have HZ2 := xH (show w.heap.size + 1 ≤ w2.heap.size by have := HZ1.out; have := hb.size; omega);have HG2 := xH (heap_alloc_new w2 (.cells #[.int .i64 0, .int .i64 0, .int .i64 0, .slice none 0 0, .bool false, .int .i64 0, .int .i64 0, .int .i64 0, .string ⟨#[]⟩, .int .i64 0, .int .i64 0, .slice none 0 0] 27));have H2 := xH (qp hn2);have HBW := xH (show w0.heap.size ≤ w2.heap.size from Nat.le_trans HBL.out hb.size);have HN2 := xH hn2;have HOK2 := xH (show OkF (F.one x2 k2) from okF_strip.2 hok);have HSZ := xH (show k2.size ≤ 30000 by have h1 := HLEN.out;simp only [F.one, F.size, strip_size] at hsz;omega)
   clear hb HR1 HPE HPO hs2 hn2 hok hsz;dsimp only;unfold ndV;go_upto_region 5 with (refine qh rfl rfl _ _ rfl w2.heap.size rfl _ x2 HG2.out rfl H2.out rfl ?_)
   have HB5 := xH (rpw.qC (qg w2 (.cells #[.int .i64 0, .int .i64 0, .int .i64 0, .slice none 0 0, .bool false, .int .i64 0, .int .i64 0, .int .i64 0, .string ⟨#[]⟩, .int .i64 0, .int .i64 0, .slice none 0 0] 27)) (ndC x2).toArray (xL _));have HG5 := xH (setRow_heap _ _ _ (ndC x2).toArray _ _ HG2.out);generalize (w2.alloc (.cells #[.int .i64 0, .int .i64 0, .int .i64 0, .slice none 0 0, .bool false, .int .i64 0, .int .i64 0, .int .i64 0, .string ⟨#[]⟩, .int .i64 0, .int .i64 0, .slice none 0 0] 27)).setRow w2.heap.size (ndC x2).toArray = w5 at *;have HRV5 := xH ((HB5.out.block _ (by have := HZ2.out; omega)).trans HRV2.out);have HN5 := xH (qV HB5.out HN2.out);have HO5 := xH (show Old (fun i => decide (i < w0.heap.size)) w5.heap.size from fun i hi => by have := HBW.out;have h2 := HB5.out.size;simp only [decide_eq_true_eq] at hi;omega)
   have HB6 := xH (trw.qi HB2.out HB5.out);have HZ5 := xH (show w.heap.size + 1 ≤ w5.heap.size from Nat.le_trans HZ2.out HB5.out.size);clear HG2 HB5 HN2 HRV2;go_wp2_with (refine ql rfl _ rfl w2.heap.size rfl x2 HG5.out ?_)
   refine (res_any (fun i => decide (i < w0.heap.size)) x2 k2 o w5 HO5.out HN5.out HOK2.out HSZ.out).mono ?_;rintro e w6 ⟨hb6, y, j, rfl, hn6, hs6⟩;have HRV6 := xH ((hb6.block _ (by have := HZ5.out; omega)).trans HRV5.out);have HB7 := xH (trw.qi HB6.out hb6);have HS65 := xH hb6.size;have HN6 := xH hn6;have H6 := xH (qp hn6);have HS6 := xH hs6;clear hb6 hn6 hs6;have HT := xH (show R = some (strip (F.one y j)) from by rw [← HR.out, HS6.out, res_strip]);have HTZ := xH (HFO.out _ HT.out);have HJ6 := xH (show j.size < 100000 from by have := HTZ.out;rw [strip_size] at this;simp only [F.one, F.size] at this;omega)
   have HRN := xH (rnumber_any (fun i => decide (i < w0.heap.size)) y j w6 (fun i hi => by have := HO5.out i hi;exact Nat.lt_of_lt_of_le this HS65.out) HN6.out HJ6.out)
   dsimp only;unfold ndV;unfold ndV at HRN;go_wp2_with fail
   refine HRN.out.mono ?_;rintro e w7 ⟨hb7, hq⟩;have HRV7 := xH ((hb7.block _ (by have := HZ5.out; have := HS65.out; omega)).trans HRV6.out);have HB8 := xH (trw.qi HB7.out hb7);have HZ7 := xH (show w.heap.size + 1 ≤ w7.heap.size by have := HZ5.out; have := HS65.out; have := hb7.size; omega);rw [refN_eq] at hq;have HNL := xH (nm_len10 HTZ.out);generalize strip (F.one y j) = t at *;have HG7 := xH (heap_alloc_new w7 (.cells zC.toArray 27));unfold zC at HG7;clear hb7 HRN;rcases hq with ⟨c0, rfl⟩ | ⟨c0, y7, j7, v7, rfl, hn7, hs7, hr7, hz7⟩
   ·have b0 : ((nameR [] (capL (refF false 0 t 0).1)).1.1 == 0) = false := by simpa using c0
    have HC0 := xH c0;clear c0;dsimp only;unfold ndV;go_upto_region 8 with (refine gqw.wpList_store_ny rfl rfl _ _ rfl w7.heap.size rfl _ (lab 0 0) HG7.out rfl H1.out rfl ?_; intro w8 h8; have HS8 := xH (show Below w7.heap.size w7 w8 ∧ w8.heap[w7.heap.size]? = some (.cells (ndC (lab 0 0)).toArray 27 (0, 0)) from by rw [h8.out]; exact ⟨rpw.jU w7 _ _ _, setRow_heap _ _ _ _ _ _ HG7.out⟩); clear h8)
    have HRV8 := xH ((HS8.out.1.block _ (by have := HZ7.out; omega)).trans HRV7.out);have HB9 := xH (trw.qi HB8.out HS8.out.1);go_wp2_with (first
     | (refine ql rfl _ rfl w7.heap.size rfl (lab 0 0) HS8.out.2 ?_)
     | (refine qh rfl rfl _ _ rfl w.heap.size rfl _ (lab 0 0) HRV8.out rfl H1.out rfl ?_))
    refine xB (results_nd4 rfl _ _ w.heap.size (lab 0 0) rfl (setRow_heap _ _ _ _ _ _ HRV8.out)) rfl ?_;refine ⟨rpw.qC HB9.out _ (xL _), ?_⟩;rw [HT.out];exact .inl ⟨HC0.out, rfl⟩
   ·have HC0 := xH c0;have HN7 := xH hn7;have HO7 := xH (qp hn7);have HS7 := xH hs7;have HR7 := xH hr7;have HV7 := xH hz7;obtain ⟨na, nc, rfl⟩ := gpw.row_slice hr7;clear c0 hn7 hs7 hr7 hz7;have HLT7 := xH (show w.heap.size < w6.heap.size by have := HZ5.out; have := HS65.out; omega);have HW0 := xH (show w.heap.size < w0.heap.size by have := HZ0.out; omega);obtain ⟨l, hl⟩ : ∃ l, (nameR [] (capL (refF false 0 t 0).1)).2 = l := ⟨_, rfl⟩;obtain ⟨c, hc⟩ : ∃ c, (refF false 0 t 0).2 = c := ⟨_, rfl⟩;have HL := xH hl;have HCQ := xH hc;rw [hl] at HR7 HV7 HNL;simp only [hl, hc];clear hl hc;try dsimp only
    unfold ndV;go_upto_region 8 with (refine gqw.wpList_store_ny rfl rfl _ _ rfl w7.heap.size rfl _ y7 HG7.out rfl HO7.out rfl ?_; intro w8 h8; have HS8 := xH (show Below w7.heap.size w7 w8 ∧ w8.heap[w7.heap.size]? = some (.cells (ndC y7).toArray 27 (0, 0)) from by rw [h8.out]; exact ⟨rpw.jU w7 _ _ _, setRow_heap _ _ _ _ _ _ HG7.out⟩); clear h8)
    have HRV8 := xH ((HS8.out.1.block _ (by have := HZ7.out; omega)).trans HRV7.out);have HB9 := xH (trw.qi HB8.out HS8.out.1);have HN8 := xH (qV HS8.out.1 HN7.out);have HR8 := xH (tkw.jJ HR7.out fun k hk => HS8.out.1.block k (rpw.own_below HR7.out hk).2);go_wp2_with (first
     | (refine ql rfl _ rfl w7.heap.size rfl y7 HS8.out.2 ?_)
     | (refine qh rfl rfl _ _ rfl w.heap.size rfl _ y7 HRV8.out rfl HO7.out rfl ?_))
    refine xB (results_nd4 rfl _ _ w.heap.size y7 rfl (setRow_heap _ _ _ _ _ _ HRV8.out)) rfl ?_;refine ⟨rpw.qC HB9.out _ (xL _), ?_⟩;rw [HT.out];refine .inr ⟨HC0.out, y7, j7, .slice na l.length nc, ?_, qY (fun a v hc => ?_) HN8.out, HS7.out, ?_⟩
    ·rw [HCQ.out];rfl
    ·have h1 := jB.1 hc;simp only [decide_eq_false_iff_not] at h1;exact rpw.jI _ h1.2 (by have := HW0.out; omega)
    ·rw [HL.out];exact nm_i9 (tkw.jJ HR8.out fun k hk => tkw.setRow_other _ _ k _ (by have := (rpw.own_below HR8.out hk).1; have := HLT7.out; omega)) HV7.out HNL.out
end rfl10
end
section
namespace rfl10
open sq
open Go Go.RowKit Go.Maps utfw tkp trp trw rpp rsp rtp setw gpp rfp rfw
open rsw (flatP)
open tkw (sg vJ jM)
open rpw (qp qh ql)
open gpw (CpOk)
open gqw (NmI9 wpList_store_ny)
theorem flat_allI {n : Nat} {g : Nat → Int} {o : Int} {t : F} (h : flatP (sg (strOf n g)) n o = some t) : AllI n t := by
 unfold flatP at h;split at h
 ·cases h
 ·rename_i T hT;split at h
  ·cases h
  ·rename_i f hf;have hb := rsw.rlex_ok hT;have hI := parse_allI (tkI_of hT fun t ht => ⟨(hb.1 t ht).1.n, (hb.1 t ht).1.mode⟩) hf;split at h
   ·cases h
   ·cases h;exact resP_allI _ _ ⟨hI.1, hI.2.1, trivial⟩
theorem ref_nmS : ∀ (l : F) (rs : Bool) (a b : Int), NmS l → NmS (refF rs a l b).1
 | .nil, _, _, _, _ => trivial
 | .cons x k r, rs, a, b, ⟨h1, h2, h3⟩ => by
  rw [refF];refine ⟨?_, ref_nmS k _ _ _ h2, ref_nmS r _ _ _ h3⟩;split
  ·exact h1
  ·exact h1
theorem ref_allV {n : Nat} : ∀ (l : F) (rs : Bool) (a b : Int), AllI n l → 0 ≤ a → a ≤ b → b + l.size ≤ 1000000 → AllV (refF rs a l b).1
 | .nil, _, _, _, _, _, _, _ => trivial
 | .cons x k r, rs, a, b, ⟨h1, h2, h3⟩, h4, h5, h6 => by
  rw [F.size] at h6;rw [refF];simp only;generalize ha : (if rs = true then a else b) = c;have hc : 0 ≤ c ∧ c ≤ b := by rw [← ha]; split <;> omega
  generalize hd0 : (if x.kind = 14 then c + 1 else c) = d;have hd : c ≤ d ∧ d ≤ c + 1 := by rw [← hd0]; split <;> omega
  have hq := gqw.ref_hi k (decide (x.kind = 16)) d d (Int.le_refl _);have g1 := ref_allV k (decide (x.kind = 16)) d d h2 (by omega) (Int.le_refl _) (by omega);generalize refF (decide (x.kind = 16)) d k d = q at *;refine ⟨⟨fun e => ?_, fun e => ?_⟩, g1, ref_allV r _ _ _ h3 h4 (by split <;> omega) (by split <;> omega)⟩
  ·by_cases h : x.kind = 14
   ·rw [if_pos h] at e ⊢;show 0 ≤ c + 1 ∧ c + 1 ≤ 1000000;omega
   ·rw [if_neg h] at e;exact absurd e h
  ·by_cases h : x.kind = 14
   ·rw [if_pos h] at e;have e : x.kind = 7 ∨ x.kind = 8 ∨ x.kind = 19 := e;omega
   ·rw [if_neg h] at e ⊢;exact (h1.1 e).2.2
structure NT (n : Nat) (t : F) : Prop where
 i : AllI n (refF false 0 t 0).1
 v : AllV (refF false 0 t 0).1
 c : CpOk (refF false 0 t 0).1
 z : (refF false 0 t 0).1.size ≤ 100000
 k : 0 ≤ (refF false 0 t 0).2 ∧ (refF false 0 t 0).2 ≤ 1000000
theorem nt_of {n : Nat} {g : Nat → Int} {o : Int} {t : F} (h : flatP (sg (strOf n g)) n o = some t) : NT n t := by
 obtain ⟨h1, h2⟩ := gpw.flat_ok h;have hI := flat_allI h;have hz : (refF false 0 t 0).1.size ≤ 100000 := by rw [refF_size10]; exact h2
 have hh := gqw.ref_hi t false 0 0 (Int.le_refl _);have hl := ref_le t false 0 0;exact ⟨refF_allI _ _ _ _ hI, ref_allV t false 0 0 hI (Int.le_refl _) (Int.le_refl _) (by omega), gpw.cpOk_of (n := 0) (ref_nmS _ _ _ _ h1) hz, hz, hl, by omega⟩
theorem cpOk_strip : ∀ {f : F}, CpOk (strip f) ↔ CpOk f
 | .nil => Iff.rfl
 | .cons x k r => by rw [strip];unfold CpOk;rw [cpOk_strip (f := k), cpOk_strip (f := r), rpw.jm]
theorem res_num {n : Nat} {t : F} (h : NT n t) {y : Lab} {j : F} (hs : strip (F.one y j) = (refF false 0 t 0).1) {l : Nm} {v : Value} (w : World) (hn : NdAt w (y, j)) (hv : NmI9 w v l) :
 Calls Try.prog 21 #[ndV y, .int .i64 (refF false 0 t 0).2, v] w (ResRB (visN (refF false 0 t 0).2 l (bare y) (strip j) 0) w) :=
 rres_any w y j _ v l hn (cpOk_strip.1 (hs ▸ h.c)) (allV_strip.1 (hs ▸ h.v)) hv h.k.2
theorem results_nd3 {fn : Func} {p q r : Tmp} (h : fn.results = #[.cell p 27, .tmp q, .tmp r]) (tmps : Array Value) (w : World) (g : Nat) (l : Lab) (hp : tmps.getD p undef = .pointer (some ⟨g, 0, none⟩)) (hg : w.heap[g]? = some (.cells (ndC l).toArray 27 (0, 0))) :
 (results fn tmps).run Try.prog w = .ok (.tuple #[ndV l, tmps.getD q undef, tmps.getD r undef]) w := results_rs h tmps w g l hp hg
def ansR (S : ByteArray) : Option (Option Int × (Lab × F) × Int) := match flatP (sg (strOf S.size (sg S))) S.size 0 with
 | none => none
 | some t => if (nameR [] (capL (refF false 0 t 0).1)).1.1 ≠ 0 then none else match (refF false 0 t 0).1 with
  | .nil => none
  | .cons y j _ => some (visN (refF false 0 t 0).2 (nameR [] (capL (refF false 0 t 0).1)).2 y j 0)
theorem ansR_of {S : ByteArray} {N : Option Int × (Lab × F) × Int} (h : ansR S = some N) : ∃ t, flatP (sg (strOf S.size (sg S))) S.size 0 = some t ∧ (nameR [] (capL (refF false 0 t 0).1)).1.1 = 0 ∧ ∃ y j r, (refF false 0 t 0).1 = .cons y j r ∧ visN (refF false 0 t 0).2 (nameR [] (capL (refF false 0 t 0).1)).2 y j 0 = N := by
 unfold ansR at h;split at h
 ·cases h
 ·rename_i t ht;split at h
  ·cases h
  ·rename_i c0;split at h
   ·cases h
   ·rename_i y j r hy;exact ⟨t, ht, Decidable.not_not.1 c0, y, j, r, hy, by injection h⟩
theorem resolved_any (S : ByteArray) (hS : S.size ≤ 1000) (N : Option Int × (Lab × F) × Int) (hN : ansR S = some N) (w : World) : Calls Try.prog 24 #[.string S] w (ResRB N w) := by
 obtain ⟨hcv, hsl⟩ := vJ (w.alloc (.cells zC.toArray 27)) S hS;have HCV := xH hcv;have HB0 := xH (trw.qi (trw.qg w (.cells zC.toArray 27)) (jM (w.alloc (.cells zC.toArray 27)) S));have HRV := xH (heap_alloc_new w (.cells zC.toArray 27));have HZ := xH (World.size_alloc w (.cells zC.toArray 27));have HRB := xH (((jM (w.alloc (.cells zC.toArray 27)) S).block w.heap.size (by rw [World.size_alloc]; omega)).trans HRV.out);have HBZ := xH (jM (w.alloc (.cells zC.toArray 27)) S).size;obtain ⟨t, ht, c0, y0, j0, r0, hy0, hN0⟩ := ansR_of hN;have HNT := xH (nt_of ht);have HL := xH (numd_any _ S.size (sg S) 0 _ hsl);have H1 := xH (qp (t := (lab 0 0, F.nil)) (rpw.zero_at w));rw [ht] at HL;have HC0 := xH c0;have HY0 := xH hy0;have HN0 := xH hN0;clear hN hsl HRV ht c0 hy0 hN0 HCV;unfold zC at hcv HL HB0 HRB HZ HBZ;go_enter Try.func24, Try.ntmps24;go_upto_region 1 with (fail)
 generalize w.alloc _ = w0 at *;go_wp2_with fail
 refine HL.out.mono ?_;have HZ1 := xH (show w.heap.size + 1 ≤ (Lib.bytesWorld w0 5 S).heap.size by have := HZ.out; have := HBZ.out; omega);generalize Lib.bytesWorld w0 5 S = w1 at *;clear hcv HZ HBZ;rintro e w2 ⟨hb, ⟨c1, _⟩ | ⟨_, y, j, v, rfl, hn, hs, hv⟩⟩
 ·exact absurd HC0.out c1
 have HB2 := xH (trw.qi HB0.out hb);have HRV2 := xH ((hb.block _ (by have := HZ1.out; omega)).trans HRB.out);have HZ2 := xH (show w.heap.size + 1 ≤ w2.heap.size by have := HZ1.out; have := hb.size; omega);have HND := xH hn;have HNV := xH hv;have HO := xH (qp hn);have HG2 := xH (heap_alloc_new w2 (.cells zC.toArray 27));have HRS := xH (fun w3 (hn3 : NdAt w3 (y, j)) (hv3 : NmI9 w3 v _) => res_num HNT.out hs (l := (nameR [] (capL (refF false 0 t 0).1)).2) w3 hn3 hv3);have HVN := xH (show visN (refF false 0 t 0).2 (nameR [] (capL (refF false 0 t 0).1)).2 (bare y) (strip j) 0 = N from by have h1 := hs.trans HY0.out;simp only [F.one, strip, F.cons.injEq] at h1;rw [← HN0.out, ← h1.1, ← h1.2.1];rfl)
 obtain ⟨na, nc, hnv, _⟩ := id hv;subst hnv;generalize (nameR [] (capL (refF false 0 t 0).1)).2 = l at *;rw [HVN.out] at HRS;generalize (refF false 0 t 0).2 = c at *;unfold zC at HG2;clear hb hn hs hv HL HB0 HRB HZ1 HY0 HN0 HC0 HVN;try dsimp only
 unfold ndV;go_upto_region 4 with (refine wpList_store_ny rfl rfl _ _ rfl w2.heap.size rfl _ y HG2.out rfl HO.out rfl ?_; intro w3 h3; have HS3 := xH (show Below w2.heap.size w2 w3 ∧ w3.heap[w2.heap.size]? = some (.cells (ndC y).toArray 27 (0, 0)) from by rw [h3.out]; exact ⟨rpw.jU w2 _ _ _, setRow_heap _ _ _ _ _ _ HG2.out⟩); clear h3)
 have HRV3 := xH ((HS3.out.1.block _ (by have := HZ2.out; omega)).trans HRV2.out);have HB3 := xH (trw.qi HB2.out HS3.out.1);have HZ3 := xH (show w.heap.size + 1 ≤ w3.heap.size by have := HZ2.out; have := HS3.out.1.size; omega);have HC3 := xH (HRS.out w3 (trw.vO HS3.out.1 HND.out) (gqw.nm_blw9 HNV.out HS3.out.1));clear HRS HND HNV HG2;go_wp2_with (first
  | (refine ql rfl _ rfl w2.heap.size rfl y HS3.out.2 ?_)
  | (refine HC3.out.mono ?_))
 rintro e w4 ⟨hb4, ⟨p, hp, rfl⟩ | ⟨hp, y4, j4, rfl, hn4, hs4⟩⟩
 ·have HB4 := xH (trw.qi HB3.out hb4);have HRV4 := xH ((hb4.block _ (by have := HZ3.out; omega)).trans HRV3.out);have HP := xH hp;clear hb4 hp;try dsimp only
  unfold ndV;go_wp2_with (refine qh rfl rfl _ _ rfl w.heap.size rfl _ (lab 0 0) HRV4.out rfl H1.out rfl ?_)
  refine xB (results_nd3 rfl _ _ w.heap.size (lab 0 0) rfl (setRow_heap _ _ _ _ _ _ HRV4.out)) rfl ?_;exact ⟨rpw.qC HB4.out _ (xL _), .inl ⟨p, HP.out, rfl⟩⟩
 ·have HB4 := xH (trw.qi HB3.out hb4);have HRV4 := xH ((hb4.block _ (by have := HZ3.out; omega)).trans HRV3.out);have HP := xH hp;have HN4 := xH hn4;have HS4 := xH hs4;have HO4 := xH (qp (gpw.ndI_at hn4));clear hb4 hp hn4 hs4;try dsimp only
  unfold ndV;go_wp2_with (refine qh rfl rfl _ _ rfl w.heap.size rfl _ y4 HRV4.out rfl HO4.out rfl ?_)
  refine xB (results_nd3 rfl _ _ w.heap.size y4 rfl (setRow_heap _ _ _ _ _ _ HRV4.out)) rfl ?_;exact ⟨rpw.qC HB4.out _ (xL _), .inr ⟨HP.out, y4, j4, rfl, gpw.ndI_lo (gpw.ndI_hi (gpw.ndI_keep HN4.out fun i k1 _ => tkw.setRow_other _ _ i _ (by have := HZ3.out; omega)) (by rw [tkw.setRow_size]; exact xL _)) (by have := HZ3.out; omega), HS4.out⟩⟩
end rfl10
end
section
namespace rfl10
open sq
open Go Go.RowKit Go.Maps utfw tkp trp trw rpp rsp rtp setw gpp rfp rfw
open rpw (qp fC)
open gqw (wpList_store_ny)
def sA : ByteArray := ⟨#[40, 97, 41, 40, 98, 41, 92, 103, 123, 45, 49, 125, 92, 103, 123, 45, 50, 125]⟩
def sB : ByteArray := ⟨#[40, 97, 41, 92, 50]⟩
def ck4 : F → Bool
 | .cons _ _ (.cons _ _ (.cons x _ (.cons y _ .nil))) => decide (x.n = 2) && decide (x.m = 0) && decide (y.n = 1)
 | _ => false
theorem awk_A10 : (match ansR sA with | some N => decide (N.1 = none) && ck4 N.2.1.2 | none => false) = true := by decide +kernel
theorem awk_B10 : (match ansR sB with | some N => decide (N.1 = some 3) | none => false) = true := by decide +kernel
theorem some_A10 : ∃ N, ansR sA = some N ∧ N.1 = none ∧ ck4 N.2.1.2 = true := by
 have h := awk_A10;cases e : ansR sA with
 | none => rw [e] at h; cases h
 | some N =>
  rw [e] at h;simp only [Bool.and_eq_true, decide_eq_true_eq] at h;exact ⟨N, rfl, h.1, h.2⟩
theorem some_B10 : ∃ N, ansR sB = some N ∧ N.1 = some 3 := by
 have h := awk_B10;cases e : ansR sB with
 | none => rw [e] at h; cases h
 | some N =>
  rw [e] at h;simp only [decide_eq_true_eq] at h;exact ⟨N, rfl, h⟩
theorem ck4_strip : ∀ {f : F}, ck4 (strip f) = true → f.len = 4 ∧ (fC f)[29]? = some (.int .i64 2) ∧ (fC f)[30]? = some (.int .i64 0) ∧ (fC f)[41]? = some (.int .i64 1)
 | .nil, h => by cases h
 | .cons _ _ .nil, h => by cases h
 | .cons _ _ (.cons _ _ .nil), h => by cases h
 | .cons _ _ (.cons _ _ (.cons _ _ .nil)), h => by cases h
 | .cons _ _ (.cons _ _ (.cons x _ (.cons y _ .nil))), h => by
  simp only [strip, ck4, Bool.and_eq_true, decide_eq_true_eq] at h;obtain ⟨⟨h1, h2⟩, h3⟩ := h;refine ⟨rfl, ?_, ?_, ?_⟩
  ·show some (Value.int .i64 x.n) = _;rw [h1]
  ·show some (Value.int .i64 x.m) = _;rw [h2]
  ·show some (Value.int .i64 y.n) = _;rw [h3]
 | .cons _ _ (.cons _ _ (.cons _ _ (.cons _ _ (.cons _ _ _)))), h => by cases h
theorem awake_any10 (w : World) : Calls Try.prog 19 #[] w (trw.BoolB true w) := by
 obtain ⟨NA, hA, nA, cA⟩ := some_A10;obtain ⟨NB, hB, nB⟩ := some_B10;have LA := xH (resolved_any sA (by decide) NA hA w);have LB := xH (fun w => resolved_any sB (by decide) NB hB w);have HNA := xH nA;have HCA := xH cA;have HNB := xH nB;unfold sA at LA;unfold sB at LB;clear hA hB nA nB cA;go_enter Try.func19, Try.ntmps19;go_wp2_with fail
 refine LA.out.mono ?_;rintro e w1 ⟨hb, ⟨p, hp, _⟩ | ⟨_, y, j, rfl, hn, hs⟩⟩
 ·rw [HNA.out] at hp;cases hp
 have hs2 : strip j = NA.2.1.2 := by simp only [F.one, strip, F.cons.injEq, and_true] at hs;exact hs.2
 obtain ⟨k4, k29, k30, k41⟩ := ck4_strip (f := j) (by rw [hs2]; exact HCA.out);obtain ⟨B, hkv, hc⟩ := gpw.kids_row hn;have HB1 := xH hb;have HKV := xH (show y.kv = .slice (some ⟨B, 0, none⟩) 4 4 by rw [hkv, k4]);have HK29 := xH (hc 29 _ k29);have HK30 := xH (hc 30 _ k30);have HK41 := xH (hc 41 _ k41);have HO := xH (qp (gpw.ndI_at hn));have HG := xH (heap_alloc_new w1 (.cells zC.toArray 27));unfold zC at HG;clear hb hn hs hs2 k4 k29 k30 k41 hkv hc LA;try dsimp only
 unfold ndV;go_upto_region 2 with (refine wpList_store_ny rfl rfl _ _ rfl w1.heap.size rfl _ y HG.out rfl HO.out rfl ?_; intro w2 h2; have HS2 := xH (show Below w1.heap.size w1 w2 ∧ w2.heap[w1.heap.size]? = some (.cells (ndC y).toArray 27 (0, 0)) from by rw [h2.out]; exact ⟨rpw.jU w1 _ _ _, setRow_heap _ _ _ _ _ _ HG.out⟩); clear h2)
 have LB2 := xH (LB.out w2);go_wp2_with fail
 refine LB2.out.mono ?_;rintro e w3 ⟨hb, ⟨p, hp, rfl⟩ | ⟨hp, _⟩⟩
 ·obtain rfl : p = 3 := by rw [HNB.out] at hp;injection hp with hp;exact hp.symm
  have HB3 := xH (trw.qi HS2.out.1 hb);have HB03 := xH (trw.qi HB1.out HB3.out);have HGY := xH ((hb.block _ (Array.getElem?_eq_some_iff.1 HS2.out.2).1).trans HS2.out.2);have HO3 := xH (qp (t := (lab 0 0, F.nil)) (rpw.zero_at w3));have HG3 := xH (heap_alloc_new w3 (.cells zC.toArray 27));unfold zC at HG3;clear hb hp LB LB2;try dsimp only
  unfold ndV;go_upto_region 3 with (refine wpList_store_ny rfl rfl _ _ rfl w3.heap.size rfl _ (lab 0 0) HG3.out rfl HO3.out rfl ?_; intro w4 h4; have HS4 := xH (show Below w3.heap.size w3 w4 from by rw [h4.out]; exact rpw.jU w3 _ _ _); clear h4)
  have c11 : w4.cell? ⟨w1.heap.size, 11, none⟩ = some (.slice (some ⟨B, 0, none⟩) 4 4) := by unfold World.cell?;rw [(HS4.out.block _ (Array.getElem?_eq_some_iff.1 HGY.out).1).trans HGY.out];show some y.kv = _;rw [HKV.out]
  have d29 := trw.qf HS4.out (trw.qf HB3.out HK29.out);have d30 := trw.qf HS4.out (trw.qf HB3.out HK30.out);have d41 := trw.qf HS4.out (trw.qf HB3.out HK41.out);have HB4 := xH (trw.qi HB03.out HS4.out);generalize w1.heap.size = A1 at *;clear HGY HS4 HG3;go_wp2_with fail
  go_ret
  exact ⟨rfl, HB4.out⟩
 ·rw [HNB.out] at hp;cases hp
end rfl10
end
end Go.Proofs.Ytdgfclbajjjcgaa
