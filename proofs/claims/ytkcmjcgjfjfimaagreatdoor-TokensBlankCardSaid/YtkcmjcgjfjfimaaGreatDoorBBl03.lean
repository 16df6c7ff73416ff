/- T -/
import Derived.BigQuiet
import Derived.BigRegion
import Derived.Deep.CutBlock
import Derived.Deep.DeepCutAuto
import Derived.Deep.QuietTactic
import Derived.Deep.RegionHeld3
import Derived.Deep.RegionWith
import Derived.IntWalk
import Derived.Laws.AppendOwn
import Derived.Laws.AppendOwnNone
import Derived.Laws.BytesArg
import Derived.Laws.CopyRow
import Derived.Laws.Cover2
import Derived.Laws.Cover3
import Derived.Laws.FloatArith
import Derived.Laws.RangeAny
import Derived.Laws.Rows
import Derived.Laws.Shifts
import Derived.Laws.StructEq
import Derived.Lib.BytesEntry
import Derived.Lib.ConvBytes
import Derived.Lib.Hide
import Derived.Lib.LaidTab
import Derived.Lib.OwnBridge
import Derived.LoopN
import Derived.Maps.OwnSet
import Derived.OpenShut
import Derived.Outline
import Derived.OwnWalk
import Derived.ProofKit
import Derived.RegionTactic
import Derived.Shelf.Abstract
import Derived.Shelf.Bytes.SlIndexAt
import Derived.Shelf.Lays8
import Derived.Shelf.SlLaysC2
import Derived.Shelf.SlLaysE
import Derived.Shelf.SlLaysE0
import Derived.Shelf.SlLaysF
import Derived.Shelf.SlLaysH
import Derived.Shelf.SlSortCmp.NoneTotal
import Derived.Shelf.SlicesE.Clone
import Derived.Shelf.SlicesE.Equal
import Derived.Shelf.SlicesE.IndexFunc
import Derived.Shelf.SlicesG.Cmp
import Derived.Shelf.Spec.SlicesGrow
import Derived.Sort.Walk0
import Derived.StillTailTactics
import Derived.Test.YtkcmjcgjfjfimaaGreatDoorChecked
import Derived.Test.YtkcmjcgjfjfimaaGreatDoorRows
import Derived.WalkKit
import Derived.WalkLawsBesides
import Derived.WalkSpells
import GoSem.Core.Float
import Derived.Test.YtkcmjcgjfjfimaaGreatDoorBBl02
section
namespace Go.Proofs.YtkcmjcgjfjfimaaGreatDoor.tkw
open Go Go.RowKit Go.Maps utfp utfw ucdp setp setw prp tkp
variable {C : Cf} {w : World} {a f : Nat} {T : Rw}
theorem naAt_of (h : LX C w a f T) (hna : NaAt C.w0) : NaAt w := by
 obtain ⟨ty, fr, e⟩ := hna
 refine ⟨ty, fr, (h.old.block _ ?_).trans e⟩
 rcases Nat.lt_or_ge 4 C.w0.heap.size with hh | hh
 ·exact hh
 ·rw [Array.getElem?_eq_none hh] at e
  cases e
theorem ptOk_b {C : Cf} {w w1 w2 : World} {b f : Nat} {T : Rw} {t : Tk} {v : Value} {e : Ending} (h : RetB C w1 v b f (T.l ++ [lay t f b]) e w2) (hk : Kept C.base C.L w w1) : PtOk C w T ([lay t f b], b) (.returned (.tuple #[])) w2 := by
 obtain ⟨h1, ⟨tv, h2⟩, h3⟩ := h
 exact ⟨rfl, f, tv, h2, hk.trans h3⟩
set_option maxRecDepth 100000 in
set_option maxHeartbeats 2000000 in
theorem special_0 (h : LX C w a f T) (hT : T.length + 1 ≤ a) (hna : NaAt C.w0) {t : Tk} {b : Nat} (hp : C.p.plainK a groupsT = some (t, b)) : Calls Tryz.prog 74 #[.pointer (some ⟨C.L, 0, none⟩)] w (RP C w (C.p.special f a) (PtOk C w T)) := by
 have HS := Lib.hid (show C.p.special f a = .ok ([lay t f b], b) by unfold Pt.special; simp only [hp]; rfl)
 have HP := Lib.hid hp
 clear hp
 have hk0 := Kept.refl w.heap.size C.L w
 have hB := h.hb
 go_enter Tryz.func74, Tryz.ntmps74
 go_wp2_with fail
 refine Calls.mono (plainKind_any h) ?_
 intro e1 w1 hr
 rw [HP.out] at hr
 have HPP := Lib.hid (ptOk_b hr (Kept.refl C.base C.L w))
 obtain ⟨rfl, _, _⟩ := hr
 go_wp2_with fail
 go_end0
 exact rp_ok HS.out HPP.out
set_option maxRecDepth 100000 in
set_option maxHeartbeats 2000000 in
theorem special_1 (h : LX C w a f T) (hT : T.length + 1 ≤ a) (hna : NaAt C.w0) (hp : C.p.plainK a groupsT = none) {x : Int × Int} (hn : C.p.naming f a namingsT = .error x) : Calls Tryz.prog 74 #[.pointer (some ⟨C.L, 0, none⟩)] w (RP C w (C.p.special f a) (PtOk C w T)) := by
 have HS := Lib.hid (show C.p.special f a = .error x by unfold Pt.special; simp only [hp, hn])
 have HP := Lib.hid hp
 have HN := Lib.hid hn
 clear hp hn
 have hk0 := Kept.refl w.heap.size C.L w
 have hB := h.hb
 go_enter Tryz.func74, Tryz.ntmps74
 go_wp2_with fail
 refine Calls.mono (plainKind_any h) ?_
 intro e1 w1 hr
 rw [HP.out] at hr
 obtain ⟨rfl, hx1, hkn⟩ := hr
 have hk1 := hk0.then hkn
 clear hkn
 go_wp2_with fail
 refine Calls.mono (naming_any hx1 (naAt_of hx1 hna)) ?_
 intro e2 w2 hr
 rw [HN.out] at hr
 obtain ⟨rfl, hkn⟩ := hr
 exact ⟨rfl, rp_err HS.out ⟨rfl, (hk1.mono hB).trans hkn⟩⟩
set_option maxRecDepth 100000 in
set_option maxHeartbeats 2000000 in
theorem special_2 (h : LX C w a f T) (hT : T.length + 1 ≤ a) (hna : NaAt C.w0) (hp : C.p.plainK a groupsT = none) {t : Tk} {b : Nat} (hn : C.p.naming f a namingsT = .ok (some (t, b))) : Calls Tryz.prog 74 #[.pointer (some ⟨C.L, 0, none⟩)] w (RP C w (C.p.special f a) (PtOk C w T)) := by
 have HS := Lib.hid (show C.p.special f a = .ok ([lay t f b], b) by unfold Pt.special; simp only [hp, hn]; rfl)
 have HP := Lib.hid hp
 have HN := Lib.hid hn
 clear hp hn
 have hk0 := Kept.refl w.heap.size C.L w
 have hB := h.hb
 go_enter Tryz.func74, Tryz.ntmps74
 go_wp2_with fail
 refine Calls.mono (plainKind_any h) ?_
 intro e1 w1 hr
 rw [HP.out] at hr
 obtain ⟨rfl, hx1, hkn⟩ := hr
 have hk1 := hk0.then hkn
 clear hkn
 go_wp2_with fail
 refine Calls.mono (naming_any hx1 (naAt_of hx1 hna)) ?_
 intro e2 w2 hr
 rw [HN.out] at hr
 have HPP := Lib.hid (ptOk_b hr (hk1.mono hB))
 obtain ⟨rfl, _, _⟩ := hr
 go_wp2_with fail
 go_end0
 exact rp_ok HS.out HPP.out
set_option maxRecDepth 100000 in
set_option maxHeartbeats 2000000 in
theorem special_3 (h : LX C w a f T) (hT : T.length + 1 ≤ a) (hna : NaAt C.w0) (hp : C.p.plainK a groupsT = none) (hn : C.p.naming f a namingsT = .ok none) {x : Int × Int} (hc : C.p.counted f a = .error x) : Calls Tryz.prog 74 #[.pointer (some ⟨C.L, 0, none⟩)] w (RP C w (C.p.special f a) (PtOk C w T)) := by
 have HS := Lib.hid (show C.p.special f a = .error x by unfold Pt.special; simp only [hp, hn, hc])
 have HP := Lib.hid hp
 have HN := Lib.hid hn
 have HC := Lib.hid hc
 clear hp hn hc
 have hk0 := Kept.refl w.heap.size C.L w
 have hB := h.hb
 go_enter Tryz.func74, Tryz.ntmps74
 go_wp2_with fail
 refine Calls.mono (plainKind_any h) ?_
 intro e1 w1 hr
 rw [HP.out] at hr
 obtain ⟨rfl, hx1, hkn⟩ := hr
 have hk1 := hk0.then hkn
 clear hkn
 go_wp2_with fail
 refine Calls.mono (naming_any hx1 (naAt_of hx1 hna)) ?_
 intro e2 w2 hr
 rw [HN.out] at hr
 obtain ⟨rfl, hx2, hkn⟩ := hr
 have hk2 := hk1.then hkn
 clear hkn
 go_wp2_with fail
 refine Calls.mono (counted_any hx2) ?_
 intro e3 w3 hr
 rw [HC.out] at hr
 obtain ⟨rfl, hkn⟩ := hr
 exact ⟨rfl, rp_err HS.out ⟨rfl, (hk2.mono hB).trans hkn⟩⟩
set_option maxRecDepth 100000 in
set_option maxHeartbeats 2000000 in
theorem special_4 (h : LX C w a f T) (hT : T.length + 1 ≤ a) (hna : NaAt C.w0) (hp : C.p.plainK a groupsT = none) (hn : C.p.naming f a namingsT = .ok none) {t : Tk} {b : Nat} (hc : C.p.counted f a = .ok (some (t, b))) : Calls Tryz.prog 74 #[.pointer (some ⟨C.L, 0, none⟩)] w (RP C w (C.p.special f a) (PtOk C w T)) := by
 have HS := Lib.hid (show C.p.special f a = .ok ([lay t f b], b) by unfold Pt.special; simp only [hp, hn, hc]; rfl)
 have HP := Lib.hid hp
 have HN := Lib.hid hn
 have HC := Lib.hid hc
 clear hp hn hc
 have hk0 := Kept.refl w.heap.size C.L w
 have hB := h.hb
 go_enter Tryz.func74, Tryz.ntmps74
 go_wp2_with fail
 refine Calls.mono (plainKind_any h) ?_
 intro e1 w1 hr
 rw [HP.out] at hr
 obtain ⟨rfl, hx1, hkn⟩ := hr
 have hk1 := hk0.then hkn
 clear hkn
 go_wp2_with fail
 refine Calls.mono (naming_any hx1 (naAt_of hx1 hna)) ?_
 intro e2 w2 hr
 rw [HN.out] at hr
 obtain ⟨rfl, hx2, hkn⟩ := hr
 have hk2 := hk1.then hkn
 clear hkn
 go_wp2_with fail
 refine Calls.mono (counted_any hx2) ?_
 intro e3 w3 hr
 rw [HC.out] at hr
 have HPP := Lib.hid (ptOk_b hr (hk2.mono hB))
 obtain ⟨rfl, _, _⟩ := hr
 go_wp2_with fail
 go_end0
 exact rp_ok HS.out HPP.out
set_option maxRecDepth 100000 in
set_option maxHeartbeats 4000000 in
theorem special_5 (h : LX C w a f T) (hT : T.length + 1 ≤ a) (hna : NaAt C.w0) (hp : C.p.plainK a groupsT = none) (hn : C.p.naming f a namingsT = .ok none) (hc : C.p.counted f a = .ok none) (k0 : C.p.has [35] a = true) : Calls Tryz.prog 74 #[.pointer (some ⟨C.L, 0, none⟩)] w (RP C w (C.p.special f a) (PtOk C w T)) := by
 have hs : C.p.special f a = (match C.p.until 41 (a + 1) with | none => .error (20, (C.p.n : Int)) | some i => .ok ([], i + 1)) := by
  unfold Pt.special
  simp only [hp, hn, hc]
  rw [if_pos k0]
  rfl
 have K0 := Lib.hid k0
 clear k0
 have HP := Lib.hid hp
 have HN := Lib.hid hn
 have HC := Lib.hid hc
 clear hp hn hc
 cases hu : C.p.until 41 (a + 1) with
 | none =>
  rw [hu] at hs
  have HS := Lib.hid (show C.p.special f a = .error (C.p.er 20 f) from hs)
  have HU := Lib.hid hu
  clear hs hu
  have hk0 := Kept.refl w.heap.size C.L w
  have hB := h.hb
  go_enter Tryz.func74, Tryz.ntmps74
  go_wp2_with fail
  refine Calls.mono (plainKind_any h) ?_
  intro e1 w1 hr
  rw [HP.out] at hr
  obtain ⟨rfl, hx1, hkn⟩ := hr
  have hk1 := hk0.then hkn
  clear hkn
  go_wp2_with fail
  refine Calls.mono (naming_any hx1 (naAt_of hx1 hna)) ?_
  intro e2 w2 hr
  rw [HN.out] at hr
  obtain ⟨rfl, hx2, hkn⟩ := hr
  have hk2 := hk1.then hkn
  clear hkn
  go_wp2_with fail
  refine Calls.mono (counted_any hx2) ?_
  intro e3 w3 hr
  rw [HC.out] at hr
  obtain ⟨rfl, hx3, hkn⟩ := hr
  have hk3 := hk2.then hkn
  clear hkn
  go_wp2_with fail
  refine Calls.mono (take_y hx3 ⟨#[35]⟩ [35] 1 rfl rfl (by decide) K0.out) ?_
  rintro e4 w4 ⟨rfl, hx4, hkn⟩
  have hk4 := hk3.then hkn
  clear hkn
  go_wp2_with fail
  refine Calls.mono (until_any hx4 41) ?_
  intro e5 w5 hr
  rw [show ((41 : UInt8).toNat : Int) = 41 from rfl, HU.out] at hr
  obtain ⟨rfl, hx5, hkn⟩ := hr
  have hk5 := hk4.then hkn
  clear hkn
  go_wp2_with fail
  refine Calls.mono (fail_any hx5 20) ?_
  rintro e19 w19 ⟨rfl, hkn⟩
  exact ⟨rfl, rp_err HS.out ⟨rfl, (hk5.mono hB).trans hkn⟩⟩
 | some j =>
  rw [hu] at hs
  have HS := Lib.hid (show C.p.special f a = .ok ([], j + 1) from hs)
  have HU := Lib.hid hu
  clear hs hu
  have hk0 := Kept.refl w.heap.size C.L w
  have hB := h.hb
  go_enter Tryz.func74, Tryz.ntmps74
  go_wp2_with fail
  refine Calls.mono (plainKind_any h) ?_
  intro e1 w1 hr
  rw [HP.out] at hr
  obtain ⟨rfl, hx1, hkn⟩ := hr
  have hk1 := hk0.then hkn
  clear hkn
  go_wp2_with fail
  refine Calls.mono (naming_any hx1 (naAt_of hx1 hna)) ?_
  intro e2 w2 hr
  rw [HN.out] at hr
  obtain ⟨rfl, hx2, hkn⟩ := hr
  have hk2 := hk1.then hkn
  clear hkn
  go_wp2_with fail
  refine Calls.mono (counted_any hx2) ?_
  intro e3 w3 hr
  rw [HC.out] at hr
  obtain ⟨rfl, hx3, hkn⟩ := hr
  have hk3 := hk2.then hkn
  clear hkn
  go_wp2_with fail
  refine Calls.mono (take_y hx3 ⟨#[35]⟩ [35] 1 rfl rfl (by decide) K0.out) ?_
  rintro e4 w4 ⟨rfl, hx4, hkn⟩
  have hk4 := hk3.then hkn
  clear hkn
  go_wp2_with fail
  refine Calls.mono (until_any hx4 41) ?_
  intro e5 w5 hr
  rw [show ((41 : UInt8).toNat : Int) = 41 from rfl, HU.out] at hr
  obtain ⟨rfl, hx5, hkn⟩ := hr
  have hk5 := hk4.then hkn
  clear hkn
  go_wp2_with fail
  go_end0
  exact rp_ok HS.out ⟨rfl, f, T.v, by rw [List.append_nil]; exact hx5, hk5.mono hB⟩
set_option maxRecDepth 100000 in
set_option maxHeartbeats 4000000 in
theorem special_6 (h : LX C w a f T) (hT : T.length + 1 ≤ a) (hna : NaAt C.w0) (hp : C.p.plainK a groupsT = none) (hn : C.p.naming f a namingsT = .ok none) (hc : C.p.counted f a = .ok none) (k0 : C.p.has [35] a = false) (k1 : C.p.has [40] a = true) : Calls Tryz.prog 74 #[.pointer (some ⟨C.L, 0, none⟩)] w (RP C w (C.p.special f a) (PtOk C w T)) := by
 have hs : C.p.special f a = tkp.one f (C.p.cond f a) := by
  unfold Pt.special
  simp only [hp, hn, hc]
  rw [if_neg (by simp [k0])]; rw [if_pos k1]
 have HK := Lib.hid k1
 have K0 := Lib.hid k0
 have K1 := Lib.hid k1
 clear k0 k1
 have HP := Lib.hid hp
 have HN := Lib.hid hn
 have HC := Lib.hid hc
 clear hp hn hc
 cases hr0 : tkp.one f (C.p.cond f a) with
 | error x =>
  have HS := Lib.hid (hs.trans hr0)
  have HR := Lib.hid hr0
  clear hs hr0
  have hk0 := Kept.refl w.heap.size C.L w
  have hB := h.hb
  go_enter Tryz.func74, Tryz.ntmps74
  go_wp2_with fail
  refine Calls.mono (plainKind_any h) ?_
  intro e1 w1 hr
  rw [HP.out] at hr
  obtain ⟨rfl, hx1, hkn⟩ := hr
  have hk1 := hk0.then hkn
  clear hkn
  go_wp2_with fail
  refine Calls.mono (naming_any hx1 (naAt_of hx1 hna)) ?_
  intro e2 w2 hr
  rw [HN.out] at hr
  obtain ⟨rfl, hx2, hkn⟩ := hr
  have hk2 := hk1.then hkn
  clear hkn
  go_wp2_with fail
  refine Calls.mono (counted_any hx2) ?_
  intro e3 w3 hr
  rw [HC.out] at hr
  obtain ⟨rfl, hx3, hkn⟩ := hr
  have hk3 := hk2.then hkn
  clear hkn
  go_wp2_with fail
  refine Calls.mono (take_n hx3 ⟨#[35]⟩ [35] rfl (by decide) K0.out) ?_
  rintro e4 w4 ⟨rfl, hx4, hkn⟩
  have hk4 := hk3.then hkn
  clear hkn
  go_wp2_with fail
  refine Calls.mono (has_any hx4 ⟨#[40]⟩ (by decide)) ?_
  intro e5 w5 hr
  rw [show (⟨#[40]⟩ : ByteArray).data.toList = [40] from rfl, K1.out] at hr
  obtain ⟨rfl, hb1⟩ := hr
  have hx5 := hx4.below hb1
  have hk5 := hk4.then (Kept.of_below (L := C.L) hb1)
  clear hb1
  go_wp2_with fail
  refine Calls.mono (cond_any hx5 hT HK.out) ?_
  intro e18 w18 hr
  rw [HR.out] at hr
  obtain ⟨rfl, hkn⟩ := hr
  exact ⟨rfl, rp_err HS.out ⟨rfl, (hk5.mono hB).trans hkn⟩⟩
 | ok r =>
  have HS := Lib.hid (hs.trans hr0)
  have HR := Lib.hid hr0
  clear hs hr0
  have hk0 := Kept.refl w.heap.size C.L w
  have hB := h.hb
  go_enter Tryz.func74, Tryz.ntmps74
  go_wp2_with fail
  refine Calls.mono (plainKind_any h) ?_
  intro e1 w1 hr
  rw [HP.out] at hr
  obtain ⟨rfl, hx1, hkn⟩ := hr
  have hk1 := hk0.then hkn
  clear hkn
  go_wp2_with fail
  refine Calls.mono (naming_any hx1 (naAt_of hx1 hna)) ?_
  intro e2 w2 hr
  rw [HN.out] at hr
  obtain ⟨rfl, hx2, hkn⟩ := hr
  have hk2 := hk1.then hkn
  clear hkn
  go_wp2_with fail
  refine Calls.mono (counted_any hx2) ?_
  intro e3 w3 hr
  rw [HC.out] at hr
  obtain ⟨rfl, hx3, hkn⟩ := hr
  have hk3 := hk2.then hkn
  clear hkn
  go_wp2_with fail
  refine Calls.mono (take_n hx3 ⟨#[35]⟩ [35] rfl (by decide) K0.out) ?_
  rintro e4 w4 ⟨rfl, hx4, hkn⟩
  have hk4 := hk3.then hkn
  clear hkn
  go_wp2_with fail
  refine Calls.mono (has_any hx4 ⟨#[40]⟩ (by decide)) ?_
  intro e5 w5 hr
  rw [show (⟨#[40]⟩ : ByteArray).data.toList = [40] from rfl, K1.out] at hr
  obtain ⟨rfl, hb1⟩ := hr
  have hx5 := hx4.below hb1
  have hk5 := hk4.then (Kept.of_below (L := C.L) hb1)
  clear hb1
  go_wp2_with fail
  refine Calls.mono (cond_any hx5 hT HK.out) ?_
  intro e18 w18 hr
  rw [HR.out] at hr
  obtain ⟨rfl, f', v', hx18, hkn⟩ := hr
  have HPP := Lib.hid (show PtOk C w T r (.returned (.tuple #[])) w18 from ⟨rfl, f', v', hx18, (hk5.mono hB).trans hkn⟩)
  clear hx18 hkn
  go_wp2_with fail
  go_end0
  exact rp_ok HS.out HPP.out
set_option maxRecDepth 100000 in
set_option maxHeartbeats 4000000 in
theorem special_10 (h : LX C w a f T) (hT : T.length + 1 ≤ a) (hna : NaAt C.w0) (hp : C.p.plainK a groupsT = none) (hn : C.p.naming f a namingsT = .ok none) (hc : C.p.counted f a = .ok none) (k0 : C.p.has [35] a = false) (k1 : C.p.has [40] a = false) (k2 : C.p.has [82] a = false) (k3 : C.p.has [67] a = false) (k4 : C.p.has [43] a = false) : Calls Tryz.prog 74 #[.pointer (some ⟨C.L, 0, none⟩)] w (RP C w (C.p.special f a) (PtOk C w T)) := by
 have hs : C.p.special f a = tkp.one f (C.p.settings f a) := by
  unfold Pt.special
  simp only [hp, hn, hc]
  rw [if_neg (by simp [k0])]; rw [if_neg (by simp [k1])]; rw [if_neg (by simp [k2])]; rw [if_neg (by simp [k3])]; rw [if_neg (by simp [k4])]; skip
 have K0 := Lib.hid k0
 have K1 := Lib.hid k1
 have K2 := Lib.hid k2
 have K3 := Lib.hid k3
 have K4 := Lib.hid k4
 clear k0 k1 k2 k3 k4
 have HP := Lib.hid hp
 have HN := Lib.hid hn
 have HC := Lib.hid hc
 clear hp hn hc
 cases hr0 : tkp.one f (C.p.settings f a) with
 | error x =>
  have HS := Lib.hid (hs.trans hr0)
  have HR := Lib.hid hr0
  clear hs hr0
  have hk0 := Kept.refl w.heap.size C.L w
  have hB := h.hb
  go_enter Tryz.func74, Tryz.ntmps74
  go_wp2_with fail
  refine Calls.mono (plainKind_any h) ?_
  intro e1 w1 hr
  rw [HP.out] at hr
  obtain ⟨rfl, hx1, hkn⟩ := hr
  have hk1 := hk0.then hkn
  clear hkn
  go_wp2_with fail
  refine Calls.mono (naming_any hx1 (naAt_of hx1 hna)) ?_
  intro e2 w2 hr
  rw [HN.out] at hr
  obtain ⟨rfl, hx2, hkn⟩ := hr
  have hk2 := hk1.then hkn
  clear hkn
  go_wp2_with fail
  refine Calls.mono (counted_any hx2) ?_
  intro e3 w3 hr
  rw [HC.out] at hr
  obtain ⟨rfl, hx3, hkn⟩ := hr
  have hk3 := hk2.then hkn
  clear hkn
  go_wp2_with fail
  refine Calls.mono (take_n hx3 ⟨#[35]⟩ [35] rfl (by decide) K0.out) ?_
  rintro e4 w4 ⟨rfl, hx4, hkn⟩
  have hk4 := hk3.then hkn
  clear hkn
  go_wp2_with fail
  refine Calls.mono (has_any hx4 ⟨#[40]⟩ (by decide)) ?_
  intro e5 w5 hr
  rw [show (⟨#[40]⟩ : ByteArray).data.toList = [40] from rfl, K1.out] at hr
  obtain ⟨rfl, hb1⟩ := hr
  have hx5 := hx4.below hb1
  have hk5 := hk4.then (Kept.of_below (L := C.L) hb1)
  clear hb1
  go_wp2_with fail
  refine Calls.mono (take_n hx5 ⟨#[82]⟩ [82] rfl (by decide) K2.out) ?_
  rintro e6 w6 ⟨rfl, hx6, hkn⟩
  have hk6 := hk5.then hkn
  clear hkn
  go_wp2_with fail
  refine Calls.mono (take_n hx6 ⟨#[67]⟩ [67] rfl (by decide) K3.out) ?_
  rintro e7 w7 ⟨rfl, hx7, hkn⟩
  have hk7 := hk6.then hkn
  clear hkn
  go_wp2_with fail
  refine Calls.mono (take_n hx7 ⟨#[43]⟩ [43] rfl (by decide) K4.out) ?_
  rintro e8 w8 ⟨rfl, hx8, hkn⟩
  have hk8 := hk7.then hkn
  clear hkn
  go_wp2_with fail
  refine Calls.mono (settings_any hx8) ?_
  intro e18 w18 hr
  rw [HR.out] at hr
  obtain ⟨rfl, hkn⟩ := hr
  exact ⟨rfl, rp_err HS.out ⟨rfl, (hk8.mono hB).trans hkn⟩⟩
 | ok r =>
  have HS := Lib.hid (hs.trans hr0)
  have HR := Lib.hid hr0
  clear hs hr0
  have hk0 := Kept.refl w.heap.size C.L w
  have hB := h.hb
  go_enter Tryz.func74, Tryz.ntmps74
  go_wp2_with fail
  refine Calls.mono (plainKind_any h) ?_
  intro e1 w1 hr
  rw [HP.out] at hr
  obtain ⟨rfl, hx1, hkn⟩ := hr
  have hk1 := hk0.then hkn
  clear hkn
  go_wp2_with fail
  refine Calls.mono (naming_any hx1 (naAt_of hx1 hna)) ?_
  intro e2 w2 hr
  rw [HN.out] at hr
  obtain ⟨rfl, hx2, hkn⟩ := hr
  have hk2 := hk1.then hkn
  clear hkn
  go_wp2_with fail
  refine Calls.mono (counted_any hx2) ?_
  intro e3 w3 hr
  rw [HC.out] at hr
  obtain ⟨rfl, hx3, hkn⟩ := hr
  have hk3 := hk2.then hkn
  clear hkn
  go_wp2_with fail
  refine Calls.mono (take_n hx3 ⟨#[35]⟩ [35] rfl (by decide) K0.out) ?_
  rintro e4 w4 ⟨rfl, hx4, hkn⟩
  have hk4 := hk3.then hkn
  clear hkn
  go_wp2_with fail
  refine Calls.mono (has_any hx4 ⟨#[40]⟩ (by decide)) ?_
  intro e5 w5 hr
  rw [show (⟨#[40]⟩ : ByteArray).data.toList = [40] from rfl, K1.out] at hr
  obtain ⟨rfl, hb1⟩ := hr
  have hx5 := hx4.below hb1
  have hk5 := hk4.then (Kept.of_below (L := C.L) hb1)
  clear hb1
  go_wp2_with fail
  refine Calls.mono (take_n hx5 ⟨#[82]⟩ [82] rfl (by decide) K2.out) ?_
  rintro e6 w6 ⟨rfl, hx6, hkn⟩
  have hk6 := hk5.then hkn
  clear hkn
  go_wp2_with fail
  refine Calls.mono (take_n hx6 ⟨#[67]⟩ [67] rfl (by decide) K3.out) ?_
  rintro e7 w7 ⟨rfl, hx7, hkn⟩
  have hk7 := hk6.then hkn
  clear hkn
  go_wp2_with fail
  refine Calls.mono (take_n hx7 ⟨#[43]⟩ [43] rfl (by decide) K4.out) ?_
  rintro e8 w8 ⟨rfl, hx8, hkn⟩
  have hk8 := hk7.then hkn
  clear hkn
  go_wp2_with fail
  refine Calls.mono (settings_any hx8) ?_
  intro e18 w18 hr
  rw [HR.out] at hr
  obtain ⟨rfl, f', v', hx18, hkn⟩ := hr
  have HPP := Lib.hid (show PtOk C w T r (.returned (.tuple #[])) w18 from ⟨rfl, f', v', hx18, (hk8.mono hB).trans hkn⟩)
  clear hx18 hkn
  go_wp2_with fail
  go_end0
  exact rp_ok HS.out HPP.out
set_option maxRecDepth 100000 in
set_option maxHeartbeats 4000000 in
theorem special_7 (h : LX C w a f T) (hT : T.length + 1 ≤ a) (hna : NaAt C.w0) (hp : C.p.plainK a groupsT = none) (hn : C.p.naming f a namingsT = .ok none) (hc : C.p.counted f a = .ok none) (k0 : C.p.has [35] a = false) (k1 : C.p.has [40] a = false) (k2 : C.p.has [82] a = true) : Calls Tryz.prog 74 #[.pointer (some ⟨C.L, 0, none⟩)] w (RP C w (C.p.special f a) (PtOk C w T)) := by
 have hs : C.p.special f a = tkp.one f (match C.p.close f (a + 1) with | .error e => .error e | .ok b => .ok ({ kind := 12 }, b)) := by
  unfold Pt.special
  simp only [hp, hn, hc]
  rw [if_neg (by simp [k0])]; rw [if_neg (by simp [k1])]; rw [if_pos k2]
  rfl
 have K0 := Lib.hid k0
 have K1 := Lib.hid k1
 have K2 := Lib.hid k2
 clear k0 k1 k2
 have HP := Lib.hid hp
 have HN := Lib.hid hn
 have HC := Lib.hid hc
 clear hp hn hc
 cases h41 : C.p.has [41] (a + 1) with
 | false =>
  have hcl : C.p.close f (a + 1) = .error (C.p.broken f (a + 1)) := by unfold Pt.close; rw [if_neg (by simp [h41])]
  rw [hcl] at hs
  have HS := Lib.hid (show C.p.special f a = .error (C.p.broken f (a + 1)) from hs)
  have HCL := Lib.hid hcl
  clear hs hcl h41
  have hk0 := Kept.refl w.heap.size C.L w
  have hB := h.hb
  go_enter Tryz.func74, Tryz.ntmps74
  go_wp2_with fail
  refine Calls.mono (plainKind_any h) ?_
  intro e1 w1 hr
  rw [HP.out] at hr
  obtain ⟨rfl, hx1, hkn⟩ := hr
  have hk1 := hk0.then hkn
  clear hkn
  go_wp2_with fail
  refine Calls.mono (naming_any hx1 (naAt_of hx1 hna)) ?_
  intro e2 w2 hr
  rw [HN.out] at hr
  obtain ⟨rfl, hx2, hkn⟩ := hr
  have hk2 := hk1.then hkn
  clear hkn
  go_wp2_with fail
  refine Calls.mono (counted_any hx2) ?_
  intro e3 w3 hr
  rw [HC.out] at hr
  obtain ⟨rfl, hx3, hkn⟩ := hr
  have hk3 := hk2.then hkn
  clear hkn
  go_wp2_with fail
  refine Calls.mono (take_n hx3 ⟨#[35]⟩ [35] rfl (by decide) K0.out) ?_
  rintro e4 w4 ⟨rfl, hx4, hkn⟩
  have hk4 := hk3.then hkn
  clear hkn
  go_wp2_with fail
  refine Calls.mono (has_any hx4 ⟨#[40]⟩ (by decide)) ?_
  intro e5 w5 hr
  rw [show (⟨#[40]⟩ : ByteArray).data.toList = [40] from rfl, K1.out] at hr
  obtain ⟨rfl, hb1⟩ := hr
  have hx5 := hx4.below hb1
  have hk5 := hk4.then (Kept.of_below (L := C.L) hb1)
  clear hb1
  go_wp2_with fail
  refine Calls.mono (take_y hx5 ⟨#[82]⟩ [82] 1 rfl rfl (by decide) K2.out) ?_
  rintro e6 w6 ⟨rfl, hx6, hkn⟩
  have hk6 := hk5.then hkn
  clear hkn
  go_wp2_with fail
  refine Calls.mono (close_any hx6) ?_
  intro e17 w17 hr
  rw [HCL.out] at hr
  obtain ⟨rfl, hkn⟩ := hr
  exact ⟨rfl, rp_err HS.out ⟨rfl, (hk6.mono hB).trans hkn⟩⟩
 | true =>
  have hcl : C.p.close f (a + 1) = .ok (a + 1 + 1) := by unfold Pt.close; rw [if_pos h41]
  rw [hcl] at hs
  have HS := Lib.hid (show C.p.special f a = .ok ([lay ({ kind := 12 } : Tk) f (a + 1 + 1)], a + 1 + 1) from hs)
  have HCL := Lib.hid hcl
  clear hs hcl h41
  have hk0 := Kept.refl w.heap.size C.L w
  have hB := h.hb
  go_enter Tryz.func74, Tryz.ntmps74
  go_wp2_with fail
  refine Calls.mono (plainKind_any h) ?_
  intro e1 w1 hr
  rw [HP.out] at hr
  obtain ⟨rfl, hx1, hkn⟩ := hr
  have hk1 := hk0.then hkn
  clear hkn
  go_wp2_with fail
  refine Calls.mono (naming_any hx1 (naAt_of hx1 hna)) ?_
  intro e2 w2 hr
  rw [HN.out] at hr
  obtain ⟨rfl, hx2, hkn⟩ := hr
  have hk2 := hk1.then hkn
  clear hkn
  go_wp2_with fail
  refine Calls.mono (counted_any hx2) ?_
  intro e3 w3 hr
  rw [HC.out] at hr
  obtain ⟨rfl, hx3, hkn⟩ := hr
  have hk3 := hk2.then hkn
  clear hkn
  go_wp2_with fail
  refine Calls.mono (take_n hx3 ⟨#[35]⟩ [35] rfl (by decide) K0.out) ?_
  rintro e4 w4 ⟨rfl, hx4, hkn⟩
  have hk4 := hk3.then hkn
  clear hkn
  go_wp2_with fail
  refine Calls.mono (has_any hx4 ⟨#[40]⟩ (by decide)) ?_
  intro e5 w5 hr
  rw [show (⟨#[40]⟩ : ByteArray).data.toList = [40] from rfl, K1.out] at hr
  obtain ⟨rfl, hb1⟩ := hr
  have hx5 := hx4.below hb1
  have hk5 := hk4.then (Kept.of_below (L := C.L) hb1)
  clear hb1
  go_wp2_with fail
  refine Calls.mono (take_y hx5 ⟨#[82]⟩ [82] 1 rfl rfl (by decide) K2.out) ?_
  rintro e6 w6 ⟨rfl, hx6, hkn⟩
  have hk6 := hk5.then hkn
  clear hkn
  go_wp2_with fail
  refine Calls.mono (close_any hx6) ?_
  intro e17 w17 hr
  rw [HCL.out] at hr
  obtain ⟨rfl, hx17, hkn⟩ := hr
  have hk17 := hk6.then hkn
  clear hkn
  go_wp2_with fail
  refine Calls.mono (put_any hx17 (.slice none 0 0) ({ kind := 12 } : Tk) (ownR_nil _ _) (by omega)) ?_
  intro e18 w18 hr
  have HPP := Lib.hid (ptOk_put hr (hk17.mono hB))
  obtain ⟨rfl, _, _⟩ := hr
  go_wp2_with fail
  go_end0
  exact rp_ok HS.out HPP.out
set_option maxRecDepth 100000 in
set_option maxHeartbeats 4000000 in
theorem special_8 (h : LX C w a f T) (hT : T.length + 1 ≤ a) (hna : NaAt C.w0) (hp : C.p.plainK a groupsT = none) (hn : C.p.naming f a namingsT = .ok none) (hc : C.p.counted f a = .ok none) (k0 : C.p.has [35] a = false) (k1 : C.p.has [40] a = false) (k2 : C.p.has [82] a = false) (k3 : C.p.has [67] a = true) : Calls Tryz.prog 74 #[.pointer (some ⟨C.L, 0, none⟩)] w (RP C w (C.p.special f a) (PtOk C w T)) := by
 have hs : C.p.special f a = tkp.one f (match C.p.number f (a + 1) with | .error e => .error e | .ok (n, b) => match C.p.close f b with | .error e => .error e | .ok b' => .ok ({ kind := 14, n := n }, b')) := by
  unfold Pt.special
  simp only [hp, hn, hc]
  rw [if_neg (by simp [k0])]; rw [if_neg (by simp [k1])]; rw [if_neg (by simp [k2])]; rw [if_pos k3]
  rfl
 have HK3 := Lib.hid k3
 have K0 := Lib.hid k0
 have K1 := Lib.hid k1
 have K2 := Lib.hid k2
 have K3 := Lib.hid k3
 clear k0 k1 k2 k3
 have HP := Lib.hid hp
 have HN := Lib.hid hn
 have HC := Lib.hid hc
 clear hp hn hc
 have hle : a + 1 ≤ C.p.n := has_lt HK3.out
 cases hnb : C.p.number f (a + 1) with
 | error x =>
  rw [hnb] at hs
  have HS := Lib.hid (show C.p.special f a = .error x from hs)
  have HNB := Lib.hid hnb
  clear hs hnb
  have hk0 := Kept.refl w.heap.size C.L w
  have hB := h.hb
  go_enter Tryz.func74, Tryz.ntmps74
  go_wp2_with fail
  refine Calls.mono (plainKind_any h) ?_
  intro e1 w1 hr
  rw [HP.out] at hr
  obtain ⟨rfl, hx1, hkn⟩ := hr
  have hk1 := hk0.then hkn
  clear hkn
  go_wp2_with fail
  refine Calls.mono (naming_any hx1 (naAt_of hx1 hna)) ?_
  intro e2 w2 hr
  rw [HN.out] at hr
  obtain ⟨rfl, hx2, hkn⟩ := hr
  have hk2 := hk1.then hkn
  clear hkn
  go_wp2_with fail
  refine Calls.mono (counted_any hx2) ?_
  intro e3 w3 hr
  rw [HC.out] at hr
  obtain ⟨rfl, hx3, hkn⟩ := hr
  have hk3 := hk2.then hkn
  clear hkn
  go_wp2_with fail
  refine Calls.mono (take_n hx3 ⟨#[35]⟩ [35] rfl (by decide) K0.out) ?_
  rintro e4 w4 ⟨rfl, hx4, hkn⟩
  have hk4 := hk3.then hkn
  clear hkn
  go_wp2_with fail
  refine Calls.mono (has_any hx4 ⟨#[40]⟩ (by decide)) ?_
  intro e5 w5 hr
  rw [show (⟨#[40]⟩ : ByteArray).data.toList = [40] from rfl, K1.out] at hr
  obtain ⟨rfl, hb1⟩ := hr
  have hx5 := hx4.below hb1
  have hk5 := hk4.then (Kept.of_below (L := C.L) hb1)
  clear hb1
  go_wp2_with fail
  refine Calls.mono (take_n hx5 ⟨#[82]⟩ [82] rfl (by decide) K2.out) ?_
  rintro e6 w6 ⟨rfl, hx6, hkn⟩
  have hk6 := hk5.then hkn
  clear hkn
  go_wp2_with fail
  refine Calls.mono (take_y hx6 ⟨#[67]⟩ [67] 1 rfl rfl (by decide) K3.out) ?_
  rintro e7 w7 ⟨rfl, hx7, hkn⟩
  have hk7 := hk6.then hkn
  clear hkn
  go_wp2_with fail
  refine Calls.mono (number_any hx7) ?_
  intro e15 w15 hr
  rw [HNB.out] at hr
  obtain ⟨rfl, hkn⟩ := hr
  exact ⟨rfl, rp_err HS.out ⟨rfl, (hk7.mono hB).trans hkn⟩⟩
 | ok r =>
  obtain ⟨n, b⟩ := r
  obtain ⟨n1, n2, n3, n4⟩ := number_bd hle hnb
  rw [hnb] at hs
  have HNB := Lib.hid hnb
  clear hnb
  cases h41 : C.p.has [41] b with
  | false =>
   have hcl : C.p.close f b = .error (C.p.broken f b) := by unfold Pt.close; rw [if_neg (by simp [h41])]
   have HS := Lib.hid (show C.p.special f a = .error (C.p.broken f b) by rw [hs]; simp only [hcl]; rfl)
   have HCL := Lib.hid hcl
   clear hs hcl h41
   have hk0 := Kept.refl w.heap.size C.L w
   have hB := h.hb
   go_enter Tryz.func74, Tryz.ntmps74
   go_wp2_with fail
   refine Calls.mono (plainKind_any h) ?_
   intro e1 w1 hr
   rw [HP.out] at hr
   obtain ⟨rfl, hx1, hkn⟩ := hr
   have hk1 := hk0.then hkn
   clear hkn
   go_wp2_with fail
   refine Calls.mono (naming_any hx1 (naAt_of hx1 hna)) ?_
   intro e2 w2 hr
   rw [HN.out] at hr
   obtain ⟨rfl, hx2, hkn⟩ := hr
   have hk2 := hk1.then hkn
   clear hkn
   go_wp2_with fail
   refine Calls.mono (counted_any hx2) ?_
   intro e3 w3 hr
   rw [HC.out] at hr
   obtain ⟨rfl, hx3, hkn⟩ := hr
   have hk3 := hk2.then hkn
   clear hkn
   go_wp2_with fail
   refine Calls.mono (take_n hx3 ⟨#[35]⟩ [35] rfl (by decide) K0.out) ?_
   rintro e4 w4 ⟨rfl, hx4, hkn⟩
   have hk4 := hk3.then hkn
   clear hkn
   go_wp2_with fail
   refine Calls.mono (has_any hx4 ⟨#[40]⟩ (by decide)) ?_
   intro e5 w5 hr
   rw [show (⟨#[40]⟩ : ByteArray).data.toList = [40] from rfl, K1.out] at hr
   obtain ⟨rfl, hb1⟩ := hr
   have hx5 := hx4.below hb1
   have hk5 := hk4.then (Kept.of_below (L := C.L) hb1)
   clear hb1
   go_wp2_with fail
   refine Calls.mono (take_n hx5 ⟨#[82]⟩ [82] rfl (by decide) K2.out) ?_
   rintro e6 w6 ⟨rfl, hx6, hkn⟩
   have hk6 := hk5.then hkn
   clear hkn
   go_wp2_with fail
   refine Calls.mono (take_y hx6 ⟨#[67]⟩ [67] 1 rfl rfl (by decide) K3.out) ?_
   rintro e7 w7 ⟨rfl, hx7, hkn⟩
   have hk7 := hk6.then hkn
   clear hkn
   go_wp2_with fail
   refine Calls.mono (number_any hx7) ?_
   intro e15 w15 hr
   rw [HNB.out] at hr
   obtain ⟨rfl, hx15, hkn⟩ := hr
   have hk15 := hk7.then hkn
   clear hkn
   go_wp2_with fail
   refine Calls.mono (close_any hx15) ?_
   intro e17 w17 hr
   rw [HCL.out] at hr
   obtain ⟨rfl, hkn⟩ := hr
   exact ⟨rfl, rp_err HS.out ⟨rfl, (hk15.mono hB).trans hkn⟩⟩
  | true =>
   have hcl : C.p.close f b = .ok (b + 1) := by unfold Pt.close; rw [if_pos h41]
   have HS := Lib.hid (show C.p.special f a = .ok ([lay ({ kind := 14, n := n } : Tk) f (b + 1)], b + 1) by rw [hs]; simp only [hcl]; rfl)
   have HCL := Lib.hid hcl
   clear hs hcl h41
   have hk0 := Kept.refl w.heap.size C.L w
   have hB := h.hb
   go_enter Tryz.func74, Tryz.ntmps74
   go_wp2_with fail
   refine Calls.mono (plainKind_any h) ?_
   intro e1 w1 hr
   rw [HP.out] at hr
   obtain ⟨rfl, hx1, hkn⟩ := hr
   have hk1 := hk0.then hkn
   clear hkn
   go_wp2_with fail
   refine Calls.mono (naming_any hx1 (naAt_of hx1 hna)) ?_
   intro e2 w2 hr
   rw [HN.out] at hr
   obtain ⟨rfl, hx2, hkn⟩ := hr
   have hk2 := hk1.then hkn
   clear hkn
   go_wp2_with fail
   refine Calls.mono (counted_any hx2) ?_
   intro e3 w3 hr
   rw [HC.out] at hr
   obtain ⟨rfl, hx3, hkn⟩ := hr
   have hk3 := hk2.then hkn
   clear hkn
   go_wp2_with fail
   refine Calls.mono (take_n hx3 ⟨#[35]⟩ [35] rfl (by decide) K0.out) ?_
   rintro e4 w4 ⟨rfl, hx4, hkn⟩
   have hk4 := hk3.then hkn
   clear hkn
   go_wp2_with fail
   refine Calls.mono (has_any hx4 ⟨#[40]⟩ (by decide)) ?_
   intro e5 w5 hr
   rw [show (⟨#[40]⟩ : ByteArray).data.toList = [40] from rfl, K1.out] at hr
   obtain ⟨rfl, hb1⟩ := hr
   have hx5 := hx4.below hb1
   have hk5 := hk4.then (Kept.of_below (L := C.L) hb1)
   clear hb1
   go_wp2_with fail
   refine Calls.mono (take_n hx5 ⟨#[82]⟩ [82] rfl (by decide) K2.out) ?_
   rintro e6 w6 ⟨rfl, hx6, hkn⟩
   have hk6 := hk5.then hkn
   clear hkn
   go_wp2_with fail
   refine Calls.mono (take_y hx6 ⟨#[67]⟩ [67] 1 rfl rfl (by decide) K3.out) ?_
   rintro e7 w7 ⟨rfl, hx7, hkn⟩
   have hk7 := hk6.then hkn
   clear hkn
   go_wp2_with fail
   refine Calls.mono (number_any hx7) ?_
   intro e15 w15 hr
   rw [HNB.out] at hr
   obtain ⟨rfl, hx15, hkn⟩ := hr
   have hk15 := hk7.then hkn
   clear hkn
   go_wp2_with fail
   refine Calls.mono (close_any hx15) ?_
   intro e17 w17 hr
   rw [HCL.out] at hr
   obtain ⟨rfl, hx17, hkn⟩ := hr
   have hk17 := hk15.then hkn
   clear hkn
   go_wp2_with fail
   refine Calls.mono (put_any hx17 (.slice none 0 0) ({ kind := 14, n := n } : Tk) (ownR_nil _ _) (by omega)) ?_
   intro e18 w18 hr
   have HPP := Lib.hid (ptOk_put hr (hk17.mono hB))
   obtain ⟨rfl, _, _⟩ := hr
   go_wp2_with fail
   go_end0
   exact rp_ok HS.out HPP.out
set_option maxRecDepth 100000 in
set_option maxHeartbeats 4000000 in
theorem special_9 (h : LX C w a f T) (hT : T.length + 1 ≤ a) (hna : NaAt C.w0) (hp : C.p.plainK a groupsT = none) (hn : C.p.naming f a namingsT = .ok none) (hc : C.p.counted f a = .ok none) (k0 : C.p.has [35] a = false) (k1 : C.p.has [40] a = false) (k2 : C.p.has [82] a = false) (k3 : C.p.has [67] a = false) (k4 : C.p.has [43] a = true) : Calls Tryz.prog 74 #[.pointer (some ⟨C.L, 0, none⟩)] w (RP C w (C.p.special f a) (PtOk C w T)) := by
 have hs : C.p.special f a = .error (C.p.broken f (a + 1)) := by
  unfold Pt.special
  simp only [hp, hn, hc]
  rw [if_neg (by simp [k0])]; rw [if_neg (by simp [k1])]; rw [if_neg (by simp [k2])]; rw [if_neg (by simp [k3])]; rw [if_pos k4]
 have HS := Lib.hid hs
 clear hs
 have K0 := Lib.hid k0
 have K1 := Lib.hid k1
 have K2 := Lib.hid k2
 have K3 := Lib.hid k3
 have K4 := Lib.hid k4
 clear k0 k1 k2 k3 k4
 have HP := Lib.hid hp
 have HN := Lib.hid hn
 have HC := Lib.hid hc
 clear hp hn hc
 have hk0 := Kept.refl w.heap.size C.L w
 have hB := h.hb
 go_enter Tryz.func74, Tryz.ntmps74
 go_wp2_with fail
 refine Calls.mono (plainKind_any h) ?_
 intro e1 w1 hr
 rw [HP.out] at hr
 obtain ⟨rfl, hx1, hkn⟩ := hr
 have hk1 := hk0.then hkn
 clear hkn
 go_wp2_with fail
 refine Calls.mono (naming_any hx1 (naAt_of hx1 hna)) ?_
 intro e2 w2 hr
 rw [HN.out] at hr
 obtain ⟨rfl, hx2, hkn⟩ := hr
 have hk2 := hk1.then hkn
 clear hkn
 go_wp2_with fail
 refine Calls.mono (counted_any hx2) ?_
 intro e3 w3 hr
 rw [HC.out] at hr
 obtain ⟨rfl, hx3, hkn⟩ := hr
 have hk3 := hk2.then hkn
 clear hkn
 go_wp2_with fail
 refine Calls.mono (take_n hx3 ⟨#[35]⟩ [35] rfl (by decide) K0.out) ?_
 rintro e4 w4 ⟨rfl, hx4, hkn⟩
 have hk4 := hk3.then hkn
 clear hkn
 go_wp2_with fail
 refine Calls.mono (has_any hx4 ⟨#[40]⟩ (by decide)) ?_
 intro e5 w5 hr
 rw [show (⟨#[40]⟩ : ByteArray).data.toList = [40] from rfl, K1.out] at hr
 obtain ⟨rfl, hb1⟩ := hr
 have hx5 := hx4.below hb1
 have hk5 := hk4.then (Kept.of_below (L := C.L) hb1)
 clear hb1
 go_wp2_with fail
 refine Calls.mono (take_n hx5 ⟨#[82]⟩ [82] rfl (by decide) K2.out) ?_
 rintro e6 w6 ⟨rfl, hx6, hkn⟩
 have hk6 := hk5.then hkn
 clear hkn
 go_wp2_with fail
 refine Calls.mono (take_n hx6 ⟨#[67]⟩ [67] rfl (by decide) K3.out) ?_
 rintro e7 w7 ⟨rfl, hx7, hkn⟩
 have hk7 := hk6.then hkn
 clear hkn
 go_wp2_with fail
 refine Calls.mono (take_y hx7 ⟨#[43]⟩ [43] 1 rfl rfl (by decide) K4.out) ?_
 rintro e8 w8 ⟨rfl, hx8, hkn⟩
 have hk8 := hk7.then hkn
 clear hkn
 go_wp2_with fail
 refine Calls.mono (broken_any hx8) ?_
 rintro e17 w17 ⟨rfl, hkn⟩
 exact ⟨rfl, rp_err HS.out ⟨rfl, (hk8.mono hB).trans hkn⟩⟩
theorem special_any (h : LX C w a f T) (hT : T.length + 1 ≤ a) (hna : NaAt C.w0) : Calls Tryz.prog 74 #[.pointer (some ⟨C.L, 0, none⟩)] w (RP C w (C.p.special f a) (PtOk C w T)) := by
 cases hp : C.p.plainK a groupsT with
 | some r =>
  obtain ⟨t, b⟩ := r
  exact special_0 h hT hna hp
 | none =>
  cases hn : C.p.naming f a namingsT with
  | error x => exact special_1 h hT hna hp hn
  | ok o =>
   cases o with
   | some r =>
    obtain ⟨t, b⟩ := r
    exact special_2 h hT hna hp hn
   | none =>
    cases hc : C.p.counted f a with
    | error x => exact special_3 h hT hna hp hn hc
    | ok o =>
     cases o with
     | some r =>
      obtain ⟨t, b⟩ := r
      exact special_4 h hT hna hp hn hc
     | none =>
      cases k0 : C.p.has [35] a with
      | true => exact special_5 h hT hna hp hn hc k0
      | false =>
       cases k1 : C.p.has [40] a with
       | true => exact special_6 h hT hna hp hn hc k0 k1
       | false =>
        cases k2 : C.p.has [82] a with
        | true => exact special_7 h hT hna hp hn hc k0 k1 k2
        | false =>
         cases k3 : C.p.has [67] a with
         | true => exact special_8 h hT hna hp hn hc k0 k1 k2 k3
         | false =>
          cases k4 : C.p.has [43] a with
          | true => exact special_9 h hT hna hp hn hc k0 k1 k2 k3 k4
          | false => exact special_10 h hT hna hp hn hc k0 k1 k2 k3 k4
end Go.Proofs.YtkcmjcgjfjfimaaGreatDoor.tkw
end
section
namespace Go.Proofs.YtkcmjcgjfjfimaaGreatDoor.tkw
open Go Go.RowKit Go.Maps utfp utfw ucdp setp setw prp tkp
variable {C : Cf} {w : World} {a f : Nat} {T : Rw}
def VerbOk (C : Cf) : Prop := ∀ (w : World) (a f : Nat) (T : Rw), LX C w a f T → T.length + 1 ≤ a → Calls Tryz.prog 73 #[.pointer (some ⟨C.L, 0, none⟩)] w (RP C w (tkp.one f (C.p.verb f a)) (PtOk C w T))
set_option maxRecDepth 100000 in
set_option maxHeartbeats 2000000 in
theorem group_0 (h : LX C w a f T) (hT : T.length + 1 ≤ a) (hna : NaAt C.w0) (hve : VerbOk C) (h1 : C.p.has [42] a = true) : Calls Tryz.prog 38 #[.pointer (some ⟨C.L, 0, none⟩)] w (RP C w (C.p.group f a) (PtOk C w T)) := by
 have hs : C.p.group f a = tkp.one f (C.p.verb f (a + 1)) := by unfold Pt.group; rw [if_pos h1]
 have H1 := Lib.hid h1
 clear h1
 cases hr0 : tkp.one f (C.p.verb f (a + 1)) with
 | error x =>
  have HS := Lib.hid (hs.trans hr0)
  have HR := Lib.hid hr0
  clear hs hr0
  have hk0 := Kept.refl w.heap.size C.L w
  have hB := h.hb
  go_enter Tryz.func38, Tryz.ntmps38
  go_wp2_with fail
  refine Calls.mono (take_y h ⟨#[42]⟩ [42] 1 rfl rfl (by decide) H1.out) ?_
  rintro e1 w1 ⟨rfl, hx1, hkn⟩
  have hk1 := hk0.then hkn
  clear hkn
  go_wp2_with fail
  refine Calls.mono (hve w1 (a + 1) f T hx1 (by omega)) ?_
  intro e18 w18 hr
  rw [HR.out] at hr
  obtain ⟨rfl, hkn⟩ := hr
  exact ⟨rfl, rp_err HS.out ⟨rfl, (hk1.mono hB).trans hkn⟩⟩
 | ok r =>
  have HS := Lib.hid (hs.trans hr0)
  have HR := Lib.hid hr0
  clear hs hr0
  have hk0 := Kept.refl w.heap.size C.L w
  have hB := h.hb
  go_enter Tryz.func38, Tryz.ntmps38
  go_wp2_with fail
  refine Calls.mono (take_y h ⟨#[42]⟩ [42] 1 rfl rfl (by decide) H1.out) ?_
  rintro e1 w1 ⟨rfl, hx1, hkn⟩
  have hk1 := hk0.then hkn
  clear hkn
  go_wp2_with fail
  refine Calls.mono (hve w1 (a + 1) f T hx1 (by omega)) ?_
  intro e18 w18 hr
  rw [HR.out] at hr
  obtain ⟨rfl, f', v', hx18, hkn⟩ := hr
  have HPP := Lib.hid (show PtOk C w T r (.returned (.tuple #[])) w18 from ⟨rfl, f', v', hx18, (hk1.mono hB).trans hkn⟩)
  clear hx18 hkn
  go_wp2_with fail
  go_end0
  exact rp_ok HS.out HPP.out
set_option maxRecDepth 100000 in
set_option maxHeartbeats 2000000 in
theorem group_1 (h : LX C w a f T) (hT : T.length + 1 ≤ a) (hna : NaAt C.w0) (hve : VerbOk C) (h1 : C.p.has [42] a = false) (h2 : C.p.has [63] a = true) : Calls Tryz.prog 38 #[.pointer (some ⟨C.L, 0, none⟩)] w (RP C w (C.p.group f a) (PtOk C w T)) := by
 have hs : C.p.group f a = C.p.special f (a + 1) := by unfold Pt.group; rw [if_neg (by simp [h1]), if_pos h2]
 have H1 := Lib.hid h1
 have H2 := Lib.hid h2
 clear h1 h2
 cases hr0 : C.p.special f (a + 1) with
 | error x =>
  have HS := Lib.hid (hs.trans hr0)
  have HR := Lib.hid hr0
  clear hs hr0
  have hk0 := Kept.refl w.heap.size C.L w
  have hB := h.hb
  go_enter Tryz.func38, Tryz.ntmps38
  go_wp2_with fail
  refine Calls.mono (take_n h ⟨#[42]⟩ [42] rfl (by decide) H1.out) ?_
  rintro e1 w1 ⟨rfl, hx1, hkn⟩
  have hk1 := hk0.then hkn
  clear hkn
  go_wp2_with fail
  refine Calls.mono (take_y hx1 ⟨#[63]⟩ [63] 1 rfl rfl (by decide) H2.out) ?_
  rintro e2 w2 ⟨rfl, hx2, hkn⟩
  have hk2 := hk1.then hkn
  clear hkn
  go_wp2_with fail
  refine Calls.mono (special_any hx2 (by omega) hna) ?_
  intro e18 w18 hr
  rw [HR.out] at hr
  obtain ⟨rfl, hkn⟩ := hr
  exact ⟨rfl, rp_err HS.out ⟨rfl, (hk2.mono hB).trans hkn⟩⟩
 | ok r =>
  have HS := Lib.hid (hs.trans hr0)
  have HR := Lib.hid hr0
  clear hs hr0
  have hk0 := Kept.refl w.heap.size C.L w
  have hB := h.hb
  go_enter Tryz.func38, Tryz.ntmps38
  go_wp2_with fail
  refine Calls.mono (take_n h ⟨#[42]⟩ [42] rfl (by decide) H1.out) ?_
  rintro e1 w1 ⟨rfl, hx1, hkn⟩
  have hk1 := hk0.then hkn
  clear hkn
  go_wp2_with fail
  refine Calls.mono (take_y hx1 ⟨#[63]⟩ [63] 1 rfl rfl (by decide) H2.out) ?_
  rintro e2 w2 ⟨rfl, hx2, hkn⟩
  have hk2 := hk1.then hkn
  clear hkn
  go_wp2_with fail
  refine Calls.mono (special_any hx2 (by omega) hna) ?_
  intro e18 w18 hr
  rw [HR.out] at hr
  obtain ⟨rfl, f', v', hx18, hkn⟩ := hr
  have HPP := Lib.hid (show PtOk C w T r (.returned (.tuple #[])) w18 from ⟨rfl, f', v', hx18, (hk2.mono hB).trans hkn⟩)
  clear hx18 hkn
  go_wp2_with fail
  go_end0
  exact rp_ok HS.out HPP.out
set_option maxRecDepth 100000 in
set_option maxHeartbeats 2000000 in
theorem group_2 (h : LX C w a f T) (hT : T.length + 1 ≤ a) (hna : NaAt C.w0) (hve : VerbOk C) (h1 : C.p.has [42] a = false) (h2 : C.p.has [63] a = false) : Calls Tryz.prog 38 #[.pointer (some ⟨C.L, 0, none⟩)] w (RP C w (C.p.group f a) (PtOk C w T)) := by
 have HS := Lib.hid (show C.p.group f a = .ok ([lay ({ kind := 10, n := 1 } : Tk) f a], a) by unfold Pt.group; rw [if_neg (by simp [h1]), if_neg (by simp [h2])]; rfl)
 have H1 := Lib.hid h1
 have H2 := Lib.hid h2
 clear h1 h2
 have hk0 := Kept.refl w.heap.size C.L w
 have hB := h.hb
 go_enter Tryz.func38, Tryz.ntmps38
 go_wp2_with fail
 refine Calls.mono (take_n h ⟨#[42]⟩ [42] rfl (by decide) H1.out) ?_
 rintro e1 w1 ⟨rfl, hx1, hkn⟩
 have hk1 := hk0.then hkn
 clear hkn
 go_wp2_with fail
 refine Calls.mono (take_n hx1 ⟨#[63]⟩ [63] rfl (by decide) H2.out) ?_
 rintro e2 w2 ⟨rfl, hx2, hkn⟩
 have hk2 := hk1.then hkn
 clear hkn
 go_wp2_with fail
 refine Calls.mono (put_any hx2 (.slice none 0 0) ({ kind := 10, n := 1 } : Tk) (ownR_nil _ _) (by omega)) ?_
 intro e18 w18 hr
 have HPP := Lib.hid (ptOk_put hr (hk2.mono hB))
 obtain ⟨rfl, _, _⟩ := hr
 go_wp2_with fail
 go_end0
 exact rp_ok HS.out HPP.out
theorem group_any (h : LX C w a f T) (hT : T.length + 1 ≤ a) (hna : NaAt C.w0) (hve : VerbOk C) : Calls Tryz.prog 38 #[.pointer (some ⟨C.L, 0, none⟩)] w (RP C w (C.p.group f a) (PtOk C w T)) := by
 cases h1 : C.p.has [42] a with
 | true => exact group_0 h hT hna hve h1
 | false =>
  cases h2 : C.p.has [63] a with
  | true => exact group_1 h hT hna hve h1 h2
  | false => exact group_2 h hT hna hve h1 h2
end Go.Proofs.YtkcmjcgjfjfimaaGreatDoor.tkw
end
