/- The contract of package props' Property. -/
import Derived.Test.YtgdhhpbpbkgmeaaDoorPropsW6
namespace Go.Proofs.YtgdhhpbpbkgmeaaDoor.prw
open Go Go.RowKit Go.Proofs.YtgdhhpbpbkgmeaaDoor.bulk Go.Proofs.YtgdhhpbpbkgmeaaDoor.ucdp Go.Proofs.YtgdhhpbpbkgmeaaDoor.ucdw Go.Proofs.YtgdhhpbpbkgmeaaDoor.setp Go.Proofs.YtgdhhpbpbkgmeaaDoor.setw Go.Proofs.YtgdhhpbpbkgmeaaDoor.prp

/-- is there such a property? -/
def isP (n : ByteArray) : Bool := decide (kind n = 1) || decide (kind n = 2) || decide (kind n = 3) || decide (kind n = 4)
/-- what Property answers -/
def PB (n : ByteArray) (w : World) (e : Ending) (w' : World) : Prop := ∃ v S, e = .returned (.tuple #[v, .bool (isP n)]) ∧ Canon S ∧ (∀ c, Has S c ↔ 0 ≤ c ∧ c ≤ 1114111 ∧ propP n c = true) ∧ OwnR w' w.heap.size v S ∧ Below w.heap.size w w'
/-- looked up, where an operation of a region that draws is carried out -/
theorem held_lookup_v {o : Oper} {a : Act} {w : World} {K : Act → World → Prop} {Q : Exit → Act → World → Prop} {ys : Nat → Option Bool} (hgd : o.guard = none) (t e : TypeId) (m x : Operand) (hop : o.op = Op.lookup t m x false)
    (ht : Tryd.prog.underlying t = some (.map 9 e)) (z : Value) (hz : (zeroValue e).run Tryd.prog w = .ok z w) (b n : Nat) (L : List (ByteArray × Value)) (hm : a.eval m = .map (some b)) (hown : MapV w b n L) (key : ByteArray) (hx : a.eval x = .string key) (hk : key.size ≤ maxLen)
    (hK : K (a.put o.dst (lookP L key z)) w) : if Region.wanted o ys = true then Oper.wp Tryd.prog o a w K Q else K (a.put o.dst undef) w := by
  rw [if_pos (by unfold Region.wanted; rw [hgd])]
  obtain ⟨v, ps, hrun, hv⟩ := World.ownsMap.lookup hown (Maps.string_keyed Tryd.underlying9) ht hz (show RV z = some (.held z, []) from rfl) (WideMaps.keyOf_string_mk Tryd.underlying9 (s := key) hk)
  rw [show Lit.string key.data.toList = keyL key from rfl, at_LD] at hv
  obtain rfl := rv_inv hv
  unfold Oper.wp
  simp [execOp, hop, hm, hx, hrun, Result.andThen]
  exact hK
theorem pb_of {n : ByteArray} {g : Nat → Nat → Bool} {w w0 w' : World} {v : Value} {S : List Rg} (hi : isP n = true) (hg : ∀ k s, hp n k s = g k s) (hS : Canon S) (hh : ∀ c, Has S c ↔ 0 ≤ c ∧ c ≤ 1114111 ∧ g (cls c).1 (cls c).2.1 = true) (ho : OwnR w' w0.heap.size v S) (hb0 : Below w.heap.size w w0) (hb : Below w0.heap.size w0 w') : PB n w (.returned (.tuple #[v, .bool true])) w' :=
  ⟨v, S, by rw [hi], hS, fun c => by rw [hh c]; unfold propP; rw [hg], ownR_mono ho hb0.size, below_trans hb0 hb⟩

set_option maxRecDepth 100000 in
set_option maxHeartbeats 8000000 in
theorem property_any (n : ByteArray) (w : World) (hn : n.size ≤ maxLen) (hT : TabS w) : Calls Tryd.prog 33 #[.string n] w (PB n w) := by
  have HN := Lib.hid hn
  have hc : (w.alloc (.cells #[.string n] 9)).cell? ⟨w.heap.size, 0, none⟩ = some (.string n) := by rw [World.cell?_alloc_new]; rfl
  have HC := Lib.hid hc
  have HW := Lib.hid (below_alloc w (.cells #[.string n] 9))
  have HTT := Lib.hid hT
  clear hn hT hc
  go_enter Tryd.func33, Tryd.ntmps33
  go_upto_region 1 with (fail)
  generalize hw1 : w.alloc (.cells #[.string n] 9) = w1 at *
  generalize hB : w.heap.size = B at *
  have h0 : Below w1.heap.size w1 w1.drew := below_drew _
  have HPR := Lib.hid (fun u => properties_any u)
  refine wp_region_held_drew (S := fun w' => Below w1.heap.size w1 w') (by kernel_rfl) h0 (fun hHeld => ?_)
  refine wpAnyH_take (i := 1) (v := ?_) rfl (by kernel_rfl) (by kernel_rfl) (by kernel_rfl) (fun _ _ _ h => h) (Or.inl ⟨by rfl, ?_⟩) (by assumption) ?_
  rotate_left
  · intro w' hSw
    have d1 := below_cell hSw HC.out
    go_simp
    try rfl
  simp only [Act.put, List.setIfInBounds_toArray, List.set_cons_zero, List.set_cons_succ, List.getElem_toArray, List.getElem_cons_succ, List.getElem_cons_zero]
  refine wpAnyH_ready (rs := [0]) (by kernel_rfl) (by simp) ?_
  refine AllReadyH.cons rfl (fun K hK => ?_) AllReadyH.nil
  go_simp
  refine (HPR.out _).mono ?_
  rintro e w2 ⟨b, m, rfl, hm, hb2⟩
  have HM := Lib.hid hm
  have HB2 := Lib.hid (h0.trans (hb2.mono h0.size))
  clear hm hb2
  refine hK.out _ _ HB2.out (fun hHeld => ?_)
  clear hK K
  try simp only [Act.put, List.setIfInBounds_toArray, List.set_cons_zero, List.set_cons_succ, List.getElem_toArray, List.getElem_cons_succ, List.getElem_cons_zero]
  refine wpAnyH_ready (rs := [2]) (by kernel_rfl) (by simp) ?_
  refine AllReadyH.cons rfl (fun K hK => ?_) AllReadyH.nil
  refine held_lookup_v rfl 70 3 _ _ rfl Tryd.underlying70 (.int .i64 0) (zeroNum _) b m kindsV rfl HM.out n rfl HN.out ?_
  rw [kindsV_at]
  refine hK.out _ _ HB2.out (fun hHeld => ?_)
  clear hK K
  try simp only [Act.put, List.setIfInBounds_toArray, List.set_cons_zero, List.set_cons_succ, List.getElem_toArray, List.getElem_cons_succ, List.getElem_cons_zero]
  refine wpAnyH_done (by kernel_rfl) ?_ _
  have hcq := below_cell HB2.out HC.out
  have HBW := Lib.hid (show Below w.heap.size w w2 from below_trans (by rw [hB]; exact HW.out) HB2.out)
  have HTQ := Lib.hid (tabS_below HBW.out HTT.out)
  have HCQ := Lib.hid hcq
  clear h0 hHeld
  by_cases k1 : kind n = 1
  · rw [k1]
    have HI := Lib.hid (show isP n = true by unfold isP; rw [k1]; rfl)
    have HG := Lib.hid (show ∀ k s, hp n k s = true from fun k s => by unfold hp; rw [k1]; rfl)
    have HWH := Lib.hid (fun (u : World) (hT : TabS u) => where_any 56 #[] (fun _ _ => true) u hT (enters_of Tryd.func56 (by kernel_rfl) rfl) (fun c _ _ u1 _ => clo1_any c u1))
    go_wp2_with fail
    refine (HWH.out _ HTQ.out).mono ?_
    rintro e w3 ⟨v, S, rfl, hS, hh, ho, hb3⟩
    have HSC := Lib.hid hS
    have HH := Lib.hid hh
    have HO := Lib.hid ho
    have HB3 := Lib.hid hb3
    clear hS hh ho hb3
    go_wp2_with fail
    go_ret2
    exact pb_of (g := fun _ _ => true) HI.out HG.out HSC.out (fun c => by rw [HH.out c]; simp) HO.out HBW.out HB3.out
  by_cases k2 : kind n = 2
  · rw [k2]
    have HI := Lib.hid (show isP n = true by unfold isP; rw [k2]; rfl)
    have HG := Lib.hid (show ∀ k s, hp n k s = pre (catB k) n from fun k s => by unfold hp; rw [k2]; rfl)
    have HWH := Lib.hid (fun (u : World) (hT : TabS u) (hu : u.cell? ⟨B, 0, none⟩ = some (.string n)) => where_any 57 #[.pointer (some ⟨B, 0, none⟩)] (fun k _ => pre (catB k) n) u hT (enters_of Tryd.func57 (by kernel_rfl) rfl) (fun c h1 h2 u1 hb => clo2_any c n B u1 (below_cell hb hu) (by omega) (by omega)))
    go_wp2_with fail
    refine (HWH.out _ HTQ.out HCQ.out).mono ?_
    rintro e w3 ⟨v, S, rfl, hS, hh, ho, hb3⟩
    have HSC := Lib.hid hS
    have HH := Lib.hid hh
    have HO := Lib.hid ho
    have HB3 := Lib.hid hb3
    clear hS hh ho hb3
    go_wp2_with fail
    go_ret2
    exact pb_of HI.out HG.out HSC.out HH.out HO.out HBW.out HB3.out
  by_cases k3 : kind n = 3
  · rw [k3]
    have HI := Lib.hid (show isP n = true by unfold isP; rw [k3]; rfl)
    have HG := Lib.hid (show ∀ k s, hp n k s = cased (catB k) from fun k s => by unfold hp; rw [k3]; rfl)
    have HWH := Lib.hid (fun (u : World) (hT : TabS u) => where_any 60 #[] (fun k _ => cased (catB k)) u hT (enters_of Tryd.func60 (by kernel_rfl) rfl) (fun c h1 h2 u1 _ => clo3_any c u1 (by omega) (by omega)))
    go_wp2_with fail
    refine (HWH.out _ HTQ.out).mono ?_
    rintro e w3 ⟨v, S, rfl, hS, hh, ho, hb3⟩
    have HSC := Lib.hid hS
    have HH := Lib.hid hh
    have HO := Lib.hid ho
    have HB3 := Lib.hid hb3
    clear hS hh ho hb3
    go_wp2_with fail
    go_ret2
    exact pb_of HI.out HG.out HSC.out HH.out HO.out HBW.out HB3.out
  by_cases k4 : kind n = 4
  · rw [k4]
    have HI := Lib.hid (show isP n = true by unfold isP; rw [k4]; rfl)
    have HG := Lib.hid (show ∀ k s, hp n k s = decide (scrB s = n) from fun k s => by unfold hp; rw [k4]; rfl)
    have HWH := Lib.hid (fun (u : World) (hT : TabS u) (hu : u.cell? ⟨B, 0, none⟩ = some (.string n)) => where_any 62 #[.pointer (some ⟨B, 0, none⟩)] (fun _ s => decide (scrB s = n)) u hT (enters_of Tryd.func62 (by kernel_rfl) rfl) (fun c h1 h2 u1 hb => clo4_any c n B u1 (below_cell hb hu) (by omega) (by omega)))
    go_wp2_with fail
    refine (HWH.out _ HTQ.out HCQ.out).mono ?_
    rintro e w3 ⟨v, S, rfl, hS, hh, ho, hb3⟩
    have HSC := Lib.hid hS
    have HH := Lib.hid hh
    have HO := Lib.hid ho
    have HB3 := Lib.hid hb3
    clear hS hh ho hb3
    go_wp2_with fail
    go_ret2
    exact pb_of HI.out HG.out HSC.out HH.out HO.out HBW.out HB3.out
  have HI := Lib.hid (show isP n = false by unfold isP; simp [k1, k2, k3, k4])
  have HG := Lib.hid (show ∀ c, propP n c = false from fun c => by unfold propP hp; simp [k1, k2, k3, k4])
  generalize kind n = kd at *
  have e1 : (kd == 1) = false := by simp [k1]
  have e2 : (kd == 2) = false := by simp [k2]
  have e3 : (kd == 3) = false := by simp [k3]
  have e4 : (kd == 4) = false := by simp [k4]
  go_wp2_with fail
  go_ret2
  exact ⟨_, [], by rw [HI.out]; rfl, canon_nil, fun c => ⟨fun h => absurd h (has_nil _), fun h => by have := h.2.2; rw [HG.out] at this; cases this⟩, ownR_nil _ _, HBW.out⟩
end Go.Proofs.YtgdhhpbpbkgmeaaDoor.prw
