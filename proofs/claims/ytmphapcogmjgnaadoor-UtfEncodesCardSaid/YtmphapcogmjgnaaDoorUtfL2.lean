/- The contract of the document's Encode for layer 1, and the walk of the law UtfEncodes. -/
import Derived.Test.YtmphapcogmjgnaaDoorUtfW5
import Derived.Test.YtmphapcogmjgnaaDoorUtfW6
namespace Go.Proofs.YtmphapcogmjgnaaDoor.utfw
open Go Go.RowKit Go.Proofs.YtmphapcogmjgnaaDoor.utfp

set_option maxHeartbeats 1000000 in
theorem rencode_any (c : Int) (u : Bool) (w : World) : Calls Tryd.prog 21 #[.int .i64 c, .bool u] w (EncPost (encP u c) w) := by
  cases u with
  | false =>
    by_cases h1 : c < 0
    · have HE := Lib.hid (show encP false c = [] by simp [encP, h1])
      go_enter Tryd.func21, Tryd.ntmps21
      go_wp2
      go_ret2
      exact encPost_nil HE.out (Below.refl _ _)
    by_cases h2 : 255 < c
    · have HE := Lib.hid (show encP false c = [] by simp [encP, h2])
      go_enter Tryd.func21, Tryd.ntmps21
      go_wp2
      go_ret2
      exact encPost_nil HE.out (Below.refl _ _)
    have HE := Lib.hid (show encP false c = [c] by unfold encP; rw [if_neg (by simp), if_neg (by omega)])
    go_enter Tryd.func21, Tryd.ntmps21
    go_wp2
    go_ret2
    exact encPost_alloc (l := [c]) 5 HE.out (by simp; omega) (by simp) (by simp)
  | true =>
    rw [show encP true c = enc c from by simp [encP]]
    have HC := Lib.hid (seqc_any c w)
    generalize enc c = l at *
    cases l with
    | nil =>
      go_enter Tryd.func21, Tryd.ntmps21
      go_wp2_with fail
      refine HC.out.mono ?_
      rintro e w' ⟨v, rfl, hv, hb⟩
      obtain ⟨_, _, hv | ⟨b, off, cap, hv, _⟩⟩ := hv
      · obtain ⟨_, a0, c0, hv, _⟩ := hv
        rw [hv]
        go_wp2_with fail
        go_ret2
        exact encPost_nil rfl hb
      · rw [hv]
        go_wp2_with fail
        go_ret2
        exact encPost_nil rfl hb
    | cons x l =>
      have hne : ((l.length : Int) + 1 == 0) = false := by simp; omega
      go_enter Tryd.func21, Tryd.ntmps21
      go_wp2_with fail
      refine HC.out.mono ?_
      rintro e w' ⟨v, rfl, hv, hb⟩
      have HV := Lib.hid hv
      obtain ⟨_, _, hv | ⟨b, off, cap, hv, _⟩⟩ := hv
      · simp at hv
      · have HVe := Lib.hid hv
        rw [hv]
        clear hv
        simp only [List.length_cons]
        go_wp2_with fail
        go_ret2
        refine ⟨_, rfl, ?_, hb⟩
        have := HV.out
        rw [HVe.out] at this
        exact this
end Go.Proofs.YtmphapcogmjgnaaDoor.utfw
