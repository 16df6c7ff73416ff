/- The contract of the document's Of at one to four bytes: a code point, or -1. -/
import Derived.Test.YtmphapcogmjgnaaDoorUtfW3
import Derived.Deep.RegionWith
namespace Go.Proofs.YtmphapcogmjgnaaDoor.utfw
open Go Go.RowKit Go.Proofs.YtmphapcogmjgnaaDoor.utfp
set_option maxRecDepth 100000 in
set_option maxHeartbeats 4000000 in
theorem of_any (b off n cap : Nat) (g : Nat → Int) (hn : n = 1 ∨ n = 2 ∨ n = 3 ∨ n = 4) (w : World) (hg : ∀ i, 0 ≤ g i ∧ g i ≤ 255) (hcap : n ≤ cap ∧ cap ≤ 9223372036854775807)
    (hc : ∀ i, i < n → w.cell? ⟨b, off + i, none⟩ = some (.int .u8 (g i))) :
    Calls Tryd.prog 24 #[.slice (some ⟨b, off, none⟩) n cap] w (IntPost (ofP n g) w) := by
  have hsl : Sl w (.slice (some ⟨b, off, none⟩) n cap) n g := ⟨hg, by omega, Or.inr ⟨_, _, _, rfl, hcap, hc⟩⟩
  have HSC := Lib.hid (of_strings (n := n) hg rfl)
  have HS := Lib.hid hsl
  have Hn := Lib.hid hn
  have Hg := Lib.hid hg
  have Hc := Lib.hid hc
  have hn1 : 1 ≤ n := by omega
  have hn4 : n ≤ 4 := by omega
  have hc0 := hc 0 (by omega)
  simp only [Nat.add_zero] at hc0
  clear hc hg hsl hn
  go_enter Tryd.func24, Tryd.ntmps24
  go_upto_block 0 with (fail)
  go_cut [3] (fun c wx => c = .int .i64 (combo n g) ∧ Drawn w wx)
  case first =>
    rcases Hn.out with h | h | h | h
    · have t1 : ((n : Int) == 1) = true := by simp [h]
      have hcb : combo n g = g 0 := by rw [h]; rfl
      have HC := Lib.hid hcb
      have hb0 := Hg.out 0
      obtain ⟨a0, b0⟩ := hb0
      have HH := Lib.hid h
      clear h hcb hn4
      go_wp2
      go_meet
      exact ⟨by rw [HC.out], Drawn.refl _⟩
    · have t1 : ((n : Int) == 1) = false := by simp [h]
      have t2 : ((n : Int) == 2) = true := by simp [h]
      have hcb : combo n g = (g 0 - 192) * 64 + g 1 - 128 := by rw [h]; rfl
      have HC := Lib.hid hcb
      have hb0 := Hg.out 0
      have hb1 := Hg.out 1
      have hc1 := Hc.out 1 (by omega)
      have i1 : (1 : Int) < n := by omega
      obtain ⟨a0, b0⟩ := hb0
      obtain ⟨a1, b1⟩ := hb1
      have HH := Lib.hid h
      clear h hcb hn4
      go_wp2
      go_quiet (fail)
      go_wp2
      go_meet
      exact ⟨by rw [HC.out], by repeat (first | exact Drawn.refl _ | apply Drawn.drewN | apply Drawn.drew)⟩
    · have t1 : ((n : Int) == 1) = false := by simp [h]
      have t2 : ((n : Int) == 2) = false := by simp [h]
      have t3 : ((n : Int) == 3) = true := by simp [h]
      have hcb : combo n g = (g 0 - 224) * 4096 + (g 1 - 128) * 64 + g 2 - 128 := by rw [h]; rfl
      have HC := Lib.hid hcb
      have hb0 := Hg.out 0
      have hb1 := Hg.out 1
      have hb2 := Hg.out 2
      have hc1 := Hc.out 1 (by omega)
      have hc2 := Hc.out 2 (by omega)
      have i1 : (1 : Int) < n := by omega
      have i2 : (2 : Int) < n := by omega
      obtain ⟨a0, b0⟩ := hb0
      obtain ⟨a1, b1⟩ := hb1
      obtain ⟨a2, b2⟩ := hb2
      have HH := Lib.hid h
      clear h hcb hn4
      go_wp2
      go_quiet (fail)
      go_wp2
      go_meet
      exact ⟨by rw [HC.out], by repeat (first | exact Drawn.refl _ | apply Drawn.drewN | apply Drawn.drew)⟩
    · have t1 : ((n : Int) == 1) = false := by simp [h]
      have t2 : ((n : Int) == 2) = false := by simp [h]
      have t3 : ((n : Int) == 3) = false := by simp [h]
      have t4 : ((n : Int) == 4) = true := by simp [h]
      have hcb : combo n g = (g 0 - 240) * 262144 + (g 1 - 128) * 4096 + (g 2 - 128) * 64 + g 3 - 128 := by rw [h]; rfl
      have HC := Lib.hid hcb
      have hb0 := Hg.out 0
      have hb1 := Hg.out 1
      have hb2 := Hg.out 2
      have hb3 := Hg.out 3
      have hc1 := Hc.out 1 (by omega)
      have hc2 := Hc.out 2 (by omega)
      have hc3 := Hc.out 3 (by omega)
      have i1 : (1 : Int) < n := by omega
      have i2 : (2 : Int) < n := by omega
      have i3 : (3 : Int) < n := by omega
      obtain ⟨a0, b0⟩ := hb0
      obtain ⟨a1, b1⟩ := hb1
      obtain ⟨a2, b2⟩ := hb2
      obtain ⟨a3, b3⟩ := hb3
      have HH := Lib.hid h
      clear h hcb hn4
      go_wp2
      go_quiet (fail)
      go_wp2
      go_meet
      exact ⟨by rw [HC.out], by repeat (first | exact Drawn.refl _ | apply Drawn.drewN | apply Drawn.drew)⟩
  case rest =>
    obtain ⟨rfl, hd⟩ := hcut
    have hSC := HSC.out
    generalize hF : strOf n g = s2 at *
    generalize hE : strOf (enc (combo n g)).length (at_ (enc (combo n g))) = s1 at *
    generalize ofP n g = R at *
    generalize combo n g = c at *
    have HE := Lib.hid hE
    have HF := Lib.hid hF
    have hne0 : ((n : Int) == 0) = false := by simp; omega
    have hs5 : (convert 22 9 (.slice (some ⟨b, off, none⟩) n cap)).run Tryd.prog wc.drew = .ok (.string s2) wc.drew := by
      rw [← HF.out]
      exact conv_sl (hd.drew.sl HS.out)
    clear hE hF hn1 hn4 hc0 HSC Hn Hg Hc hcap
    rcases hSC with ⟨hR, rfl⟩ | ⟨rfl, hne⟩
    · have HR := Lib.hid hR
      clear hR
      go_wp2_with (fail)
      first
        | go_region_with (go_at_call 26; refine (seqc_any _ _).mono ?_; rintro e w' ⟨v, rfl, hv, hb⟩; have hs1 := conv_sl (below_sl (below_trans (drawn_below hd.drew) hb) HS.out); rw [HF.out] at hs1; have hs2 := conv_sl hv; rw [HE.out] at hs2)
        | done
      all_goals
        (try simp only [Act.put, List.setIfInBounds_toArray])
        go_wp2
        go_ret
        exact intPost HR.out (below_trans (drawn_below hd.drew) hb)
    · go_wp2_with (fail)
      first
        | go_region_with (go_at_call 26; refine (seqc_any _ _).mono ?_; rintro e w' ⟨v, rfl, hv, hb⟩; have hs1 := conv_sl (below_sl (below_trans (drawn_below hd.drew) hb) HS.out); rw [HF.out] at hs1; have hs2 := conv_sl hv; rw [HE.out] at hs2)
        | done
      all_goals
        (try simp only [Act.put, List.setIfInBounds_toArray])
        go_wp2
        go_ret
        exact intPost rfl (below_trans (drawn_below hd.drew) hb)
end Go.Proofs.YtmphapcogmjgnaaDoor.utfw
