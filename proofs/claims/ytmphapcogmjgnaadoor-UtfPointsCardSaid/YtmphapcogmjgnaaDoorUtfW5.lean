/- The contract of package utf's Encode: the document's bytes, or it is refused. -/
import Derived.Test.YtmphapcogmjgnaaDoorUtfW3
import Derived.LoopN
import Derived.Deep.RegionHeld
namespace Go.Proofs.YtmphapcogmjgnaaDoor.utfw
open Go Go.RowKit Go.Proofs.YtmphapcogmjgnaaDoor.utfp

/-- a number's bytes, with utf or without -/
def encP (u : Bool) (c : Int) : List Int := if u = true then enc c else if c < 0 ∨ 255 < c then [] else [c]
/-- bytes, and an error's number -/
def EncPost (l : List Int) (w : World) (e : Ending) (w' : World) : Prop := ∃ v, e = .returned (.tuple #[v, .int .i64 (if l = [] then 1 else 0)]) ∧ Sl w' v l.length (at_ l) ∧ Below w.heap.size w w'
theorem encPost_nil {l : List Int} {w w' : World} (he : l = []) (hb : Below w.heap.size w w') : EncPost l w (.returned (.tuple #[.slice none 0 0, .int .i64 1])) w' := by
  subst he
  exact ⟨_, rfl, ⟨at_bytes (by simp), by simp, Or.inl ⟨rfl, _, _, rfl, by omega⟩⟩, hb⟩
theorem encPost_alloc {l l' : List Int} {w : World} (T : TypeId) (he : l' = l) (h : ∀ x ∈ l, 0 ≤ x ∧ x ≤ 255) (hl : l.length ≤ 4) (hne : l ≠ []) :
    EncPost l' w (.returned (.tuple #[.slice (some ⟨w.heap.size, 0, none⟩) l.length l.length, .int .i64 0])) (w.alloc (.cells (l.map (Value.int .u8)).toArray T)) := by
  subst he
  refine ⟨_, ?_, sl_alloc w T l' h hl, (Below.refl _ _).alloc (Nat.le_refl _) _⟩
  rw [if_neg hne]

set_option maxRecDepth 100000 in
set_option maxHeartbeats 2000000 in
theorem encode_1 (c : Int) (w : World) (h1 : 0 ≤ c) (h2 : c < 128) (hw : wid c = 1) (hT : Tabs w) : Calls Tryd.prog 20 #[.int .i64 c, .bool true] w (EncPost (enc c) w) := by
  have HE := Lib.hid (enc1 h1 h2)
  have HB := Lib.hid (enc_bytes c)
  have hh0 := hT.2 1 (by omega) (by omega)
  rw [show head0 1 = 0 from rfl] at hh0
  simp only [show (1 : Int).toNat = 1 from rfl] at hh0
  have hh := fun o => (World.cell?_alloc_some w _ o (by rw [hh0]; rfl)).trans hh0
  have C := fun w => width_any c w
  rw [hw] at C
  have HC := Lib.hid C
  have hmk : ∀ w, (Instr.makeSlice 22 (.int .i64 1) (.int .i64 1)).run Tryd.prog w = .ok (.slice (some ⟨w.heap.size, 0, none⟩) 1 1) (w.alloc (.cells #[.int .u8 0] 5)) := fun _ => by kernel_rfl
  clear hT C hw hh0
  go_enter Tryd.func20, Tryd.ntmps20
  go_wp2_with (go_at_call 25; refine (HC.out _).mono ?_; rintro e w' ⟨rfl, rfl⟩)
  refine wp_loop_rounds 1 ?_
  rw [rounds_succ]
  go_wp2
  go_ret2
  exact encPost_alloc (l := [c]) 5 HE.out (by rw [← HE.out]; exact HB.out) (by simp) (by simp)
set_option maxRecDepth 100000 in
set_option maxHeartbeats 2000000 in
theorem encode_2 (c : Int) (w : World) (h1 : 128 ≤ c) (h2 : c < 2048) (hw : wid c = 2) (hT : Tabs w) : Calls Tryd.prog 20 #[.int .i64 c, .bool true] w (EncPost (enc c) w) := by
  have HE := Lib.hid (enc2 h1 h2)
  have HB := Lib.hid (enc_bytes c)
  have hh0 := hT.2 2 (by omega) (by omega)
  rw [show head0 2 = 192 from rfl] at hh0
  simp only [show (2 : Int).toNat = 2 from rfl] at hh0
  have hh := fun o => (World.cell?_alloc_some w _ o (by rw [hh0]; rfl)).trans hh0
  have C := fun w => width_any c w
  rw [hw] at C
  have HC := Lib.hid C
  have hmk : ∀ w, (Instr.makeSlice 22 (.int .i64 2) (.int .i64 2)).run Tryd.prog w = .ok (.slice (some ⟨w.heap.size, 0, none⟩) 2 2) (w.alloc (.cells #[.int .u8 0, .int .u8 0] 5)) := fun _ => by kernel_rfl
  clear hT C hw hh0
  go_enter Tryd.func20, Tryd.ntmps20
  go_wp2_with (go_at_call 25; refine (HC.out _).mono ?_; rintro e w' ⟨rfl, rfl⟩)
  refine wp_loop_rounds 2 ?_
  rw [rounds_succ]
  go_wp2
  rw [rounds_succ]
  go_wp2
  go_ret2
  exact encPost_alloc (l := [192 + c / 64, 128 + c % 64]) 5 HE.out (by rw [← HE.out]; exact HB.out) (by simp) (by simp)
set_option maxRecDepth 100000 in
set_option maxHeartbeats 2000000 in
theorem encode_3 (c : Int) (w : World) (h1 : 2048 ≤ c) (h2 : c < 65536) (h3 : c < 55296 ∨ 57343 < c) (hw : wid c = 3) (hT : Tabs w) : Calls Tryd.prog 20 #[.int .i64 c, .bool true] w (EncPost (enc c) w) := by
  have HE := Lib.hid (show enc c = [224 + c / 64 / 64, 128 + c / 64 % 64, 128 + c % 64] by rw [enc3 h1 h2 h3]; simp only [List.cons.injEq, and_true]; omega)
  have HB := Lib.hid (enc_bytes c)
  have hh0 := hT.2 3 (by omega) (by omega)
  rw [show head0 3 = 224 from rfl] at hh0
  simp only [show (3 : Int).toNat = 3 from rfl] at hh0
  have hh := fun o => (World.cell?_alloc_some w _ o (by rw [hh0]; rfl)).trans hh0
  have C := fun w => width_any c w
  rw [hw] at C
  have HC := Lib.hid C
  have hmk : ∀ w, (Instr.makeSlice 22 (.int .i64 3) (.int .i64 3)).run Tryd.prog w = .ok (.slice (some ⟨w.heap.size, 0, none⟩) 3 3) (w.alloc (.cells #[.int .u8 0, .int .u8 0, .int .u8 0] 5)) := fun _ => by kernel_rfl
  clear hT C hw hh0 h3
  go_enter Tryd.func20, Tryd.ntmps20
  go_wp2_with (go_at_call 25; refine (HC.out _).mono ?_; rintro e w' ⟨rfl, rfl⟩)
  refine wp_loop_rounds 3 ?_
  rw [rounds_succ]
  go_wp2
  rw [rounds_succ]
  go_wp2
  rw [rounds_succ]
  go_wp2
  go_ret2
  exact encPost_alloc (l := [224 + c / 64 / 64, 128 + c / 64 % 64, 128 + c % 64]) 5 HE.out (by rw [← HE.out]; exact HB.out) (by simp) (by simp)
set_option maxRecDepth 100000 in
set_option maxHeartbeats 2000000 in
theorem encode_4 (c : Int) (w : World) (h1 : 65536 ≤ c) (h2 : c ≤ 1114111) (hw : wid c = 4) (hT : Tabs w) : Calls Tryd.prog 20 #[.int .i64 c, .bool true] w (EncPost (enc c) w) := by
  have HE := Lib.hid (show enc c = [240 + c / 64 / 64 / 64, 128 + c / 64 / 64 % 64, 128 + c / 64 % 64, 128 + c % 64] by rw [enc4 h1 h2]; simp only [List.cons.injEq, and_true]; omega)
  have HB := Lib.hid (enc_bytes c)
  have hh0 := hT.2 4 (by omega) (by omega)
  rw [show head0 4 = 240 from rfl] at hh0
  simp only [show (4 : Int).toNat = 4 from rfl] at hh0
  have hh := fun o => (World.cell?_alloc_some w _ o (by rw [hh0]; rfl)).trans hh0
  have C := fun w => width_any c w
  rw [hw] at C
  have HC := Lib.hid C
  have hmk : ∀ w, (Instr.makeSlice 22 (.int .i64 4) (.int .i64 4)).run Tryd.prog w = .ok (.slice (some ⟨w.heap.size, 0, none⟩) 4 4) (w.alloc (.cells #[.int .u8 0, .int .u8 0, .int .u8 0, .int .u8 0] 5)) := fun _ => by kernel_rfl
  clear hT C hw hh0
  go_enter Tryd.func20, Tryd.ntmps20
  go_wp2_with (go_at_call 25; refine (HC.out _).mono ?_; rintro e w' ⟨rfl, rfl⟩)
  refine wp_loop_rounds 4 ?_
  rw [rounds_succ]
  go_wp2
  rw [rounds_succ]
  go_wp2
  rw [rounds_succ]
  go_wp2
  rw [rounds_succ]
  go_wp2
  go_ret2
  exact encPost_alloc (l := [240 + c / 64 / 64 / 64, 128 + c / 64 / 64 % 64, 128 + c / 64 % 64, 128 + c % 64]) 5 HE.out (by rw [← HE.out]; exact HB.out) (by simp) (by simp)

set_option maxHeartbeats 1000000 in
theorem encode_any (c : Int) (u : Bool) (w : World) (hT : Tabs w) : Calls Tryd.prog 20 #[.int .i64 c, .bool u] w (EncPost (encP u c) w) := by
  cases u with
  | false =>
    by_cases h1 : c < 0
    · have HE := Lib.hid (show encP false c = [] by simp [encP, h1])
      clear hT
      go_enter Tryd.func20, Tryd.ntmps20
      go_wp2
      go_ret2
      exact encPost_nil HE.out (Below.refl _ _)
    by_cases h2 : 255 < c
    · have HE := Lib.hid (show encP false c = [] by simp [encP, h2])
      clear hT
      go_enter Tryd.func20, Tryd.ntmps20
      go_wp2
      go_ret2
      exact encPost_nil HE.out (Below.refl _ _)
    have HE := Lib.hid (show encP false c = [c] by unfold encP; rw [if_neg (by simp), if_neg (by omega)])
    clear hT
    go_enter Tryd.func20, Tryd.ntmps20
    go_wp2
    go_ret2
    exact encPost_alloc (l := [c]) 5 HE.out (by simp; omega) (by simp) (by simp)
  | true =>
    rw [show encP true c = enc c from by simp [encP]]
    rcases wid_cases c with ⟨hw, h⟩ | ⟨hw, h1, h2⟩ | ⟨hw, h1, h2⟩ | ⟨hw, h1, h2, h3⟩ | ⟨hw, h1, h2⟩
    · have HE := Lib.hid (enc0 h)
      have C := fun w => width_any c w
      rw [hw] at C
      have HC := Lib.hid C
      clear hT C hw h
      go_enter Tryd.func20, Tryd.ntmps20
      go_wp2_with (go_at_call 25; refine (HC.out _).mono ?_; rintro e w' ⟨rfl, rfl⟩)
      go_ret2
      exact encPost_nil HE.out (Below.refl _ _)
    · exact encode_1 c w h1 h2 hw hT
    · exact encode_2 c w h1 h2 hw hT
    · exact encode_3 c w h1 h2 h3 hw hT
    · exact encode_4 c w h1 h2 hw hT
end Go.Proofs.YtmphapcogmjgnaaDoor.utfw
