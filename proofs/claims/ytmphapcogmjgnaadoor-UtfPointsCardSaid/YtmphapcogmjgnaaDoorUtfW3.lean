/- The contracts of the document's answers for layer 1: Sequence, Of, At. -/
import Derived.Test.YtmphapcogmjgnaaDoorUtfW2
import Derived.Laws.BytesArg
import Derived.Deep.RegionWith
import Derived.Deep.DeepCutAuto
import Derived.Deep.CutBlock
namespace Go.Proofs.YtmphapcogmjgnaaDoor.utfw
open Go Go.RowKit Go.Proofs.YtmphapcogmjgnaaDoor.utfp

theorem cell_lt {w : World} {a : Addr} {v : Value} (h : w.cell? a = some v) : a.block < w.heap.size := by
  apply Classical.byContradiction
  intro hn
  have : w.heap[a.block]? = none := by simp; omega
  unfold World.cell? at h
  rw [this] at h
  simp at h
theorem below_cell {w w' : World} (h : Below w.heap.size w w') {a : Addr} {v : Value} (hc : w.cell? a = some v) : w'.cell? a = some v := by
  rw [h.cell (cell_lt hc)]; exact hc
theorem below_sl {w w' : World} (h : Below w.heap.size w w') {v : Value} {n : Nat} {g : Nat → Int} (hs : Sl w v n g) : Sl w' v n g := by
  obtain ⟨h1, h2, h3⟩ := hs
  refine ⟨h1, h2, ?_⟩
  rcases h3 with h3 | ⟨b, off, cap, h3, h4, h5⟩
  · exact Or.inl h3
  · exact Or.inr ⟨b, off, cap, h3, h4, fun i hi => below_cell h (h5 i hi)⟩
theorem below_tabs {w w' : World} (h : Below w.heap.size w w') (hT : Tabs w) : Tabs w' := ⟨fun x a b => below_cell h (hT.1 x a b), fun x a b => below_cell h (hT.2 x a b)⟩
theorem drawn_below {w w' : World} (h : Drawn w w') : Below w.heap.size w w' := by
  obtain ⟨k, rfl⟩ := h
  exact ⟨rfl, rfl, rfl, Nat.le_refl _, fun _ _ => rfl⟩
theorem below_trans {a b c : World} (h : Below a.heap.size a b) (k : Below b.heap.size b c) : Below a.heap.size a c := h.trans (k.mono h.size)

/-- the bytes of a list, by their places -/
def at_ (l : List Int) : Nat → Int := fun i => l.getD i 0
/-- new bytes -/
def NewPost (l : List Int) (w : World) (e : Ending) (w' : World) : Prop := ∃ v, e = .returned v ∧ Sl w' v l.length (at_ l) ∧ Below w.heap.size w w'

theorem at_bytes {l : List Int} (h : ∀ x ∈ l, 0 ≤ x ∧ x ≤ 255) : ∀ i, 0 ≤ at_ l i ∧ at_ l i ≤ 255 := by
  intro i
  unfold at_
  by_cases hi : i < l.length
  · simp only [List.getD, List.getElem?_eq_getElem hi, Option.getD_some]
    exact h _ (List.getElem_mem hi)
  · simp [List.getD, List.getElem?_eq_none (Nat.le_of_not_lt hi)]
theorem sl_alloc (w : World) (T : TypeId) (l : List Int) (h : ∀ x ∈ l, 0 ≤ x ∧ x ≤ 255) (hl : l.length ≤ 4) :
    Sl (w.alloc (.cells (l.map (Value.int .u8)).toArray T)) (.slice (some ⟨w.heap.size, 0, none⟩) l.length l.length) l.length (at_ l) := by
  refine ⟨at_bytes h, by omega, Or.inr ⟨_, _, _, rfl, ⟨by omega, by omega⟩, fun i hi => ?_⟩⟩
  rw [World.cell?_alloc_new]
  simp [at_, List.getD, hi]
theorem newPost_alloc {l l' : List Int} {w : World} (T : TypeId) (he : l' = l) (h : ∀ x ∈ l, 0 ≤ x ∧ x ≤ 255) (hl : l.length ≤ 4) :
    NewPost l' w (.returned (.slice (some ⟨w.heap.size, 0, none⟩) l.length l.length)) (w.alloc (.cells (l.map (Value.int .u8)).toArray T)) := by
  subst he
  exact ⟨_, rfl, sl_alloc w T l' h hl, (Below.refl _ _).alloc (Nat.le_refl _) _⟩
theorem newPost_nil {l : List Int} {w w' : World} (he : l = []) (hb : Below w.heap.size w w') : NewPost l w (.returned (.slice none 0 0)) w' := by
  subst he
  exact ⟨_, rfl, ⟨at_bytes (by simp), by simp, Or.inl ⟨rfl, _, _, rfl, by omega⟩⟩, hb⟩

theorem enc0 {c : Int} (h : c < 0 ∨ 1114111 < c ∨ (55296 ≤ c ∧ c ≤ 57343)) : enc c = [] := by unfold enc; rw [if_pos h]
theorem enc1 {c : Int} (h1 : 0 ≤ c) (h2 : c < 128) : enc c = [c] := by unfold enc; rw [if_neg (by omega), if_pos (by omega)]
theorem enc2 {c : Int} (h1 : 128 ≤ c) (h2 : c < 2048) : enc c = [192 + c / 64, 128 + c % 64] := by unfold enc; rw [if_neg (by omega), if_neg (by omega), if_pos (by omega)]
theorem enc3 {c : Int} (h1 : 2048 ≤ c) (h2 : c < 65536) (h3 : c < 55296 ∨ 57343 < c) : enc c = [224 + c / 4096, 128 + c / 64 % 64, 128 + c % 64] := by unfold enc; rw [if_neg (by omega), if_neg (by omega), if_neg (by omega), if_pos (by omega)]
theorem enc4 {c : Int} (h1 : 65536 ≤ c) (h2 : c ≤ 1114111) : enc c = [240 + c / 262144, 128 + c / 4096 % 64, 128 + c / 64 % 64, 128 + c % 64] := by unfold enc; rw [if_neg (by omega), if_neg (by omega), if_neg (by omega), if_neg (by omega)]

set_option maxHeartbeats 1000000 in
theorem seqc_any (c : Int) (w : World) : Calls Tryd.prog 26 #[.int .i64 c] w (NewPost (enc c) w) := by
  have hb := enc_bytes c
  have hB := Lib.hid hb
  clear hb
  rcases wid_cases c with ⟨hw, h⟩ | ⟨hw, h1, h2⟩ | ⟨hw, h1, h2⟩ | ⟨hw, h1, h2, h3⟩ | ⟨hw, h1, h2⟩
  · have HE := Lib.hid (enc0 h)
    clear hw
    rcases h with h | h | ⟨h1, h2⟩
    all_goals
      go_enter Tryd.func26, Tryd.ntmps26
      go_wp2
      all_goals (go_ret; exact newPost_nil HE.out (Below.refl _ _))
  · have HE := Lib.hid (enc1 h1 h2)
    clear hw
    go_enter Tryd.func26, Tryd.ntmps26
    go_wp2
    go_ret
    exact newPost_alloc (l := [c]) 5 HE.out (by rw [← HE.out]; exact hB.out) (by simp)
  · have HE := Lib.hid (enc2 h1 h2)
    clear hw
    go_enter Tryd.func26, Tryd.ntmps26
    go_wp2
    go_ret
    exact newPost_alloc (l := [192 + c / 64, 128 + c % 64]) 5 HE.out (by rw [← HE.out]; exact hB.out) (by simp)
  · have HE := Lib.hid (enc3 h1 h2 h3)
    clear hw
    rcases h3 with h3 | h3
    all_goals
      go_enter Tryd.func26, Tryd.ntmps26
      go_wp2
      go_ret
      exact newPost_alloc (l := [224 + c / 4096, 128 + c / 64 % 64, 128 + c % 64]) 5 HE.out (by rw [← HE.out]; exact hB.out) (by simp)
  · have HE := Lib.hid (enc4 h1 h2)
    clear hw
    go_enter Tryd.func26, Tryd.ntmps26
    go_wp2
    go_ret
    exact newPost_alloc (l := [240 + c / 262144, 128 + c / 4096 % 64, 128 + c / 64 % 64, 128 + c % 64]) 5 HE.out (by rw [← HE.out]; exact hB.out) (by simp)

/-- the bytes of a slice as a string -/
def strOf (n : Nat) (g : Nat → Int) : ByteArray := strOfNums ((List.range n).map g)
theorem conv_zero (w : World) (a : Option Addr) (c : Nat) (g : Nat → Int) : (convert 22 9 (.slice a 0 c)).run Tryd.prog w = .ok (.string (strOf 0 g)) w := by
  rw [show strOf 0 g = ByteArray.empty from rfl, run_convert_bytes_string w 22 9 5 _ 0 c Tryd.underlying22 Tryd.underlying5 Tryd.underlying9]
  cases a <;> simp [Conv.bytesToString, loadCells, loadCellsFrom]
theorem conv_sl {w : World} {v : Value} {n : Nat} {g : Nat → Int} (h : Sl w v n g) :
    (convert 22 9 v).run Tryd.prog w = .ok (.string (strOf n g)) w := by
  obtain ⟨_, _, h3⟩ := h
  rcases h3 with ⟨rfl, a0, c0, rfl, _⟩ | ⟨b, off, cap, rfl, _, hc⟩
  · exact conv_zero w a0 c0 g
  · refine run_convert_bytes_arg w 22 5 Tryd.underlying22 Tryd.underlying5 b off n cap ((List.range n).map g) (by simp) (fun i hi => ?_) 9 Tryd.underlying9
    rw [hc i hi]
    simp [List.getD, hi]

/-- the code point that n bytes make, if they are a sequence -/
def combo (n : Nat) (g : Nat → Int) : Int :=
  if n = 1 then g 0 else if n = 2 then (g 0 - 192) * 64 + g 1 - 128 else if n = 3 then (g 0 - 224) * 4096 + (g 1 - 128) * 64 + g 2 - 128 else (g 0 - 240) * 262144 + (g 1 - 128) * 4096 + (g 2 - 128) * 64 + g 3 - 128
/-- the code point of bytes that are just one sequence; -1: they are none -/
def ofP (n : Nat) (g : Nat → Int) : Int := if enc (combo n g) = (List.range n).map g then combo n g else -1
/-- a number, and a world in which nothing of what was there has turned -/
def IntPost (r : Int) (w : World) (e : Ending) (w' : World) : Prop := e = .returned (.int .i64 r) ∧ Below w.heap.size w w'

theorem strOf_at (l : List Int) : strOf l.length (at_ l) = strOfNums l := by
  unfold strOf
  congr 1
  apply List.ext_getElem
  · simp
  · intro i h1 h2
    simp [at_, List.getD, h2]
theorem strOfNums_inj {l l' : List Int} (h : ∀ x ∈ l, 0 ≤ x ∧ x ≤ 255) (h' : ∀ x ∈ l', 0 ≤ x ∧ x ≤ 255) (e : strOfNums l = strOfNums l') : l = l' := by
  have e2 : (l.map fun n => UInt8.ofNat n.toNat) = l'.map fun n => UInt8.ofNat n.toNat := by
    have := congrArg (fun s : ByteArray => s.data.toList) e
    simpa [strOfNums] using this
  clear e
  induction l generalizing l' with
  | nil => cases l' with
    | nil => rfl
    | cons y l' => simp at e2
  | cons x l ih =>
    cases l' with
    | nil => simp at e2
    | cons y l' =>
      simp only [List.map_cons, List.cons.injEq] at e2
      obtain ⟨e1, e2⟩ := e2
      have hx := h x (by simp)
      have hy := h' y (by simp)
      have e3 := congrArg UInt8.toNat e1
      simp only [UInt8.toNat_ofNat'] at e3
      have : x = y := by omega
      subst this
      rw [ih (fun z hz => h z (by simp [hz])) (fun z hz => h' z (by simp [hz])) e2]
theorem strOf_eq {l : List Int} {n : Nat} {g : Nat → Int} (hl : ∀ x ∈ l, 0 ≤ x ∧ x ≤ 255) (hg : ∀ i, 0 ≤ g i ∧ g i ≤ 255) : strOf l.length (at_ l) = strOf n g ↔ l = (List.range n).map g := by
  rw [strOf_at]
  constructor
  · intro h
    exact strOfNums_inj hl (by simp only [List.mem_map]; rintro x ⟨i, _, rfl⟩; exact hg i) h
  · rintro rfl
    rfl
theorem toList_inj {s s' : ByteArray} (h : s.toList = s'.toList) : s = s' := by
  rw [ByteArray.toList_eq, ByteArray.toList_eq] at h
  cases s
  cases s'
  congr
  exact Array.toList_inj.1 h
/-- the two strings that Of holds against each other -/
theorem of_strings {n : Nat} {g : Nat → Int} {c : Int} (hg : ∀ i, 0 ≤ g i ∧ g i ≤ 255) (hc : combo n g = c) :
    (ofP n g = c ∧ strOf (enc c).length (at_ (enc c)) = strOf n g) ∨ (ofP n g = -1 ∧ ((strOf (enc c).length (at_ (enc c))).toList == (strOf n g).toList) = false) := by
  unfold ofP
  rw [hc]
  have := strOf_eq (n := n) (enc_bytes c) hg
  by_cases h : enc c = (List.range n).map g
  · exact Or.inl ⟨if_pos h, this.2 h⟩
  · exact Or.inr ⟨if_neg h, beq_eq_false_iff_ne.2 fun e => h (this.1 (toList_inj e))⟩

theorem intPost {r a : Int} {w w' : World} (h : r = a) (hb : Below w.heap.size w w') : IntPost r w (.returned (.int .i64 a)) w' := by
  rw [h]; exact ⟨rfl, hb⟩
theorem combo_bd {n : Nat} {g : Nat → Int} (hg : ∀ i, 0 ≤ g i ∧ g i ≤ 255) : -9223372036854775808 ≤ combo n g ∧ combo n g ≤ 9223372036854775807 := by
  have h0 := hg 0
  have h1 := hg 1
  have h2 := hg 2
  have h3 := hg 3
  unfold combo
  repeat' split
  all_goals omega

end Go.Proofs.YtmphapcogmjgnaaDoor.utfw
