/- Layer 4, plain: where category or script change; the names of properties and of POSIX classes, and what they have. -/
import Derived.Test.YtgdhhpbpbkgmeaaDoorUcdPure
import Derived.Test.YtgdhhpbpbkgmeaaDoorSetsPure
namespace Go.Proofs.YtgdhhpbpbkgmeaaDoor.prp
open Go.Proofs.YtgdhhpbpbkgmeaaDoor.ucdp Go.Proofs.YtgdhhpbpbkgmeaaDoor.setp

/-- the program's table of numbers at which category or script change -/
def starts : List Int := [0, 32, 33, 36, 37, 40, 41, 42, 43, 44, 45, 46, 48, 58, 60, 63, 65, 91, 92, 93, 94, 95, 96, 97, 123, 124, 125, 126, 127, 160, 161, 162, 166, 167, 168, 169, 170, 171, 172, 173, 174, 175, 176, 177, 178, 180, 181, 182, 184, 185, 186, 187, 188, 191, 192, 215, 216, 223, 247, 248, 256, 383, 384, 768, 880, 913, 930, 931, 940, 945, 972, 1040, 1072, 1104, 1488, 1515, 1632, 1642, 8192, 8203, 8232, 8233, 8234, 8364, 8365, 8490, 8491, 12353, 12439, 19968, 40960, 127744, 128512, 1114112]
def st (i : Nat) : Int := starts.getD i 0
/-- the names of properties, and of which kind each is: the last one first -/
def kinds : List (ByteArray × Int) := [(⟨#[85, 110, 107, 110, 111, 119, 110]⟩, 4),
  (⟨#[72, 97, 110]⟩, 4),
  (⟨#[72, 105, 114, 97, 103, 97, 110, 97]⟩, 4),
  (⟨#[65, 114, 97, 98, 105, 99]⟩, 4),
  (⟨#[72, 101, 98, 114, 101, 119]⟩, 4),
  (⟨#[67, 121, 114, 105, 108, 108, 105, 99]⟩, 4),
  (⟨#[71, 114, 101, 101, 107]⟩, 4),
  (⟨#[76, 97, 116, 105, 110]⟩, 4),
  (⟨#[73, 110, 104, 101, 114, 105, 116, 101, 100]⟩, 4),
  (⟨#[67, 111, 109, 109, 111, 110]⟩, 4),
  (⟨#[67, 110]⟩, 2),
  (⟨#[67, 102]⟩, 2),
  (⟨#[67, 99]⟩, 2),
  (⟨#[90, 112]⟩, 2),
  (⟨#[90, 108]⟩, 2),
  (⟨#[90, 115]⟩, 2),
  (⟨#[83, 111]⟩, 2),
  (⟨#[83, 107]⟩, 2),
  (⟨#[83, 99]⟩, 2),
  (⟨#[83, 109]⟩, 2),
  (⟨#[80, 111]⟩, 2),
  (⟨#[80, 102]⟩, 2),
  (⟨#[80, 105]⟩, 2),
  (⟨#[80, 101]⟩, 2),
  (⟨#[80, 115]⟩, 2),
  (⟨#[80, 100]⟩, 2),
  (⟨#[80, 99]⟩, 2),
  (⟨#[78, 111]⟩, 2),
  (⟨#[78, 100]⟩, 2),
  (⟨#[77, 110]⟩, 2),
  (⟨#[76, 111]⟩, 2),
  (⟨#[76, 108]⟩, 2),
  (⟨#[76, 117]⟩, 2),
  (⟨#[67]⟩, 2),
  (⟨#[90]⟩, 2),
  (⟨#[83]⟩, 2),
  (⟨#[80]⟩, 2),
  (⟨#[78]⟩, 2),
  (⟨#[77]⟩, 2),
  (⟨#[76]⟩, 2),
  (⟨#[76, 38]⟩, 3),
  (⟨#[65, 110, 121]⟩, 1)]
/-- the names of POSIX classes, and their ranges: the last one first -/
def posix : List (ByteArray × List Rg) := [(⟨#[97, 115, 99, 105, 105]⟩, [(0, 127)]),
  (⟨#[119, 111, 114, 100]⟩, [(48, 57), (65, 90), (95, 95), (97, 122)]),
  (⟨#[120, 100, 105, 103, 105, 116]⟩, [(48, 57), (65, 70), (97, 102)]),
  (⟨#[112, 114, 105, 110, 116]⟩, [(32, 126)]),
  (⟨#[103, 114, 97, 112, 104]⟩, [(33, 126)]),
  (⟨#[99, 110, 116, 114, 108]⟩, [(0, 31), (127, 127)]),
  (⟨#[112, 117, 110, 99, 116]⟩, [(33, 47), (58, 64), (91, 96), (123, 126)]),
  (⟨#[98, 108, 97, 110, 107]⟩, [(9, 9), (32, 32)]),
  (⟨#[115, 112, 97, 99, 101]⟩, [(9, 13), (32, 32)]),
  (⟨#[108, 111, 119, 101, 114]⟩, [(97, 122)]),
  (⟨#[117, 112, 112, 101, 114]⟩, [(65, 90)]),
  (⟨#[97, 108, 110, 117, 109]⟩, [(48, 57), (65, 90), (97, 122)]),
  (⟨#[100, 105, 103, 105, 116]⟩, [(48, 57)]),
  (⟨#[97, 108, 112, 104, 97]⟩, [(65, 90), (97, 122)])]
/-- looked up: the one that was put last counts -/
def lookP {A : Type} : List (ByteArray × A) → ByteArray → A → A
  | [], _, z => z
  | (k, v) :: l, n, z => if n = k then v else lookP l n z
def kind (n : ByteArray) : Int := lookP kinds n 0
/-- a text begins with another -/
def pre (s t : ByteArray) : Bool := decide (t.size ≤ s.size) && decide (s.extract 0 t.size = t)
def cased (s : ByteArray) : Bool := decide (s = ⟨#[76, 117]⟩) || decide (s = ⟨#[76, 108]⟩)
/-- has a character of such a category and such a script the property? -/
def hp (n : ByteArray) (k s : Nat) : Bool := if kind n = 1 then true else if kind n = 2 then pre (catB k) n else if kind n = 3 then cased (catB k) else if kind n = 4 then decide (scrB s = n) else false
def propP (n : ByteArray) (c : Int) : Bool := hp n (cls c).1 (cls c).2.1

/-- between two such numbers nothing changes -/
def gapOk (i : Nat) : Bool := thr.all fun t => !(decide (st i ≤ t + 1) && decide (t + 1 < st (i + 1))) || ((cls (t + 1)).1 == (cls (st i)).1 && (cls (t + 1)).2.1 == (cls (st i)).2.1)
theorem gap_all : ((List.range 93).all gapOk) = true := by decide +kernel
theorem most_of {c : Int} : ∀ {L : List Int} {x : Int}, x ∈ L → x ≤ c → ∃ u ∈ L, u ≤ c ∧ ∀ v ∈ L, v ≤ c → v ≤ u
  | [], _, h, _ => by cases h
  | y :: L, x, hx, hc => by
    by_cases hL : ∃ z ∈ L, z ≤ c
    · obtain ⟨z, hz, hzc⟩ := hL
      obtain ⟨u, hu, huc, hm⟩ := most_of hz hzc
      by_cases hy : y ≤ c ∧ u < y
      · exact ⟨y, List.mem_cons_self .., hy.1, fun v hv hvc => by
          rcases List.mem_cons.1 hv with rfl | hv
          · exact Int.le_refl _
          · have := hm v hv hvc; omega⟩
      · exact ⟨u, List.mem_cons_of_mem _ hu, huc, fun v hv hvc => by
          rcases List.mem_cons.1 hv with rfl | hv
          · omega
          · exact hm v hv hvc⟩
    · rcases List.mem_cons.1 hx with rfl | hx
      · exact ⟨x, List.mem_cons_self .., hc, fun v hv hvc => by
          rcases List.mem_cons.1 hv with rfl | hv
          · exact Int.le_refl _
          · exact absurd ⟨v, hv, hvc⟩ hL⟩
      · exact absurd ⟨x, hx, hc⟩ hL
theorem gap {i : Nat} (hi : i < 93) {c : Int} (h1 : st i ≤ c) (h2 : c < st (i + 1)) : (cls c).1 = (cls (st i)).1 ∧ (cls c).2.1 = (cls (st i)).2.1 := by
  have ha := List.all_eq_true.1 gap_all i (by simpa using hi)
  unfold gapOk at ha
  rw [List.all_eq_true] at ha
  obtain ⟨u, hu, huc, hm⟩ := most_of (L := st i :: (thr.map (· + 1)).filter fun v => decide (st i ≤ v) && decide (v < st (i + 1))) (List.mem_cons_self ..) h1
  have hsu : st i ≤ u := hm (st i) (List.mem_cons_self ..) h1
  have e : cls c = cls u := cls_congr fun t ht => by
    constructor
    · intro h; omega
    · intro h
      rcases Int.lt_or_le t c with h3 | h3
      · have := hm (t + 1) (List.mem_cons_of_mem _ (List.mem_filter.2 ⟨List.mem_map.2 ⟨t, ht, rfl⟩, by simp only [Bool.and_eq_true, decide_eq_true_eq]; omega⟩)) (by omega)
        omega
      · exact h3
  rw [e]
  rcases List.mem_cons.1 hu with rfl | hu
  · exact ⟨rfl, rfl⟩
  · obtain ⟨hu1, hu2⟩ := List.mem_filter.1 hu
    obtain ⟨t, ht, rfl⟩ := List.mem_map.1 hu1
    have h3 := ha t ht
    rw [hu2] at h3
    simpa using h3
theorem st_in (c : Int) : ∀ n : Nat, st 0 ≤ c → c < st n → ∃ i, i < n ∧ st i ≤ c ∧ c < st (i + 1)
  | 0, h1, h2 => by omega
  | n + 1, h1, h2 => by
    by_cases h : c < st n
    · obtain ⟨i, hi, r⟩ := st_in c n h1 h
      exact ⟨i, by omega, r⟩
    · exact ⟨n, by omega, by omega, h2⟩
theorem st_bd (i : Nat) (h : i < 94) : 0 ≤ st i ∧ st i ≤ 1114112 := by
  have all : ((List.range 94).all fun i => decide (0 ≤ st i) && decide (st i ≤ 1114112)) = true := by decide +kernel
  have := List.all_eq_true.1 all i (by simpa using h)
  simpa using this
/-- the ranges that 'where' collects, of the first k -/
def wl (h : Int → Bool) : Nat → List Rg
  | 0 => []
  | k + 1 => if h (st k) = true then wl h k ++ [(st k, st (k + 1) - 1)] else wl h k
theorem wl_succ (h : Int → Bool) (k : Nat) : wl h (k + 1) = if h (st k) = true then wl h k ++ [(st k, st (k + 1) - 1)] else wl h k := rfl
theorem wl_len (h : Int → Bool) : ∀ k, (wl h k).length ≤ k
  | 0 => Nat.le_refl _
  | k + 1 => by
    have := wl_len h k
    rw [wl_succ]
    split
    · simp; omega
    · omega
theorem wl_has (h : Int → Bool) (c : Int) : ∀ k, Has (wl h k) c ↔ ∃ i, i < k ∧ h (st i) = true ∧ st i ≤ c ∧ c < st (i + 1)
  | 0 => by simp [wl, Has]
  | k + 1 => by
    have ih := wl_has h c k
    have e : Has (wl h (k + 1)) c ↔ Has (wl h k) c ∨ (h (st k) = true ∧ st k ≤ c ∧ c < st (k + 1)) := by
      rw [wl_succ]
      split
      · rename_i hk
        rw [has_append, has_one]
        simp only [hk, true_and]
        constructor
        · rintro (a | a)
          · exact Or.inl a
          · exact Or.inr ⟨a.1, by omega⟩
        · rintro (a | a)
          · exact Or.inl a
          · exact Or.inr ⟨a.1, by omega⟩
      · rename_i hk
        simp [hk]
    rw [e, ih]
    constructor
    · rintro (⟨i, hi, a⟩ | a)
      · exact ⟨i, by omega, a⟩
      · exact ⟨k, by omega, a⟩
    · rintro ⟨i, hi, a⟩
      by_cases hik : i = k
      · subst hik; exact Or.inr a
      · exact Or.inl ⟨i, by omega, a⟩
/-- what hangs on category and script alone is asked at these numbers -/
theorem wl_all (g : Nat → Nat → Bool) (c : Int) : (Has (wl (fun c => g (cls c).1 (cls c).2.1) 93) c ∧ 0 ≤ c ∧ c ≤ 1114111) ↔ 0 ≤ c ∧ c ≤ 1114111 ∧ g (cls c).1 (cls c).2.1 = true := by
  rw [wl_has]
  constructor
  · rintro ⟨⟨i, hi, hg, a, b⟩, h0, h1⟩
    have := gap hi a b
    rw [this.1, this.2]
    exact ⟨h0, h1, hg⟩
  · rintro ⟨h0, h1, hg⟩
    obtain ⟨i, hi, a, b⟩ := st_in c 93 h0 (by show c < 1114112; omega)
    have := gap hi a b
    rw [this.1, this.2] at hg
    exact ⟨⟨i, hi, hg, a, b⟩, h0, h1⟩
theorem wl_inR {h : Int → Bool} {k : Nat} (hk : k ≤ 93) : ∀ r ∈ wl h k, (-9223372036854775808 ≤ r.1 ∧ r.1 ≤ 9223372036854775807) ∧ (-9223372036854775808 ≤ r.2 ∧ r.2 ≤ 9223372036854775807) := by
  induction k with
  | zero => intro r hr; cases hr
  | succ k ih =>
    intro r hr
    rw [wl_succ] at hr
    have b1 := st_bd k (by omega)
    have b2 := st_bd (k + 1) (by omega)
    split at hr
    · rcases List.mem_append.1 hr with hr | hr
      · exact ih (by omega) r hr
      · obtain rfl := List.mem_singleton.1 hr
        simp only
        omega
    · exact ih (by omega) r hr
/-- every POSIX class is a set as it stands -/
theorem posix_canon {p : ByteArray × List Rg} (h : p ∈ posix) : Canon p.2 := by
  have all : (posix.all fun p => (p.2.all fun r => decide (0 ≤ r.1) && decide (r.1 ≤ r.2) && decide (r.2 ≤ 1114111)) && decide (p.2.Pairwise (fun a b => a.2 + 1 < b.1))) = true := by decide +kernel
  have := List.all_eq_true.1 all p h
  simp only [Bool.and_eq_true, List.all_eq_true, decide_eq_true_eq] at this
  exact ⟨this.2, fun r hr => ⟨(this.1 r hr).1.1, (this.1 r hr).1.2, (this.1 r hr).2⟩⟩
end Go.Proofs.YtgdhhpbpbkgmeaaDoor.prp
