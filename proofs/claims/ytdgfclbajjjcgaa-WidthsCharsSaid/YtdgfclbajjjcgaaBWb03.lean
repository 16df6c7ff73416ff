/- T -/
import Derived.Laws.BytesArg
import Derived.Lib.Hide
import Derived.Test.YtdgfclbajjjcgaaRows
import Derived.WalkKit
import Derived.Test.YtdgfclbajjjcgaaBWb02
set_option maxHeartbeats 16000000
set_option maxRecDepth 1000000
namespace Go.Proofs.Ytdgfclbajjjcgaa
section
namespace sq
open sq
open Go Go.RowKit
theorem yT {P : Program} {ops : Array Oper} {Q : Exit → Act → World → Prop} {md : Region.Mode} {S : World → Prop} {fuel : Nat} {listed : Array Bool} {a : Act} {w : World} (i : Nat) {oi : Oper} {v : Value} (h : wpAnyH P md ops Q S fuel (listed.setIfInBounds i true) (a.put oi.dst v) w)
 (hi : ops[i]? = some oi := by rfl) (hw : Region.wanted oi (yielded ops a.tmps) = true := by rfl) (hy : ∀ w, S w → (execOp a.eval oi).run P w = .ok (.value v) w := by intro w' hSw; go_simp; try rfl)
 (hs : Region.noSelect ops = true := by as_aux_lemma => kernel_rfl) (hf : Region.free md ops listed i = true := by as_aux_lemma => kernel_rfl) (hr : (Region.ready md ops listed).contains i = true := by as_aux_lemma => kernel_rfl)
 (hQ : ∀ c a w, Q (.panic c) (a.put oi.dst v) w → Q (.panic c) a w := by first | exact fun _ _ _ h => h | exact quiet_then (by assumption) _ _) (hS : S w := by assumption) : wpAnyH P md ops Q S (fuel + 1) listed a w :=
 wpAnyH_take hi hs hf hr hQ (Or.inl ⟨hw, hy⟩) hS h
theorem yF {P : Program} {ops : Array Oper} {Q : Exit → Act → World → Prop} {md : Region.Mode} {S : World → Prop} {fuel : Nat} {listed : Array Bool} {a : Act} {w : World} (i : Nat) {A : World → Prop} (hA : ∀ w', S w' → A w') {oi : Oper} {v : Value} (h : wpAnyH P md ops Q S fuel (listed.setIfInBounds i true) (a.put oi.dst v) w)
 (hi : ops[i]? = some oi := by rfl) (hw : Region.wanted oi (yielded ops a.tmps) = true := by rfl) (hy : ∀ w, A w → (execOp a.eval oi).run P w = .ok (.value v) w := by intro w' hSw; go_simp; try rfl)
 (hs : Region.noSelect ops = true := by as_aux_lemma => kernel_rfl) (hf : Region.free md ops listed i = true := by as_aux_lemma => kernel_rfl) (hr : (Region.ready md ops listed).contains i = true := by as_aux_lemma => kernel_rfl)
 (hQ : ∀ c a w, Q (.panic c) (a.put oi.dst v) w → Q (.panic c) a w := by first | exact fun _ _ _ h => h | exact quiet_then (by assumption) _ _) (hS : S w := by assumption) : wpAnyH P md ops Q S (fuel + 1) listed a w :=
 wpAnyH_take hi hs hf hr hQ (Or.inl ⟨hw, fun w' h' => hy w' (hA w' h')⟩) hS h
theorem yG {P : Program} {ops : Array Oper} {Q : Exit → Act → World → Prop} {md : Region.Mode} {S : World → Prop} {fuel : Nat} {listed : Array Bool} {a : Act} {w : World} (i : Nat) {A B : World → Prop} (hA : ∀ w', S w' → A w') (hB : ∀ w', S w' → B w') {oi : Oper} {v : Value} (h : wpAnyH P md ops Q S fuel (listed.setIfInBounds i true) (a.put oi.dst v) w)
 (hi : ops[i]? = some oi := by rfl) (hw : Region.wanted oi (yielded ops a.tmps) = true := by rfl) (hy : ∀ w, A w → B w → (execOp a.eval oi).run P w = .ok (.value v) w := by intro w' hSw hTw; go_simp; try rfl)
 (hs : Region.noSelect ops = true := by as_aux_lemma => kernel_rfl) (hf : Region.free md ops listed i = true := by as_aux_lemma => kernel_rfl) (hr : (Region.ready md ops listed).contains i = true := by as_aux_lemma => kernel_rfl)
 (hQ : ∀ c a w, Q (.panic c) (a.put oi.dst v) w → Q (.panic c) a w := by first | exact fun _ _ _ h => h | exact quiet_then (by assumption) _ _) (hS : S w := by assumption) : wpAnyH P md ops Q S (fuel + 1) listed a w :=
 wpAnyH_take hi hs hf hr hQ (Or.inl ⟨hw, fun w' h' => hy w' (hA w' h') (hB w' h')⟩) hS h
theorem yC {W : World} {k : Nat} {cs : Array Value} {t : TypeId} {b : Nat × Nat} (j : Nat) (v : Value) (h : Hid (W.heap[k]? = some (.cells cs t b))) (hv : cs[j]? = some v := by rfl) : W.cell? ⟨k, j, none⟩ = some v := by unfold World.cell?;rw [h.out];exact hv
theorem yK {W : World} {k : Nat} {cs : Array Value} {t : TypeId} (j : Nat) (h : Hid (W.heap[k]? = some (.cells cs t (0, 0)))) : W.frozen? ⟨k, j, none⟩ = false := by unfold World.frozen?;rw [h.out];simp
theorem yA {w0 w1 : World} (h : Hid (Below w0.heap.size w0 w1)) (o : Obj) : ∃ W, W = w1.alloc o ∧ Hid (Below w0.heap.size w0 W) ∧ Hid (Below w1.heap.size w1 W) ∧ Hid (W.heap[w1.heap.size]? = some o) ∧ Hid (w1.heap.size < W.heap.size) :=
 ⟨_, rfl, xH (h.out.trans (((Below.refl _ _).alloc (xL _) o).mono h.out.size)), xH ((Below.refl _ _).alloc (xL _) o), xH (heap_alloc_new _ _), xH (by rw [World.size_alloc]; omega)⟩
end sq
end
section
namespace utfp
open sq
def wid (c : Int) : Int := if c < 0 ∨ 1114111 < c ∨ (55296 ≤ c ∧ c ≤ 57343) then 0 else if c < 128 then 1 else if c < 2048 then 2 else if c < 65536 then 3 else 4
def len0 (x : Int) : Int := if x < 128 then 1 else if x < 192 then 0 else if x < 224 then 2 else if x < 240 then 3 else if x < 248 then 4 else 0
def head0 (s : Int) : Int := if s = 2 then 192 else if s = 3 then 224 else if s = 4 then 240 else 0
def acc (g : Nat → Int) (p : Nat) (h : Int) : Nat → Int
 | 0 => g p - h
 | k + 1 => acc g p h k * 64 + (g (p + 1 + k) - 128)
def conts (g : Nat → Int) (p : Nat) : Nat → Bool
 | 0 => true
 | k + 1 => conts g p k && (decide (128 ≤ g (p + 1 + k)) && decide (g (p + 1 + k) ≤ 191))
def seqAt (g : Nat → Int) (n p : Nat) : Int × Int :=
 if len0 (g p) = 0 ∨ (n : Int) - p < len0 (g p) then (0, 0)
 else if conts g p (len0 (g p) - 1).toNat = true ∧ wid (acc g p (head0 (len0 (g p))) (len0 (g p) - 1).toNat) = len0 (g p) then (acc g p (head0 (len0 (g p))) (len0 (g p) - 1).toNat, len0 (g p)) else (0, 0)
theorem len0_cases (x : Int) : (len0 x = 0 ∧ (128 ≤ x ∧ x < 192 ∨ 248 ≤ x)) ∨ (len0 x = 1 ∧ x < 128) ∨ (len0 x = 2 ∧ 192 ≤ x ∧ x < 224) ∨ (len0 x = 3 ∧ 224 ≤ x ∧ x < 240) ∨ (len0 x = 4 ∧ 240 ≤ x ∧ x < 248) := by
 unfold len0
 repeat' split
 all_goals omega
theorem wid_cases (c : Int) : (wid c = 0 ∧ (c < 0 ∨ 1114111 < c ∨ (55296 ≤ c ∧ c ≤ 57343))) ∨ (wid c = 1 ∧ 0 ≤ c ∧ c < 128) ∨ (wid c = 2 ∧ 128 ≤ c ∧ c < 2048) ∨ (wid c = 3 ∧ 2048 ≤ c ∧ c < 65536 ∧ (c < 55296 ∨ 57343 < c)) ∨ (wid c = 4 ∧ 65536 ≤ c ∧ c ≤ 1114111) := by
 unfold wid
 repeat' split
 all_goals omega
def enc (c : Int) : List Int :=
 if c < 0 ∨ 1114111 < c ∨ (55296 ≤ c ∧ c ≤ 57343) then [] else if c < 128 then [c] else if c < 2048 then [192 + c / 64, 128 + c % 64]
 else if c < 65536 then [224 + c / 4096, 128 + c / 64 % 64, 128 + c % 64] else [240 + c / 262144, 128 + c / 4096 % 64, 128 + c / 64 % 64, 128 + c % 64]
theorem enc_bytes (c : Int) : ∀ x ∈ enc c, 0 ≤ x ∧ x ≤ 255 := by
 unfold enc
 repeat' split
 all_goals (simp only [List.mem_cons, dM, or_false]; intro x hx)
 ·exact absurd hx (by simp)
 ·omega
 ·omega
 ·omega
 ·omega
theorem head_bd {x s : Int} (hx : 0 ≤ x) (h : len0 x = s) (hs : s ≠ 0) : 1 ≤ s ∧ s ≤ 4 ∧ 0 ≤ x - head0 s ∧ x - head0 s ≤ 127 := by rcases len0_cases x with ⟨h', hh⟩ | ⟨h', hh⟩ | ⟨h', hh⟩ | ⟨h', hh⟩ | ⟨h', hh⟩ <;> (rw [h'] at h; subst h; simp [head0] at *; try omega)
theorem seqAt_bd {g : Nat → Int} {n p : Nat} (hg : ∀ i, 0 ≤ g i ∧ g i ≤ 255) : seqAt g n p = (0, 0) ∨
 (1 ≤ (seqAt g n p).2 ∧ (seqAt g n p).2 ≤ 4 ∧ (p : Int) + (seqAt g n p).2 ≤ n ∧ wid (seqAt g n p).1 = (seqAt g n p).2 ∧ (seqAt g n p).2 = len0 (g p) ∧ conts g p ((seqAt g n p).2 - 1).toNat = true ∧ (seqAt g n p).1 = acc g p (head0 (seqAt g n p).2) ((seqAt g n p).2 - 1).toNat) := by
 unfold seqAt;split
 ·exact Or.inl rfl
 ·split
  ·rename_i h1 h2;right;have := head_bd (hg p).1 rfl (show len0 (g p) ≠ 0 by omega);exact ⟨this.1, this.2.1, by simp only; omega, h2.2, rfl, h2.1, rfl⟩
  ·exact Or.inl rfl
theorem seqAt_num {g : Nat → Int} {n p : Nat} (hg : ∀ i, 0 ≤ g i ∧ g i ≤ 255) : 0 ≤ (seqAt g n p).1 ∧ (seqAt g n p).1 ≤ 1114111 ∧ 0 ≤ (seqAt g n p).2 ∧ (seqAt g n p).2 ≤ 4 ∧ ((p : Int) ≤ n → (p : Int) + (seqAt g n p).2 ≤ n) := by
 rcases seqAt_bd (n := n) (p := p) hg with h | ⟨h1, h2, h3, h4, _⟩
 ·rw [h]; refine ⟨by simp, by simp, by simp, by simp, by simp⟩
 ·rcases wid_cases (seqAt g n p).1 with ⟨a, _⟩ | ⟨a, _⟩ | ⟨a, _⟩ | ⟨a, _⟩ | ⟨a, _⟩ <;> omega
def stepv (utf : Bool) (g : Nat → Int) (n p : Nat) : Int × Int := if utf = true ∧ 0 < (seqAt g n p).2 then ((seqAt g n p).1, p + (seqAt g n p).2) else (g p, p + 1)
def nextP (utf : Bool) (g : Nat → Int) (n : Nat) (a : Int) : Int × Int := if a < 0 ∨ (n : Int) ≤ a then (-1, a) else stepv utf g n a.toNat
def yl (g : Nat → Int) (n : Nat) : Nat → Nat → Int × Bool
 | 0, p => (p, true)
 | f + 1, p => if p < n then (if (seqAt g n p).2 = 0 then (p, false) else yl g n f (p + (seqAt g n p).2.toNat)) else (p, true)
def validP (g : Nat → Int) (n : Nat) : Int × Bool := yl g n n 0
theorem validF_fuel (g : Nat → Int) (n : Nat) : ∀ f f' p, n - p ≤ f → n - p ≤ f' → (∀ q, 0 ≤ (seqAt g n q).2) → yl g n f p = yl g n f' p := by
 intro f
 induction f with
 | zero =>
  intro f' p h h' _;cases f' with
  | zero => rfl
  | succ f' => simp only [yl]; rw [if_neg (by omega)]
 | succ f ih =>
  intro f' p h h' hs;cases f' with
  | zero => simp only [yl]; rw [if_neg (by omega)]
  | succ f' =>
   simp only [yl];have := hs p;split
   ·split
    ·rfl
    ·exact ih _ _ (by omega) (by omega) hs
   ·rfl
def stepN (utf : Bool) (g : Nat → Int) (n p : Nat) : Nat := (stepv utf g n p).2.toNat
theorem stepN_bd {utf : Bool} {g : Nat → Int} {n p : Nat} (hg : ∀ i, 0 ≤ g i ∧ g i ≤ 255) (hp : p < n) : p < stepN utf g n p ∧ stepN utf g n p ≤ n ∧ (stepv utf g n p).2 = stepN utf g n p := by have := seqAt_num (n := n) (p := p) hg;unfold stepN stepv;split <;> simp only <;> omega
theorem validP_step {g : Nat → Int} {n p : Nat} (hg : ∀ i, 0 ≤ g i ∧ g i ≤ 255) (hp : p < n) : yl g n n p = if (seqAt g n p).2 = 0 then ((p : Int), false) else yl g n n (p + (seqAt g n p).2.toNat) := by
 obtain ⟨m, rfl⟩ : ∃ m, n = m + 1 := ⟨n - 1, by omega⟩;rw [yl, if_pos hp];have := seqAt_num (n := m + 1) (p := p) hg;split
 ·rfl
 ·exact validF_fuel _ _ _ _ _ (by omega) (by omega) (fun q => (seqAt_num hg).2.2.1)
theorem validP_end {g : Nat → Int} {n p : Nat} (hp : n ≤ p) : yl g n n p = ((p : Int), true) := by
 cases n with
 | zero => rfl
 | succ n => rw [yl, if_neg (by omega)]
theorem nextP_step (utf : Bool) (g : Nat → Int) (n p : Nat) (hg : ∀ i, 0 ≤ g i ∧ g i ≤ 255) (hp : p < n) : nextP utf g n (p : Int) = ((stepv utf g n p).1, ((stepN utf g n p : Nat) : Int)) := by unfold nextP;rw [if_neg (by omega), ← (stepN_bd (utf := utf) hg hp).2.2];simp
end utfp
end
section
namespace ucdp
open sq
def catB (k : Nat) : ByteArray := match k with
 | 1 => ⟨#[67, 99]⟩
 | 2 => ⟨#[90, 115]⟩
 | 3 => ⟨#[80, 111]⟩
 | 4 => ⟨#[83, 99]⟩
 | 5 => ⟨#[80, 115]⟩
 | 6 => ⟨#[80, 101]⟩
 | 7 => ⟨#[83, 109]⟩
 | 8 => ⟨#[80, 100]⟩
 | 9 => ⟨#[78, 100]⟩
 | 10 => ⟨#[76, 117]⟩
 | 11 => ⟨#[83, 107]⟩
 | 12 => ⟨#[80, 99]⟩
 | 13 => ⟨#[76, 108]⟩
 | 14 => ⟨#[83, 111]⟩
 | 15 => ⟨#[76, 111]⟩
 | 16 => ⟨#[80, 105]⟩
 | 17 => ⟨#[67, 102]⟩
 | 18 => ⟨#[78, 111]⟩
 | 19 => ⟨#[80, 102]⟩
 | 20 => ⟨#[67, 110]⟩
 | 21 => ⟨#[77, 110]⟩
 | 22 => ⟨#[90, 108]⟩
 | 23 => ⟨#[90, 112]⟩
 | _ => ⟨#[]⟩
def scrB (k : Nat) : ByteArray := match k with
 | 1 => ⟨#[67, 111, 109, 109, 111, 110]⟩
 | 2 => ⟨#[76, 97, 116, 105, 110]⟩
 | 3 => ⟨#[85, 110, 107, 110, 111, 119, 110]⟩
 | 4 => ⟨#[73, 110, 104, 101, 114, 105, 116, 101, 100]⟩
 | 5 => ⟨#[71, 114, 101, 101, 107]⟩
 | 6 => ⟨#[67, 121, 114, 105, 108, 108, 105, 99]⟩
 | 7 => ⟨#[72, 101, 98, 114, 101, 119]⟩
 | 8 => ⟨#[65, 114, 97, 98, 105, 99]⟩
 | 9 => ⟨#[72, 105, 114, 97, 103, 97, 110, 97]⟩
 | 10 => ⟨#[72, 97, 110]⟩
 | _ => ⟨#[]⟩
def tab : List (List (Int × Nat × Nat × Int)) := [
 [(-1, 0, 0, 0), (31, 1, 1, 0), (32, 2, 1, 0), (35, 3, 1, 0), (36, 4, 1, 0), (39, 3, 1, 0), (40, 5, 1, 0), (41, 6, 1, 0), (42, 3, 1, 0), (43, 7, 1, 0), (44, 3, 1, 0)],
 [(45, 8, 1, 0), (47, 3, 1, 0), (57, 9, 1, 0), (59, 3, 1, 0), (62, 7, 1, 0), (64, 3, 1, 0), (90, 10, 2, 32), (91, 5, 1, 0), (92, 3, 1, 0), (93, 6, 1, 0), (94, 11, 1, 0)],
 [(95, 12, 1, 0), (96, 11, 1, 0), (122, 13, 2, -32), (123, 5, 1, 0), (124, 7, 1, 0), (125, 6, 1, 0), (126, 7, 1, 0), (159, 1, 1, 0), (160, 2, 1, 0), (161, 3, 1, 0), (165, 4, 1, 0)],
 [(166, 14, 1, 0), (167, 3, 1, 0), (168, 11, 1, 0), (169, 14, 1, 0), (170, 15, 2, 0), (171, 16, 1, 0), (172, 7, 1, 0), (173, 17, 1, 0), (174, 14, 1, 0), (175, 11, 1, 0), (176, 14, 1, 0)],
 [(177, 7, 1, 0), (179, 18, 1, 0), (180, 11, 1, 0), (181, 13, 1, 0), (183, 3, 1, 0), (184, 11, 1, 0), (185, 18, 1, 0), (186, 15, 2, 0), (187, 19, 1, 0), (190, 18, 1, 0), (191, 3, 1, 0)],
 [(214, 10, 2, 32), (215, 7, 1, 0), (222, 10, 2, 32), (223, 13, 2, 0), (246, 13, 2, -32), (247, 7, 1, 0), (254, 13, 2, -32), (255, 13, 2, 0), (382, 20, 3, 0), (383, 13, 2, 0), (767, 20, 3, 0)],
 [(879, 21, 4, 0), (912, 20, 3, 0), (929, 10, 5, 32), (930, 20, 3, 0), (939, 10, 5, 32), (944, 20, 3, 0), (961, 13, 5, -32), (962, 13, 5, 0), (971, 13, 5, -32), (1039, 20, 3, 0), (1071, 10, 6, 32)],
 [(1103, 13, 6, -32), (1487, 20, 3, 0), (1514, 15, 7, 0), (1631, 20, 3, 0), (1641, 9, 8, 0), (8191, 20, 3, 0), (8202, 2, 1, 0), (8231, 20, 3, 0), (8232, 22, 1, 0), (8233, 23, 1, 0), (8363, 20, 3, 0)],
 [(8364, 4, 1, 0), (8489, 20, 3, 0), (8490, 10, 2, 0), (12352, 20, 3, 0), (12438, 15, 9, 0), (19967, 20, 3, 0), (40959, 15, 10, 0), (127743, 20, 3, 0), (128511, 14, 1, 0), (1114111, 20, 3, 0), (9223372036854775807, 0, 0, 0)]]
def low : List (Int × Int × Nat × Nat × Int) := [(0, 31, 1, 1, 0), (32, 32, 2, 1, 0), (33, 35, 3, 1, 0), (36, 36, 4, 1, 0), (37, 39, 3, 1, 0), (40, 40, 5, 1, 0),
 (41, 41, 6, 1, 0), (42, 42, 3, 1, 0), (43, 43, 7, 1, 0), (44, 44, 3, 1, 0), (45, 45, 8, 1, 0), (46, 47, 3, 1, 0),
 (48, 57, 9, 1, 0), (58, 59, 3, 1, 0), (60, 62, 7, 1, 0), (63, 64, 3, 1, 0), (65, 90, 10, 2, 32), (91, 91, 5, 1, 0),
 (92, 92, 3, 1, 0), (93, 93, 6, 1, 0), (94, 94, 11, 1, 0), (95, 95, 12, 1, 0), (96, 96, 11, 1, 0), (97, 122, 13, 2, -32),
 (123, 123, 5, 1, 0), (124, 124, 7, 1, 0), (125, 125, 6, 1, 0), (126, 126, 7, 1, 0), (127, 159, 1, 1, 0)]
def high : List (Int × Int × Nat × Nat × Int) := [(160, 160, 2, 1, 0), (161, 161, 3, 1, 0), (162, 165, 4, 1, 0), (166, 166, 14, 1, 0), (167, 167, 3, 1, 0), (168, 168, 11, 1, 0),
 (169, 169, 14, 1, 0), (170, 170, 15, 2, 0), (171, 171, 16, 1, 0), (172, 172, 7, 1, 0), (173, 173, 17, 1, 0), (174, 174, 14, 1, 0),
 (175, 175, 11, 1, 0), (176, 176, 14, 1, 0), (177, 177, 7, 1, 0), (178, 179, 18, 1, 0), (180, 180, 11, 1, 0), (181, 181, 13, 1, 0),
 (182, 183, 3, 1, 0), (184, 184, 11, 1, 0), (185, 185, 18, 1, 0), (186, 186, 15, 2, 0), (187, 187, 19, 1, 0), (188, 190, 18, 1, 0),
 (191, 191, 3, 1, 0), (192, 214, 10, 2, 32), (215, 215, 7, 1, 0), (216, 222, 10, 2, 32), (223, 223, 13, 2, 0), (224, 246, 13, 2, -32),
 (247, 247, 7, 1, 0), (248, 254, 13, 2, -32), (255, 255, 13, 2, 0), (383, 383, 13, 2, 0), (768, 879, 21, 4, 0), (913, 929, 10, 5, 32),
 (931, 939, 10, 5, 32), (945, 961, 13, 5, -32), (962, 962, 13, 5, 0), (963, 971, 13, 5, -32), (1040, 1071, 10, 6, 32), (1072, 1103, 13, 6, -32),
 (1488, 1514, 15, 7, 0), (1632, 1641, 9, 8, 0), (8192, 8202, 2, 1, 0), (8232, 8232, 22, 1, 0), (8233, 8233, 23, 1, 0), (8364, 8364, 4, 1, 0),
 (8490, 8490, 10, 2, 0), (12353, 12438, 15, 9, 0), (19968, 40959, 15, 10, 0), (127744, 128511, 14, 1, 0)]
def rows : List (Int × Int × Nat × Nat × Int) := low ++ high
def tabAt (b p : Nat) : Int × Nat × Nat × Int := (tab.getD b []).getD p (0, 0, 0, 0)
def hi (b p : Nat) : Int := (tabAt b p).1
def lo (b p : Nat) : Int := if p = 0 then (if b = 0 then -9223372036854775809 else hi (b - 1) 10) else hi b (p - 1)
def inRow (c : Int) (r : Int × Int × Nat × Nat × Int) : Bool := decide (r.1 ≤ c) && decide (c ≤ r.2.1)
def cls (c : Int) : Nat × Nat × Int := if c < 0 ∨ 1114111 < c then (0, 0, 0) else match rows.find? (inRow c) with
 | some r => r.2.2
 | none => (20, 3, 0)
def thr : List Int := (-1) :: 1114111 :: rows.flatMap fun r => [r.1 - 1, r.2.1]
theorem find_congr {α : Type} {p q : α → Bool} {l : List α} (h : ∀ x ∈ l, p x = q x) : l.find? p = l.find? q := by
 induction l with
 | nil => rfl
 | cons x l ih =>
  simp only [List.find?_cons, h x (by simp)];rw [ih fun y hy => h y (by simp [hy])]
theorem cls_congr {c d : Int} (h : ∀ t ∈ thr, (c ≤ t ↔ d ≤ t)) : cls c = cls d := by
 have h1 := h (-1) (by simp [thr]);have h2 := h 1114111 (by simp [thr]);have hr : rows.find? (inRow c) = rows.find? (inRow d) := find_congr fun r hr => by have e1 := h (r.1 - 1) (by simp only [thr, List.mem_cons, List.mem_flatMap]; exact Or.inr (Or.inr ⟨r, hr, by simp⟩));have e2 := h r.2.1 (by simp only [thr, List.mem_cons, List.mem_flatMap]; exact Or.inr (Or.inr ⟨r, hr, by simp⟩));unfold inRow;rw [decide_eq_decide.2 e2, decide_eq_decide.2 (show r.1 ≤ c ↔ r.1 ≤ d by omega)]
 unfold cls;rw [hr];by_cases a : c < 0 ∨ 1114111 < c
 ·rw [if_pos a, if_pos (by omega)]
 ·rw [if_neg a, if_neg (by omega)]
def jy (c : Int) (u : Bool) : List Int :=
 if u = false then (if 65 ≤ c ∧ c ≤ 90 then [c + 32] else if 97 ≤ c ∧ c ≤ 122 then [c - 32] else [])
 else if c = 75 then [107, 8490] else if c = 107 then [75, 8490] else if c = 8490 then [75, 107]
 else if c = 83 then [115, 383] else if c = 115 then [83, 383] else if c = 383 then [83, 115]
 else if c = 181 then [924, 956] else if c = 924 then [181, 956] else if c = 956 then [181, 924]
 else if c = 931 then [962, 963] else if c = 962 then [931, 963] else if c = 963 then [931, 962]
 else if (cls c).2.2 = 0 then [] else [c + (cls c).2.2]
def Single (c : Int) : Prop := c ≠ 75 ∧ c ≠ 107 ∧ c ≠ 8490 ∧ c ≠ 83 ∧ c ≠ 115 ∧ c ≠ 383 ∧ c ≠ 181 ∧ c ≠ 924 ∧ c ≠ 956 ∧ c ≠ 931 ∧ c ≠ 962 ∧ c ≠ 963
theorem others_single {c : Int} (h : Single c) : jy c true = if (cls c).2.2 = 0 then [] else [c + (cls c).2.2] := by obtain ⟨h1, h2, h3, h4, h5, h6, h7, h8, h9, h10, h11, h12⟩ := h;unfold jy;rw [if_neg (by simp), if_neg h1, if_neg h2, if_neg h3, if_neg h4, if_neg h5, if_neg h6, if_neg h7, if_neg h8, if_neg h9, if_neg h10, if_neg h11, if_neg h12]
theorem cls_row (c : Int) : cls c = (0, 0, 0) ∧ (c < 0 ∨ 1114111 < c) ∨ (0 ≤ c ∧ c ≤ 1114111 ∧ (cls c = (20, 3, 0) ∨ ∃ r ∈ rows, r.1 ≤ c ∧ c ≤ r.2.1 ∧ cls c = r.2.2)) := by
 unfold cls;by_cases a : c < 0 ∨ 1114111 < c
 ·rw [if_pos a]; exact Or.inl ⟨rfl, a⟩
 ·rw [if_neg a];refine Or.inr ⟨by omega, by omega, ?_⟩;cases h : rows.find? (inRow c) with
  | none => exact Or.inl rfl
  | some r =>
   have h1 := List.mem_of_find?_eq_some h;have h2 := List.find?_some h;simp only [inRow, dK, dF] at h2;exact Or.inr ⟨r, h1, h2.1, h2.2, rfl⟩
theorem shift_small {c : Int} (h : (cls c).2.2 ≠ 0) : 0 ≤ c ∧ c < 1104 := by
 have all : (rows.all fun r => r.2.2.2.2 == 0 || (decide (0 ≤ r.1) && decide (r.2.1 < 1104))) = true := by decide +kernel
 rcases cls_row c with ⟨e, _⟩ | ⟨_, _, e | ⟨r, hr, h1, h2, e⟩⟩
 ·rw [e] at h; exact absurd rfl h
 ·rw [e] at h; exact absurd rfl h
 ·have := List.all_eq_true.1 all r hr;rw [e] at h;simp only [Bool.or_eq_true, dK, dF, beq_iff_eq] at this;rcases this with h3 | ⟨h3, h4⟩
  ·exact absurd h3 h
  ·omega
theorem shift_bd (c : Int) : -32 ≤ (cls c).2.2 ∧ (cls c).2.2 ≤ 32 := by
 have all : (rows.all fun r => decide (-32 ≤ r.2.2.2.2) && decide (r.2.2.2.2 ≤ 32)) = true := by decide +kernel
 rcases cls_row c with ⟨e, _⟩ | ⟨_, _, e | ⟨r, hr, h1, h2, e⟩⟩
 ·rw [e]; decide
 ·rw [e]; decide
 ·have := List.all_eq_true.1 all r hr;simp only [dK, dF] at this;rw [e];exact this
end ucdp
end
section
namespace setp
open sq
abbrev Rg := Int × Int
def Has (S : List Rg) (c : Int) : Prop := ∃ r ∈ S, r.1 ≤ c ∧ c ≤ r.2
def InR (S : List Rg) : Prop := ∀ r ∈ S, 0 ≤ r.1 ∧ r.1 ≤ r.2 ∧ r.2 ≤ 1114111
def Canon (S : List Rg) : Prop := S.Pairwise (fun a b => a.2 + 1 < b.1) ∧ InR S
theorem has_nil (c : Int) : ¬ Has [] c := by rintro ⟨_, h, _⟩; cases h
theorem jF {r : Rg} {S : List Rg} {c : Int} : Has (r :: S) c ↔ (r.1 ≤ c ∧ c ≤ r.2) ∨ Has S c := by simp [Has]
theorem zo {S T : List Rg} {c : Int} : Has (S ++ T) c ↔ Has S c ∨ Has T c := by
 simp only [Has, List.mem_append];constructor
 ·rintro ⟨r, h | h, h2⟩
  ·exact Or.inl ⟨r, h, h2⟩
  ·exact Or.inr ⟨r, h, h2⟩
 ·rintro (⟨r, h, h2⟩ | ⟨r, h, h2⟩)
  ·exact ⟨r, Or.inl h, h2⟩
  ·exact ⟨r, Or.inr h, h2⟩
theorem has_one {r : Rg} {c : Int} : Has [r] c ↔ r.1 ≤ c ∧ c ≤ r.2 := by simp [Has]
theorem inR_nil : InR [] := fun _ h => by cases h
theorem inR_append {S T : List Rg} (h1 : InR S) (h2 : InR T) : InR (S ++ T) := fun r hr => (List.mem_append.1 hr).elim (h1 r) (h2 r)
theorem inR_one {a b : Int} (h1 : 0 ≤ a) (h2 : a ≤ b) (h3 : b ≤ 1114111) : InR [(a, b)] := by intro r hr;obtain rfl := List.mem_singleton.1 hr;exact ⟨h1, h2, h3⟩
theorem canon_nil : Canon [] := ⟨List.Pairwise.nil, inR_nil⟩
theorem canon_tail {r : Rg} {S : List Rg} (h : Canon (r :: S)) : Canon S := ⟨(List.pairwise_cons.1 h.1).2, fun x hx => h.2 x (List.mem_cons_of_mem _ hx)⟩
theorem canon_head {r : Rg} {S : List Rg} (h : Canon (r :: S)) {c : Int} (hc : Has S c) : r.2 + 1 < c := by obtain ⟨x, hx, h2⟩ := hc;have := (List.pairwise_cons.1 h.1).1 x hx;omega
theorem has_bd {S : List Rg} (h : InR S) {c : Int} (hc : Has S c) : 0 ≤ c ∧ c ≤ 1114111 := by obtain ⟨r, hr, h2⟩ := hc;have := h r hr;omega
theorem canon_ext : ∀ {S T : List Rg}, Canon S → Canon T → (∀ c, Has S c ↔ Has T c) → S = T
 | [], [], _, _, _ => rfl
 | [], t :: T, _, hT, h => by have ht := hT.2 t (dJ ..);exact absurd ((h t.1).2 (jF.2 (Or.inl (by omega)))) (has_nil _)
 | r :: S, [], hS, _, h => by have ht := hS.2 r (dJ ..);exact absurd ((h r.1).1 (jF.2 (Or.inl (by omega)))) (has_nil _)
 | r :: S, t :: T, hS, hT, h => by
  have hr := hS.2 r (dJ ..);have ht := hT.2 t (dJ ..);have a1 : t.1 ≤ r.1 := by
   rcases jF.1 ((h r.1).1 (jF.2 (Or.inl (by omega)))) with x | x
   ·omega
   ·have := canon_head hT x; omega
  have a2 : r.1 ≤ t.1 := by
   rcases jF.1 ((h t.1).2 (jF.2 (Or.inl (by omega)))) with x | x
   ·omega
   ·have := canon_head hS x; omega
  have b1 : ¬ r.2 < t.2 := by
   intro hlt;rcases jF.1 ((h (r.2 + 1)).2 (jF.2 (Or.inl (by omega)))) with x | x
   ·omega
   ·have := canon_head hS x; omega
  have b2 : ¬ t.2 < r.2 := by
   intro hlt;rcases jF.1 ((h (t.2 + 1)).1 (jF.2 (Or.inl (by omega)))) with x | x
   ·omega
   ·have := canon_head hT x; omega
  have e : r = t := Prod.ext (by omega) (by omega);subst e;have e2 := canon_ext (canon_tail hS) (canon_tail hT) (fun c => by
   constructor
   ·intro hc;have h1 := canon_head hS hc;rcases jF.1 ((h c).1 (jF.2 (Or.inr hc))) with x | x
    ·omega
    ·exact x
   ·intro hc;have h1 := canon_head hT hc;rcases jF.1 ((h c).2 (jF.2 (Or.inr hc))) with x | x
    ·omega
    ·exact x)
  rw [e2]
theorem take_snoc {S : List Rg} {i : Nat} (h : i < S.length) : S.take (i + 1) = S.take i ++ [S[i]] := by rw [List.take_succ_eq_append_getElem h]
theorem canon_snoc {S : List Rg} (h : Canon S) {a b : Int} (h1 : ∀ r ∈ S, r.2 + 1 < a) (h0 : 0 ≤ a) (h2 : a ≤ b) (h3 : b ≤ 1114111) : Canon (S ++ [(a, b)]) := by refine ⟨List.pairwise_append.2 ⟨h.1, List.pairwise_singleton _ _, fun r hr x hx => ?_⟩, inR_append h.2 (inR_one h0 h2 h3)⟩;obtain rfl := List.mem_singleton.1 hx;exact h1 r hr
def addP (D : List Rg) (a b : Int) : List Rg := if b < a then D else D ++ [(a, b)]
theorem addP_has {D : List Rg} {a b c : Int} : Has (addP D a b) c ↔ Has D c ∨ (a ≤ c ∧ c ≤ b) := by
 unfold addP;split
 ·constructor
  ·exact Or.inl
  ·rintro (h | h)
   ·exact h
   ·omega
 ·rw [zo, has_one]
theorem addP_canon {D : List Rg} {a b : Int} (h : Canon D) (h1 : ∀ r ∈ D, r.2 + 1 < a) (h0 : 0 ≤ a) (h3 : b ≤ 1114111) : Canon (addP D a b) := by
 unfold addP;split
 ·exact h
 ·exact canon_snoc h h1 h0 (by omega) h3
theorem addP_mem {D : List Rg} {a b : Int} {r : Rg} (h : r ∈ addP D a b) : r ∈ D ∨ (r = (a, b) ∧ a ≤ b) := by
 unfold addP at h;split at h
 ·exact Or.inl h
 ·rcases List.mem_append.1 h with h | h
  ·exact Or.inl h
  ·exact Or.inr ⟨List.mem_singleton.1 h, by omega⟩
end setp
end
section
namespace prp
open sq
open ucdp setp
def starts : List Int := [0, 32, 33, 36, 37, 40, 41, 42, 43, 44, 45, 46, 48, 58, 60, 63, 65, 91, 92, 93, 94, 95, 96, 97, 123, 124, 125, 126, 127, 160, 161, 162, 166, 167, 168, 169, 170, 171, 172, 173, 174, 175, 176, 177, 178, 180, 181, 182, 184, 185, 186, 187, 188, 191, 192, 215, 216, 223, 247, 248, 256, 383, 384, 768, 880, 913, 930, 931, 940, 945, 972, 1040, 1072, 1104, 1488, 1515, 1632, 1642, 8192, 8203, 8232, 8233, 8234, 8364, 8365, 8490, 8491, 12353, 12439, 19968, 40960, 127744, 128512, 1114112]
def st (i : Nat) : Int := starts.getD i 0
def kinds : List (ByteArray × Int) := [(⟨#[85, 110, 107, 110, 111, 119, 110]⟩, 4),
 (⟨#[72, 97, 110]⟩, 4),
 (⟨#[72, 105, 114, 97, 103, 97, 110, 97]⟩, 4),
 (⟨#[65, 114, 97, 98, 105, 99]⟩, 4),
 (⟨#[72, 101, 98, 114, 101, 119]⟩, 4),
 (⟨#[67, 121, 114, 105, 108, 108, 105, 99]⟩, 4),
 (⟨#[71, 114, 101, 101, 107]⟩, 4),
 (⟨#[76, 97, 116, 105, 110]⟩, 4),
 (⟨#[73, 110, 104, 101, 114, 105, 116, 101, 100]⟩, 4),
 (⟨#[67, 111, 109, 109, 111, 110]⟩, 4),
 (⟨#[67, 110]⟩, 2),
 (⟨#[67, 102]⟩, 2),
 (⟨#[67, 99]⟩, 2),
 (⟨#[90, 112]⟩, 2),
 (⟨#[90, 108]⟩, 2),
 (⟨#[90, 115]⟩, 2),
 (⟨#[83, 111]⟩, 2),
 (⟨#[83, 107]⟩, 2),
 (⟨#[83, 99]⟩, 2),
 (⟨#[83, 109]⟩, 2),
 (⟨#[80, 111]⟩, 2),
 (⟨#[80, 102]⟩, 2),
 (⟨#[80, 105]⟩, 2),
 (⟨#[80, 101]⟩, 2),
 (⟨#[80, 115]⟩, 2),
 (⟨#[80, 100]⟩, 2),
 (⟨#[80, 99]⟩, 2),
 (⟨#[78, 111]⟩, 2),
 (⟨#[78, 100]⟩, 2),
 (⟨#[77, 110]⟩, 2),
 (⟨#[76, 111]⟩, 2),
 (⟨#[76, 108]⟩, 2),
 (⟨#[76, 117]⟩, 2),
 (⟨#[67]⟩, 2),
 (⟨#[90]⟩, 2),
 (⟨#[83]⟩, 2),
 (⟨#[80]⟩, 2),
 (⟨#[78]⟩, 2),
 (⟨#[77]⟩, 2),
 (⟨#[76]⟩, 2),
 (⟨#[76, 38]⟩, 3),
 (⟨#[65, 110, 121]⟩, 1)]
def posix : List (ByteArray × List Rg) := [(⟨#[97, 115, 99, 105, 105]⟩, [(0, 127)]),
 (⟨#[119, 111, 114, 100]⟩, [(48, 57), (65, 90), (95, 95), (97, 122)]),
 (⟨#[120, 100, 105, 103, 105, 116]⟩, [(48, 57), (65, 70), (97, 102)]),
 (⟨#[112, 114, 105, 110, 116]⟩, [(32, 126)]),
 (⟨#[103, 114, 97, 112, 104]⟩, [(33, 126)]),
 (⟨#[99, 110, 116, 114, 108]⟩, [(0, 31), (127, 127)]),
 (⟨#[112, 117, 110, 99, 116]⟩, [(33, 47), (58, 64), (91, 96), (123, 126)]),
 (⟨#[98, 108, 97, 110, 107]⟩, [(9, 9), (32, 32)]),
 (⟨#[115, 112, 97, 99, 101]⟩, [(9, 13), (32, 32)]),
 (⟨#[108, 111, 119, 101, 114]⟩, [(97, 122)]),
 (⟨#[117, 112, 112, 101, 114]⟩, [(65, 90)]),
 (⟨#[97, 108, 110, 117, 109]⟩, [(48, 57), (65, 90), (97, 122)]),
 (⟨#[100, 105, 103, 105, 116]⟩, [(48, 57)]),
 (⟨#[97, 108, 112, 104, 97]⟩, [(65, 90), (97, 122)])]
def lookP {A : Type} : List (ByteArray × A) → ByteArray → A → A
 | [], _, z => z
 | (k, v) :: l, n, z => if n = k then v else lookP l n z
def kind (n : ByteArray) : Int := lookP kinds n 0
def pre (s t : ByteArray) : Bool := decide (t.size ≤ s.size) && decide (s.extract 0 t.size = t)
def cased (s : ByteArray) : Bool := decide (s = ⟨#[76, 117]⟩) || decide (s = ⟨#[76, 108]⟩)
def hp (n : ByteArray) (k s : Nat) : Bool := if kind n = 1 then true else if kind n = 2 then pre (catB k) n else if kind n = 3 then cased (catB k) else if kind n = 4 then decide (scrB s = n) else false
def propP (n : ByteArray) (c : Int) : Bool := hp n (cls c).1 (cls c).2.1
def gapOk (i : Nat) : Bool := thr.all fun t => !(decide (st i ≤ t + 1) && decide (t + 1 < st (i + 1))) || ((cls (t + 1)).1 == (cls (st i)).1 && (cls (t + 1)).2.1 == (cls (st i)).2.1)
theorem gap_all : ((List.range 93).all gapOk) = true := by decide +kernel
theorem most_of {c : Int} : ∀ {L : List Int} {x : Int}, x ∈ L → x ≤ c → ∃ u ∈ L, u ≤ c ∧ ∀ v ∈ L, v ≤ c → v ≤ u
 | [], _, h, _ => by cases h
 | y :: L, x, hx, hc => by
  by_cases hL : ∃ z ∈ L, z ≤ c
  ·obtain ⟨z, hz, hzc⟩ := hL;obtain ⟨u, hu, huc, hm⟩ := most_of hz hzc;by_cases hy : y ≤ c ∧ u < y
   ·exact ⟨y, dJ .., hy.1, fun v hv hvc => by
     rcases List.mem_cons.1 hv with rfl | hv
     ·exact Int.le_refl _
     ·have := hm v hv hvc; omega⟩
   ·exact ⟨u, List.mem_cons_of_mem _ hu, huc, fun v hv hvc => by
     rcases List.mem_cons.1 hv with rfl | hv
     ·omega
     ·exact hm v hv hvc⟩
  ·rcases List.mem_cons.1 hx with rfl | hx
   ·exact ⟨x, dJ .., hc, fun v hv hvc => by
     rcases List.mem_cons.1 hv with rfl | hv
     ·exact Int.le_refl _
     ·exact absurd ⟨v, hv, hvc⟩ hL⟩
   ·exact absurd ⟨x, hx, hc⟩ hL
theorem gap {i : Nat} (hi : i < 93) {c : Int} (h1 : st i ≤ c) (h2 : c < st (i + 1)) : (cls c).1 = (cls (st i)).1 ∧ (cls c).2.1 = (cls (st i)).2.1 := by
 have ha := List.all_eq_true.1 gap_all i (by simpa using hi);unfold gapOk at ha;rw [List.all_eq_true] at ha;obtain ⟨u, hu, huc, hm⟩ := most_of (L := st i :: (thr.map (· + 1)).filter fun v => decide (st i ≤ v) && decide (v < st (i + 1))) (dJ ..) h1;have hsu : st i ≤ u := hm (st i) (dJ ..) h1;have e : cls c = cls u := cls_congr fun t ht => by
  constructor
  ·intro h; omega
  ·intro h;rcases Int.lt_or_le t c with h3 | h3
   ·have := hm (t + 1) (List.mem_cons_of_mem _ (List.mem_filter.2 ⟨List.mem_map.2 ⟨t, ht, rfl⟩, by simp only [dK, dF]; omega⟩)) (by omega);omega
   ·exact h3
 rw [e];rcases List.mem_cons.1 hu with rfl | hu
 ·exact ⟨rfl, rfl⟩
 ·obtain ⟨hu1, hu2⟩ := List.mem_filter.1 hu;obtain ⟨t, ht, rfl⟩ := List.mem_map.1 hu1;have h3 := ha t ht;rw [hu2] at h3;simpa using h3
theorem st_in (c : Int) : ∀ n : Nat, st 0 ≤ c → c < st n → ∃ i, i < n ∧ st i ≤ c ∧ c < st (i + 1)
 | 0, h1, h2 => by omega
 | n + 1, h1, h2 => by
  by_cases h : c < st n
  ·obtain ⟨i, hi, r⟩ := st_in c n h1 h;exact ⟨i, by omega, r⟩
  ·exact ⟨n, by omega, by omega, h2⟩
def wl (h : Int → Bool) : Nat → List Rg
 | 0 => []
 | k + 1 => if h (st k) = true then wl h k ++ [(st k, st (k + 1) - 1)] else wl h k
theorem wl_succ (h : Int → Bool) (k : Nat) : wl h (k + 1) = if h (st k) = true then wl h k ++ [(st k, st (k + 1) - 1)] else wl h k := rfl
theorem wl_len (h : Int → Bool) : ∀ k, (wl h k).length ≤ k
 | 0 => xL _
 | k + 1 => by
  have := wl_len h k;rw [wl_succ];split
  ·simp; omega
  ·omega
theorem wl_has (h : Int → Bool) (c : Int) : ∀ k, Has (wl h k) c ↔ ∃ i, i < k ∧ h (st i) = true ∧ st i ≤ c ∧ c < st (i + 1)
 | 0 => by simp [wl, Has]
 | k + 1 => by
  have ih := wl_has h c k;have e : Has (wl h (k + 1)) c ↔ Has (wl h k) c ∨ (h (st k) = true ∧ st k ≤ c ∧ c < st (k + 1)) := by
   rw [wl_succ];split
   ·rename_i hk;rw [zo, has_one];simp only [hk, true_and];constructor
    ·rintro (a | a)
     ·exact Or.inl a
     ·exact Or.inr ⟨a.1, by omega⟩
    ·rintro (a | a)
     ·exact Or.inl a
     ·exact Or.inr ⟨a.1, by omega⟩
   ·rename_i hk;simp [hk]
  rw [e, ih];constructor
  ·rintro (⟨i, hi, a⟩ | a)
   ·exact ⟨i, by omega, a⟩
   ·exact ⟨k, by omega, a⟩
  ·rintro ⟨i, hi, a⟩;by_cases hik : i = k
   ·subst hik; exact Or.inr a
   ·exact Or.inl ⟨i, by omega, a⟩
theorem wl_all (g : Nat → Nat → Bool) (c : Int) : (Has (wl (fun c => g (cls c).1 (cls c).2.1) 93) c ∧ 0 ≤ c ∧ c ≤ 1114111) ↔ 0 ≤ c ∧ c ≤ 1114111 ∧ g (cls c).1 (cls c).2.1 = true := by
 rw [wl_has];constructor
 ·rintro ⟨⟨i, hi, hg, a, b⟩, h0, h1⟩;have := gap hi a b;rw [this.1, this.2];exact ⟨h0, h1, hg⟩
 ·rintro ⟨h0, h1, hg⟩;obtain ⟨i, hi, a, b⟩ := st_in c 93 h0 (by show c < 1114112; omega);have := gap hi a b;rw [this.1, this.2] at hg;exact ⟨⟨i, hi, hg, a, b⟩, h0, h1⟩
theorem posix_canon {p : ByteArray × List Rg} (h : p ∈ posix) : Canon p.2 := by
 have all : (posix.all fun p => (p.2.all fun r => decide (0 ≤ r.1) && decide (r.1 ≤ r.2) && decide (r.2 ≤ 1114111)) && decide (p.2.Pairwise (fun a b => a.2 + 1 < b.1))) = true := by decide +kernel
 have := List.all_eq_true.1 all p h;simp only [dK, List.all_eq_true, dF] at this;exact ⟨this.2, fun r hr => ⟨(this.1 r hr).1.1, (this.1 r hr).1.2, (this.1 r hr).2⟩⟩
def jC (n : ByteArray) : List Rg := lookP posix n []
def vz (n : ByteArray) : Bool := posix.any fun p => decide (p.1 = n)
def escP (c : Int) : List Rg := if c = 100 then [(48, 57)] else if c = 115 then [(9, 13), (32, 32)] else if c = 119 then [(48, 57), (65, 90), (95, 95), (97, 122)] else if c = 104 then [(9, 9), (32, 32), (160, 160), (8192, 8202)] else if c = 118 then [(10, 13), (133, 133), (8232, 8233)] else []
def escB (c : Int) : Bool := decide (c = 100) || decide (c = 115) || decide (c = 119) || decide (c = 104) || decide (c = 118)
def isP (n : ByteArray) : Bool := decide (kind n = 1) || decide (kind n = 2) || decide (kind n = 3) || decide (kind n = 4)
end prp
end
section
namespace tkp
open sq
open Go utfp ucdp setp prp
structure Pt where
 g : Nat → Int
 n : Nat
 u : Bool
 x : Bool
def Pt.most (p : Pt) : Int := if p.u = true then 1114111 else 255
structure Tk where
 kind : Int
 at_ : Nat := 0
 «to» : Nat := 0
 c : Int := 0
 set : List Rg := []
 neg : Bool := false
 n : Int := 0
 m : Int := 0
 mode : Int := 0
 name : ByteArray := ⟨#[]⟩
 on : Int := 0
 off : Int := 0
abbrev R (α : Type) := Except (Int × Int) α
def Pt.er (p : Pt) (e : Int) (f : Nat) : Int × Int := if e = 20 then (20, p.n) else (e, f)
def isDig (c : Int) : Bool := decide (48 ≤ c) && decide (c ≤ 57)
def isLet (c : Int) : Bool := decide (65 ≤ c) && decide (c ≤ 90) || decide (97 ≤ c) && decide (c ≤ 122)
def isWrd (c : Int) : Bool := isLet c || isDig c || decide (c = 95)
def zn (c : Int) : Bool := isDig c || decide (65 ≤ c) && decide (c ≤ 70) || decide (97 ≤ c) && decide (c ≤ 102)
def optV (c : Int) : Nat := if c = 105 then 1 else if c = 109 then 2 else if c = 115 then 4 else if c = 85 then 16 else 0
def isOpt (c : Int) : Bool := optV c != 0
def Pt.has (p : Pt) : List UInt8 → Nat → Bool
 | [], _ => true
 | c :: l, a => decide (a < p.n) && decide (p.g a = (c.toNat : Int)) && p.has l (a + 1)
def Pt.char (p : Pt) (a : Nat) : Int × Nat := ((nextP p.u p.g p.n a).1, (nextP p.u p.g p.n a).2.toNat)
def Pt.run (p : Pt) (fits : Int → Bool) : Nat → Nat → Nat
 | 0, a => a
 | k + 1, a => if decide (a < p.n) && fits (p.g a) then p.run fits k (a + 1) else a
def Pt.sub (p : Pt) (a b : Nat) : ByteArray := strOfNums ((List.range (b - a)).map fun i => p.g (a + i))
def Pt.find (p : Pt) (c : Int) : Nat → Nat → Option Nat
 | 0, _ => none
 | k + 1, a => if p.g a = c then some a else p.find c k (a + 1)
def Pt.until (p : Pt) (c : Int) (a : Nat) : Option Nat := p.find c (p.n - a) a
def Pt.val (p : Pt) (a : Nat) : Nat → Int
 | 0 => 0
 | k + 1 => min (p.val a k * 10 + (p.g (a + k) - 48)) 256
def Pt.digits (p : Pt) (a : Nat) : Int × Nat := (p.val a (p.run isDig 1000 a - a), p.run isDig 1000 a)
def Pt.number (p : Pt) (f a : Nat) : R (Int × Nat) := if 255 < (p.digits a).1 then .error (25, f) else .ok (p.digits a)
def Pt.sign (p : Pt) (a : Nat) : Int × Nat := if p.has [45] a = true then (1, a + 1) else if p.has [43] a = true then (2, a + 1) else (0, a)
def Pt.signed (p : Pt) (f a : Nat) : R (Option (Int × Int × Nat)) :=
 match p.number f (p.sign a).2 with
 | .error e => .error e
 | .ok (n, b) => if b = (p.sign a).2 then .ok none else .ok (some (n, (p.sign a).1, b))
def Pt.name (p : Pt) (a : Nat) : Nat × Bool := (p.run isWrd 1000 a, decide (a < p.run isWrd 1000 a) && !isDig (p.g a) && decide (p.run isWrd 1000 a - a ≤ 32))
def Pt.mode (p : Pt) (a : Nat) : Int × Nat := if p.has [63] a = true then (1, a + 1) else if p.has [43] a = true then (2, a + 1) else (0, a)
def Pt.bounds (p : Pt) (a : Nat) : Option (Int × Int × Nat) :=
 if (p.digits a).2 = a then none
 else if p.has [44] (p.digits a).2 = true then some ((p.digits a).1, (if (p.digits ((p.digits a).2 + 1)).2 = (p.digits a).2 + 1 then -1 else (p.digits ((p.digits a).2 + 1)).1), (p.digits ((p.digits a).2 + 1)).2)
 else some ((p.digits a).1, (p.digits a).1, (p.digits a).2)
def Pt.braces (p : Pt) (f : Nat) : R (Option (Int × Int × Nat)) :=
 if p.has [123] f = true then
  match p.bounds (f + 1) with
  | none => .ok none
  | some (n, m, b) => if p.has [125] b = true then
   (if 255 < n ∨ 255 < m then .error (25, f) else if 0 ≤ m ∧ m < n then .error (23, f) else .ok (some (n, m, b + 1)))
   else .ok none
 else .ok none
def Pt.quant (p : Pt) (f : Nat) : R (Option (Tk × Nat)) :=
 if p.has [42] f = true then .ok (some ({ kind := 9, n := 0, m := -1, mode := (p.mode (f + 1)).1 }, (p.mode (f + 1)).2))
 else if p.has [43] f = true then .ok (some ({ kind := 9, n := 1, m := -1, mode := (p.mode (f + 1)).1 }, (p.mode (f + 1)).2))
 else if p.has [63] f = true then .ok (some ({ kind := 9, n := 0, m := 1, mode := (p.mode (f + 1)).1 }, (p.mode (f + 1)).2))
 else match p.braces f with
  | .error e => .error e
  | .ok none => .ok none
  | .ok (some (n, m, b)) => .ok (some ({ kind := 9, n := n, m := m, mode := (p.mode b).1 }, (p.mode b).2))
def insR : Int → Int → List Rg → List Rg
 | a, b, [] => [(a, b)]
 | a, b, r :: S => if b + 1 < r.1 then (a, b) :: r :: S else if r.2 + 1 < a then r :: insR a b S else insR (min a r.1) (max b r.2) S
def normR (m : Int) : List Rg → List Rg
 | [] => []
 | r :: l => if min r.2 m < max r.1 0 then normR m l else insR (max r.1 0) (min r.2 m) (normR m l)
def notF (m : Int) : Int → List Rg → List Rg
 | lo, [] => addP [] lo m
 | lo, r :: S => if min (r.1 - 1) m < lo then notF m (r.2 + 1) S else (lo, min (r.1 - 1) m) :: notF m (r.2 + 1) S
def notR (m : Int) (S : List Rg) : List Rg := notF m 0 S
def propL (n : ByteArray) : List Rg := wl (fun c => hp n (cls c).1 (cls c).2.1) 93
def hexV (c : Int) : Int := if c ≤ 57 then c - 48 else if c ≤ 70 then c - 55 else c - 87
def Pt.hexVal (p : Pt) (a : Nat) : Nat → Int
 | 0 => 0
 | k + 1 => p.hexVal a k * 16 + hexV (p.g (a + k))
def Pt.hexd (p : Pt) (most a : Nat) : Int × Nat := (p.hexVal a (p.run zn most a - a), p.run zn most a)
def Pt.hexa (p : Pt) (f a : Nat) : R (Int × Nat) :=
 if p.has [123] a = true then
  (if (p.hexd 6 (a + 1)).2 = a + 1 ∨ p.has [125] (p.hexd 6 (a + 1)).2 = false ∨ p.most < (p.hexd 6 (a + 1)).1 ∨ (p.u = true ∧ 55296 ≤ (p.hexd 6 (a + 1)).1 ∧ (p.hexd 6 (a + 1)).1 ≤ 57343) then .error (21, f)
   else .ok ((p.hexd 6 (a + 1)).1, (p.hexd 6 (a + 1)).2 + 1))
 else .ok (p.hexd 2 a)
def Pt.propName (p : Pt) (a : Nat) : ByteArray × Nat :=
 if p.has [123] a = true then
  match p.until 125 (a + 1) with
  | none => (⟨#[]⟩, a + 1)
  | some i => (p.sub (a + 1) i, i + 1)
 else (p.sub a (p.char a).2, (p.char a).2)
def hat (s : ByteArray) : Bool := pre s ⟨#[94]⟩
def unhat (s : ByteArray) : ByteArray := if hat s = true then s.extract 1 s.size else s
def Pt.prop (p : Pt) (f a : Nat) (neg : Bool) : R (Tk × Nat) :=
 if isP (unhat (p.propName a).1) = true then .ok ({ kind := 2, set := normR p.most (propL (unhat (p.propName a).1)), neg := neg != hat (p.propName a).1 }, (p.propName a).2)
 else .error (24, f)
def ji (c : Int) : Int := if c = 97 then 7 else if c = 101 then 27 else if c = 102 then 12 else if c = 110 then 10 else if c = 114 then 13 else if c = 116 then 9 else 0
def vZ (c : Int) : Int := if c = 98 then 3 else if c = 66 then 4 else if c = 65 then 5 else if c = 122 then 6 else if c = 90 then 7 else if c = 71 then 8 else 0
def capB (c : Int) : Bool := decide (65 ≤ c) && decide (c ≤ 90)
def lowC (c : Int) : Int := if capB c = true then c + 32 else c
def Pt.common (p : Pt) (f : Nat) (c : Int) (a : Nat) : R (Option (Tk × Nat)) :=
 if ji c ≠ 0 then .ok (some ({ kind := 1, c := ji c }, a))
 else if c = 120 then (match p.hexa f a with | .error e => .error e | .ok (v, b) => .ok (some ({ kind := 1, c := v }, b)))
 else if c = 112 ∨ c = 80 then (match p.prop f a (decide (c = 80)) with | .error e => .error e | .ok r => .ok (some r))
 else if escB (lowC c) = true then .ok (some ({ kind := 2, set := normR p.most (escP (lowC c)), neg := capB c }, a))
 else .ok none
def Pt.posix (p : Pt) (f : Nat) : R (Option (Tk × Nat)) :=
 if p.has [91, 58] f = true then
  (let b := if p.has [94] (f + 2) = true then f + 3 else f + 2
   let e := p.run isLet 1000 b
   if p.has [58, 93] e = true then
    (if vz (p.sub b e) = true then .ok (some ({ kind := 2, set := normR p.most (jC (p.sub b e)), neg := p.has [94] (f + 2) }, e + 2)) else .error (22, f))
   else .ok none)
 else .ok none
def Pt.classEsc (p : Pt) (f a : Nat) : R (Tk × Nat) :=
 if a = p.n then .error (20, p.n)
 else match p.common f (p.char a).1 (p.char a).2 with
  | .error e => .error e
  | .ok (some r) => .ok r
  | .ok none => if (p.char a).1 = 98 then .ok ({ kind := 1, c := 8 }, (p.char a).2)
   else if (isLet (p.char a).1 || isDig (p.char a).1) = true then .error (21, f)
   else .ok ({ kind := 1, c := (p.char a).1 }, (p.char a).2)
def Pt.item (p : Pt) (a : Nat) : R (Tk × Nat) :=
 if a = p.n then .error (20, p.n)
 else match p.posix a with
  | .error e => .error e
  | .ok (some r) => .ok r
  | .ok none => if (p.char a).1 = 92 then p.classEsc a (p.char a).2 else .ok ({ kind := 1, c := (p.char a).1 }, (p.char a).2)
def Pt.members (p : Pt) (t : Tk) : List Rg := if t.kind = 1 then [(t.c, t.c)] else if t.neg = true then notR p.most t.set else t.set
def Pt.dash (p : Pt) (a : Nat) : Bool := !p.has [45, 93] a && p.has [45] a
def Pt.items (p : Pt) (a : Nat) : R (List Rg × Nat) :=
 match p.item a with
 | .error e => .error e
 | .ok (c, b) =>
  if (decide (c.kind = 1) && p.dash b) = true then
   match p.item (b + 1) with
   | .error e => .error e
   | .ok (d, b') => if d.kind ≠ 1 ∨ d.c < c.c then .error (23, a) else .ok ([(c.c, d.c)], b')
  else .ok (p.members c, b)
def Pt.more (p : Pt) : Nat → List Rg → Nat → R (List Rg × Nat)
 | 0, _, _ => .error (20, p.n)
 | k + 1, l, a => if p.has [93] a = true then .ok (l, a + 1)
  else match p.items a with
   | .error e => .error e
   | .ok (m, b) => p.more k (l ++ m) b
def Pt.cls (p : Pt) (a : Nat) : R (Tk × Nat) :=
 match p.items (if p.has [94] a = true then a + 1 else a) with
 | .error e => .error e
 | .ok (l, b) => match p.more (p.n + 1 - b) l b with
  | .error e => .error e
  | .ok (l', b') => .ok ({ kind := 2, set := normR p.most l', neg := p.has [94] a }, b')
def Pt.quotes (p : Pt) (a : Nat) : Int × List UInt8 × Nat :=
 if p.has [60] a = true then (12, [62], a + 1) else if p.has [39] a = true then (12, [39], a + 1) else if p.has [123] a = true then (11, [125], a + 1) else (11, [], a)
def Pt.refer (p : Pt) (f a : Nat) : R (Tk × Nat) :=
 match p.signed f (p.quotes a).2.2 with
 | .error e => .error e
 | .ok (some (n, m, b)) => if p.has (p.quotes a).2.1 b = false then .error (21, f)
  else if n = 0 ∧ ((p.quotes a).1 ≠ 12 ∨ m ≠ 0) then .error (25, f)
  else .ok ({ kind := (p.quotes a).1, n := n, m := m }, b + (p.quotes a).2.1.length)
 | .ok none => if (p.name (p.quotes a).2.2).2 = false ∨ (p.quotes a).2.1 = [] ∨ p.has (p.quotes a).2.1 (p.name (p.quotes a).2.2).1 = false then .error (21, f)
  else .ok ({ kind := (p.quotes a).1, m := 3, name := p.sub (p.quotes a).2.2 (p.name (p.quotes a).2.2).1 }, (p.name (p.quotes a).2.2).1 + (p.quotes a).2.1.length)
def Pt.nback (p : Pt) (f a : Nat) : R (Tk × Nat) :=
 if (p.name (p.quotes a).2.2).2 = false ∨ (p.quotes a).2.1 = [] ∨ p.has (p.quotes a).2.1 (p.name (p.quotes a).2.2).1 = false then .error (27, f)
 else .ok ({ kind := 11, m := 3, name := p.sub (p.quotes a).2.2 (p.name (p.quotes a).2.2).1 }, (p.name (p.quotes a).2.2).1 + (p.quotes a).2.1.length)
def lay (t : Tk) (f b : Nat) : Tk := { t with at_ := f, «to» := b }
def one (f : Nat) : R (Tk × Nat) → R (List Tk × Nat)
 | .error e => .error e
 | .ok (t, b) => .ok ([lay t f b], b)
def Pt.quoted (p : Pt) : Nat → Nat → List Tk × Nat
 | 0, a => ([], a)
 | k + 1, a => if a = p.n then ([], a) else if p.has [92, 69] a = true then ([], a + 2)
  else (lay { kind := 1, c := (p.char a).1 } a (p.char a).2 :: (p.quoted k (p.char a).2).1, (p.quoted k (p.char a).2).2)
def Pt.escape (p : Pt) (f a : Nat) : R (List Tk × Nat) :=
 if a = p.n then .error (20, p.n)
 else
  let c := (p.char a).1
  let b := (p.char a).2
  match p.common f c b with
  | .error e => .error e
  | .ok (some r) => one f (.ok r)
  | .ok none =>
   if vZ c ≠ 0 then one f (.ok ({ kind := 4, n := vZ c }, b))
   else if c = 81 then .ok (p.quoted (p.n - b) b)
   else if c = 69 then .ok ([], b)
   else if c = 78 then one f (.ok ({ kind := 2, set := [(10, 10)], neg := true }, b))
   else if c = 75 then one f (.ok ({ kind := 5 }, b))
   else if c = 82 then one f (.ok ({ kind := 6 }, b))
   else if c = 103 then one f (p.refer f b)
   else if c = 107 then one f (p.nback f b)
   else if c ≠ 48 ∧ isDig c = true then (match p.number f a with | .error e => .error e | .ok (n, b') => one f (.ok ({ kind := 11, n := n }, b')))
   else if c = 48 ∨ isLet c = true then .error (21, f)
   else one f (.ok ({ kind := 1, c := c }, b))
def groupsT : List (List UInt8 × Int) := [([124], 3), ([62], 4), ([61], 5), ([33], 6), ([60, 61], 7), ([60, 33], 8)]
def namingsT : List (List UInt8 × List UInt8 × Int × Int × Int) := [([60], [62], 10, 1, 0), ([80, 60], [62], 10, 1, 0), ([39], [39], 10, 1, 0), ([38], [41], 12, 0, 3), ([80, 62], [41], 12, 0, 3), ([80, 61], [41], 11, 0, 3)]
def looksT : List (List UInt8) := [[40, 63, 61], [40, 63, 33], [40, 63, 60, 61], [40, 63, 60, 33]]
def Pt.plainK (p : Pt) (a : Nat) : List (List UInt8 × Int) → Option (Tk × Nat)
 | [] => none
 | (s, k) :: l => if p.has s a = true then some ({ kind := 10, n := k }, a + s.length) else p.plainK a l
def Pt.naming (p : Pt) (f a : Nat) : List (List UInt8 × List UInt8 × Int × Int × Int) → R (Option (Tk × Nat))
 | [] => .ok none
 | (s, z, k, n, m) :: l => if p.has s a = true then
  (if (p.name (a + s.length)).1 = p.n then .error (20, p.n)
   else if (p.name (a + s.length)).2 = false ∨ p.has z (p.name (a + s.length)).1 = false then .error (27, f)
   else .ok (some ({ kind := k, n := n, m := m, name := p.sub (a + s.length) (p.name (a + s.length)).1 }, (p.name (a + s.length)).1 + z.length)))
  else p.naming f a l
def Pt.broken (p : Pt) (f a : Nat) : Int × Int := if a = p.n then (20, p.n) else (26, f)
def Pt.close (p : Pt) (f a : Nat) : R Nat := if p.has [41] a = true then .ok (a + 1) else .error (p.broken f a)
def Pt.counted (p : Pt) (f a : Nat) : R (Option (Tk × Nat)) :=
 match p.signed f a with
 | .error e => .error e
 | .ok none => .ok none
 | .ok (some (n, m, b)) => match p.close f b with
  | .error e => .error e
  | .ok b' => if n = 0 ∧ m ≠ 0 then .error (25, f) else .ok (some ({ kind := 12, n := n, m := m }, b'))
def Pt.orV (p : Pt) (a : Nat) : Nat → Nat
 | 0 => 0
 | k + 1 => p.orV a k ||| optV (p.g (a + k))
def Pt.letters (p : Pt) (a : Nat) : Nat × Nat := (p.orV a (p.run isOpt 1000 a - a), p.run isOpt 1000 a)
def Pt.minus (p : Pt) (a : Nat) : Nat × Nat := if p.has [45] a = true then p.letters (a + 1) else (0, a)
def Pt.settings (p : Pt) (f a : Nat) : R (Tk × Nat) :=
 let on := p.letters a
 let off := p.minus on.2
 if p.has [58] off.2 = true then .ok ({ kind := 10, n := 2, on := on.1, off := off.1 }, off.2 + 1)
 else match p.close f off.2 with
  | .error e => .error e
  | .ok b => .ok ({ kind := 15, on := on.1, off := off.1 }, b)
def Pt.test (p : Pt) (f a : Nat) : R (Option (Tk × Nat)) :=
 if p.has [68, 69, 70, 73, 78, 69] a = true then .ok (some ({ kind := 10, n := 12 }, a + 6))
 else if p.has [82, 38] a = true then .ok (if (p.name (a + 2)).2 = true then some ({ kind := 10, n := 11, m := 3, name := p.sub (a + 2) (p.name (a + 2)).1 }, (p.name (a + 2)).1) else none)
 else if p.has [82] a = true then (match p.number f (a + 1) with
  | .error e => .error e
  | .ok (n, b) => .ok (some ({ kind := 10, n := 11, mode := if b = a + 1 then -1 else n }, b)))
 else if p.has [60] a = true then .ok (if (p.name (a + 1)).2 = true ∧ p.has [62] (p.name (a + 1)).1 = true then some ({ kind := 10, n := 10, name := p.sub (a + 1) (p.name (a + 1)).1 }, (p.name (a + 1)).1 + 1) else none)
 else if p.has [39] a = true then .ok (if (p.name (a + 1)).2 = true ∧ p.has [39] (p.name (a + 1)).1 = true then some ({ kind := 10, n := 10, name := p.sub (a + 1) (p.name (a + 1)).1 }, (p.name (a + 1)).1 + 1) else none)
 else match p.signed f a with
  | .error e => .error e
  | .ok none => .ok none
  | .ok (some (n, m, b)) => .ok (some ({ kind := 10, n := 9, m := m, mode := n }, b))
def Pt.cond (p : Pt) (f a : Nat) : R (Tk × Nat) :=
 if looksT.any (fun s => p.has s a) = true then .ok ({ kind := 10, n := 13 }, a)
 else match p.test f (a + 1) with
  | .error e => .error e
  | .ok none => .error (32, f)
  | .ok (some (t, b)) => if p.has [41] b = false then .error (32, f) else if t.n = 9 ∧ t.mode = 0 then .error (25, f) else .ok (t, b + 1)
def verbsT : List (ByteArray × Int × Int) := [(⟨#[65, 67, 67, 69, 80, 84]⟩, 1, 0), (⟨#[70, 65, 73, 76]⟩, 2, 0), (⟨#[70]⟩, 2, 0), (⟨#[67, 79, 77, 77, 73, 84]⟩, 3, 1), (⟨#[80, 82, 85, 78, 69]⟩, 4, 1), (⟨#[83, 75, 73, 80]⟩, 5, 1), (⟨#[84, 72, 69, 78]⟩, 6, 1), (⟨#[77, 65, 82, 75]⟩, 7, 2), (⟨#[]⟩, 7, 2)]
def verbF (word name : ByteArray) (named : Bool) : List (ByteArray × Int × Int) → Option Int
 | [] => none
 | (v, n, k) :: l => if word = v then (if (named && (decide (k = 0) || decide (name = ⟨#[]⟩)) || !named && decide (k = 2)) = true then none else some n) else verbF word name named l
def Pt.verb (p : Pt) (f a : Nat) : R (Tk × Nat) :=
 match p.until 41 a with
 | none => .error (20, p.n)
 | some i =>
  let word := match p.find 58 (i - a) a with | none => p.sub a i | some j => p.sub a j
  let name := match p.find 58 (i - a) a with | none => ⟨#[]⟩ | some j => p.sub (j + 1) i
  match verbF word name (p.find 58 (i - a) a).isSome verbsT with
  | none => .error (28, f)
  | some n => .ok ({ kind := 13, n := n, name := name }, i + 1)
def Pt.special (p : Pt) (f a : Nat) : R (List Tk × Nat) :=
 match p.plainK a groupsT with
 | some r => one f (.ok r)
 | none => match p.naming f a namingsT with
  | .error e => .error e
  | .ok (some r) => one f (.ok r)
  | .ok none => match p.counted f a with
   | .error e => .error e
   | .ok (some r) => one f (.ok r)
   | .ok none =>
    if p.has [35] a = true then (match p.until 41 (a + 1) with | none => .error (20, p.n) | some i => .ok ([], i + 1))
    else if p.has [40] a = true then one f (p.cond f a)
    else if p.has [82] a = true then one f (match p.close f (a + 1) with | .error e => .error e | .ok b => .ok ({ kind := 12 }, b))
    else if p.has [67] a = true then one f (match p.number f (a + 1) with | .error e => .error e | .ok (n, b) => match p.close f b with | .error e => .error e | .ok b' => .ok ({ kind := 14, n := n }, b'))
    else if p.has [43] a = true then .error (p.broken f (a + 1))
    else one f (p.settings f a)
def Pt.group (p : Pt) (f a : Nat) : R (List Tk × Nat) :=
 if p.has [42] a = true then one f (p.verb f (a + 1))
 else if p.has [63] a = true then p.special f (a + 1)
 else one f (.ok ({ kind := 10, n := 1 }, a))
def Pt.ign (p : Pt) (c : Int) (a : Nat) : Option Nat :=
 if p.x = false then none
 else if c = 35 then some (match p.until 10 a with | none => p.n | some i => i + 1)
 else if 9 ≤ c ∧ c ≤ 13 ∨ c = 32 then some a else none
def Pt.token (p : Pt) (f : Nat) : R (List Tk × Nat) :=
 match p.quant f with
 | .error e => .error e
 | .ok (some r) => one f (.ok r)
 | .ok none =>
  let c := (p.char f).1
  let b := (p.char f).2
  if c = 92 then p.escape f b
  else if c = 91 then one f (p.cls b)
  else if c = 40 then p.group f b
  else if c = 41 then one f (.ok ({ kind := 8 }, b))
  else if c = 124 then one f (.ok ({ kind := 7 }, b))
  else if c = 46 then one f (.ok ({ kind := 3 }, b))
  else if c = 94 then one f (.ok ({ kind := 4, n := 1 }, b))
  else if c = 36 then one f (.ok ({ kind := 4, n := 2 }, b))
  else match p.ign c b with
   | some b' => .ok ([], b')
   | none => one f (.ok ({ kind := 1, c := c }, b))
def Pt.read (p : Pt) : Nat → List Tk → Nat → R (List Tk)
 | 0, T, _ => .ok T
 | k + 1, T, a => if a = p.n then .ok T else match p.token a with
  | .error e => .error e
  | .ok (ts, b) => p.read k (T ++ ts) b
end tkp
end
end Go.Proofs.Ytdgfclbajjjcgaa
