/- The contract of the document's Edges: all edges, in order, in new memory. -/
import Derived.Test.YtmphapcogmjgnaaDoorUtfW4
import Derived.Test.YtmphapcogmjgnaaDoorUtfP4
import Derived.OwnWalk
import Derived.Laws.AppendOwn
namespace Go.Proofs.YtmphapcogmjgnaaDoor.utfw
open Go Go.RowKit Go.Proofs.YtmphapcogmjgnaaDoor.utfp

theorem infoInt : (Tryd.prog.info? 3).map (fun i => (i.zero, i.size, i.bytes)) = some (some (.int .i64 0), 1, 8) := by kernel_rfl
/-- offsets as cells -/
def ic (l : List Nat) : List Value := l.map fun (x : Nat) => Value.int .i64 (x : Int)
/-- a slice of offsets of the call's own -/
def OwnI (w : World) (base : Nat) (v : Value) (D : List Nat) : Prop := w.ownsRow base 3 1 v D.length (ic D)
theorem ownI_below {w w' : World} {base : Nat} {v : Value} {D : List Nat} (h : OwnI w base v D) (hb : Below w.heap.size w w') : OwnI w' base v D := by
  obtain ⟨h1, h2⟩ := h
  refine ⟨h1, ?_⟩
  rcases h2 with h2 | ⟨g, cap, cur, hv, hg, hh, r⟩
  · exact Or.inl h2
  · refine Or.inr ⟨g, cap, cur, hv, hg, ?_, r⟩
    have hlt : g < w.heap.size := by
      rcases Nat.lt_or_ge g w.heap.size with h | h
      · exact h
      · rw [Array.getElem?_eq_none h] at hh; cases hh
    rw [hb.block g hlt]
    exact hh
theorem wpList_append_int {ops : Array Oper} {rest : List Oper} {o : Oper} {a : Act} {w : World} {Q : Exit → Act → World → Prop} (hgd : o.guard = none) (s x : Operand)
    (ho : o.op = .call { callee := .builtin .append, args := #[s, x], argTypes := #[30, 30] }) (base : Nat) (v : Value) (D : List Nat) (hs : a.eval s = v) (hown : OwnI w base v D)
    (q : Nat) (hx : a.eval x = .slice (some ⟨w.heap.size, 0, none⟩) 1 1) (hlen : D.length ≤ 4000) (hbase : base ≤ w.heap.size)
    (h : ∀ v' w', OwnI w' base v' (D ++ [q]) → (∀ B w1, Below B w1 w → B ≤ base → Below B w1 w') → wpList Tryd.prog ops Q rest (a.put o.dst v') w') :
    wpList Tryd.prog ops Q (o :: rest) a (w.alloc (.cells #[.int .i64 (q : Int)] 3)) := by
  obtain ⟨i0, hi, hz0, hz1, hz2⟩ := info_parts infoInt
  refine wpList_append_own _ hgd s x _ ho base 3 i0 (.int .i64 0) 1 8 Tryd.underlying30 hi hz0 hz1 hz2 rfl (by decide) v _ _ hs (World.ownsRow.alloc hown _) ⟨w.heap.size, 0, none⟩ 1 1 [.int .i64 (q : Int)] hx rfl ?_ ?_ (by unfold maxLen; omega) (by omega) (by rw [World.size_alloc]; omega) ?_
  · intro j u hj
    have hj0 : j = 0 := by
      cases j with
      | zero => rfl
      | succ j => simp at hj
    subst hj0
    simp only [List.getElem?_cons_zero, Option.some.injEq] at hj
    subst hj
    have hplain : (⟨w.heap.size, 0, none⟩ : Addr).add 0 = ⟨w.heap.size, 0, none⟩ := by unfold Addr.add; split <;> simp_all
    rw [hplain, World.cell?_alloc_new]
    rfl
  · intro u hu
    simp only [List.mem_cons, List.not_mem_nil, or_false] at hu
    subst hu
    rfl
  · intro v' w' hown' hgr _
    refine h v' w' ?_ (fun B w1 hb hB => (hb.alloc (by have := hb.size; omega) _).grown hgr (by rw [World.size_alloc]; omega) (fun k hk => ?_))
    · have e : ic (D ++ [q]) = ic D ++ [.int .i64 (q : Int)] := by simp [ic]
      unfold OwnI
      rw [e]
      simpa using hown'
    · have := (World.ownsRow.lt hown) k hk
      omega
theorem ownI_slice {w : World} {base : Nat} {v : Value} {D : List Nat} (h : OwnI w base v D) (hD : D ≠ []) : ∃ g c, v = .slice (some ⟨g, 0, none⟩) D.length c ∧ D.length ≤ c ∧ c ≤ 9223372036854775807 ∧ ∀ k, k < D.length → w.cell? ⟨g, k, none⟩ = some (.int .i64 ((D.getD k 0 : Nat) : Int)) := by
  have h' := h
  obtain ⟨_, h2⟩ := h
  rcases h2 with ⟨_, hn⟩ | ⟨g, cap, cur, hv, _, _, hnc, hcm, _⟩
  · exact absurd (List.eq_nil_of_length_eq_zero hn) hD
  · unfold maxLen at hcm
    refine ⟨g, cap, hv, hnc, by omega, fun k hk => ?_⟩
    unfold OwnI at h'
    rw [hv] at h'
    rw [h'.cellAt k (by omega)]
    simp [ic, List.getD, hk]

/-- new offsets -/
def EdgesPost (D : List Nat) (w : World) (e : Ending) (w' : World) : Prop := ∃ v, e = .returned v ∧ OwnI w' w.heap.size v D ∧ Below w.heap.size w w'

set_option maxHeartbeats 1000000 in
theorem redges_any (v : Value) (n : Nat) (g : Nat → Int) (u : Bool) (w : World) (hv : Sl w v n g) (hn2 : n ≤ 2000) :
    Calls Tryd.prog 17 #[v, .bool u] w (EdgesPost (edgesL u g n) w) := by
  have Hg := Lib.hid hv.1
  have HN := Lib.hid (fun (a : Int) w1 (hb : Below w.heap.size w w1) => rnext_any v n g a u w1 (below_sl hb hv))
  obtain ⟨a1, c1, hv1⟩ : ∃ a c, v = .slice a n c := by
    obtain ⟨_, _, ⟨rfl, a, c, hv, _⟩ | ⟨b, off, cap, hv, _⟩⟩ := hv
    · exact ⟨_, _, hv⟩
    · exact ⟨_, _, hv⟩
  subst hv1
  have HP := Lib.hid (fun (p : Nat) (hp : p < n) => nextP_step u g n p Hg.out hp)
  have HB := Lib.hid (fun (p : Nat) (hp : p < n) => stepN_bd (utf := u) Hg.out hp)
  have HV := Lib.hid (fun p h => edges_step (utf := u) (g := g) (n := n) (p := p) Hg.out h)
  have HE := Lib.hid (fun p h => edges_end (utf := u) (g := g) (n := n) (p := p) h)
  have H0 : edgesL u g n = [0] ++ edgesF u g n n 0 := rfl
  generalize edgesL u g n = R at *
  have HR := Lib.hid H0
  clear H0 hv
  go_enter Tryd.func17, Tryd.ntmps17
  go_wp2_with fail
  go_loopw [5, 6] (fun va i wr => ∃ (p : Nat) (D : List Nat), p ≤ n ∧ i = .int .i64 p ∧ Hid (OwnI wr w.heap.size va D) ∧ Hid (R = D ++ edgesF u g n n p) ∧ Hid (D.length ≤ p + 1) ∧ Below w.heap.size w wr) (fun _ i _ => n - (intOf i).toNat)
  case atStart => exact ⟨0, [0], Nat.zero_le _, rfl, Lib.hid (World.ownsRow_lit w #[.int .i64 0] 1 (Nat.le_refl _) (by unfold maxLen; omega) rfl), HR, Lib.hid (by simp), (Below.refl _ _).alloc (Nat.le_refl _) _⟩
  case round =>
    obtain ⟨p, D, hp, rfl, HO, HK, HD, hb⟩ := hrel
    by_cases hpn : p < n
    · have C := HN.out (p : Int) _ hb
      rw [HP.out p hpn] at C
      have hst := HV.out p hpn
      have hbd := HB.out p hpn
      generalize stepN u g n p = q at *
      have HC := Lib.hid C
      have Hst := Lib.hid hst
      obtain ⟨q1, q2, _⟩ := hbd
      have hDl : D.length ≤ 4000 := by have := HD.out; omega
      have HDl := Lib.hid hDl
      clear C hst hDl
      go_wp2_with fail
      refine HC.out.mono ?_
      rintro e w3 ⟨rfl, hd3⟩
      have hw3 := below_trans hb hd3
      have HO3 := Lib.hid (ownI_below HO.out hd3)
      go_wp2_with (at_builtin; refine wpList_append_int rfl _ _ rfl w.heap.size _ D rfl HO3.out q rfl HDl.out hw3.size ?_; intro vb wb hob hbb; have HOb := Lib.hid hob; have hwb := hbb _ _ hw3 (Nat.le_refl _); clear hob hbb)
      go_roundw
      case rel => exact ⟨q, D ++ [q], by omega, rfl, HOb, Lib.hid (by rw [HK.out, Hst.out]; simp), Lib.hid (by have := HD.out; simp; omega), hwb⟩
      case measure => simp [intOf]; omega
    · have hE := HE.out p (by omega)
      have hDR : R = D := by rw [HK.out, hE]; simp
      have HDR := Lib.hid hDR
      clear hE hDR
      go_wp2_with fail
      go_ret
      exact ⟨_, rfl, by rw [HDR.out]; exact HO.out, hb⟩
end Go.Proofs.YtmphapcogmjgnaaDoor.utfw
