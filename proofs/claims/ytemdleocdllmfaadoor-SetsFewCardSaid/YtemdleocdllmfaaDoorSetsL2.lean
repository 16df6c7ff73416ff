/- The walk of the law SetsFew. -/
import Derived.Test.YtemdleocdllmfaaDoorSetsL3
import Derived.Test.YtemdleocdllmfaaDoorLex
import Derived.Deep.QuietTactic
import Derived.BigQuiet
import Derived.Lib.QuietBelow
namespace Go.Proofs.YtemdleocdllmfaaDoor.setw
open Go Go.Sort Go.RowKit Go.Shelf Go.Proofs.YtemdleocdllmfaaDoor.bulk Go.Proofs.YtemdleocdllmfaaDoor.ucdp Go.Proofs.YtemdleocdllmfaaDoor.ucdw Go.Proofs.YtemdleocdllmfaaDoor.setp Go.Proofs.YtemdleocdllmfaaDoor.flt Go.Proofs.YtemdleocdllmfaaDoor.setl

theorem ownR_below {w w' : World} {base : Nat} {v : Value} {D : List Rg} (h : OwnR w base v D) (hb : Below w.heap.size w w') : OwnR w' base v D := by
  obtain ⟨⟨h1, h2⟩, hn⟩ := h
  refine ⟨⟨h1, ?_⟩, hn⟩
  rcases h2 with h2 | ⟨g, cap, cur, hv, hg, hh, r⟩
  · exact Or.inl h2
  · refine Or.inr ⟨g, cap, cur, hv, hg, ?_, r⟩
    have hlt : g < w.heap.size := by
      rcases Nat.lt_or_ge g w.heap.size with h | h
      · exact h
      · rw [Array.getElem?_eq_none h] at hh; cases hh
    rw [hb.block g hlt]
    exact hh
theorem ownR_at {w : World} {base g cap : Nat} {S : List Rg} (h : OwnR w base (.slice (some ⟨g, 0, none⟩) S.length cap) S) {k : Nat} (hk : k < S.length) : w.cell? ⟨g, k * 2, none⟩ = some (.int .i64 S[k].1) ∧ w.cell? ⟨g, k * 2 + 1, none⟩ = some (.int .i64 S[k].2) := by
  obtain ⟨g2, cap2, hv, _, _, _, hc⟩ := ownR_slice h (by intro e; rw [e] at hk; simp at hk)
  cases hv
  exact hc k hk
theorem ownR_frozen {w : World} {base g cap n : Nat} {S : List Rg} (h : OwnR w base (.slice (some ⟨g, 0, none⟩) n cap) S) : w.frozen? ⟨g, 0, none⟩ = false := by
  obtain ⟨⟨_, h2⟩, _⟩ := h
  rcases h2 with ⟨hv, _⟩ | ⟨g2, cap2, cur, hv, hg, hh, r⟩
  · cases hv
  · cases hv
    simp [World.frozen?, hh]
theorem hasB_hit' {l : List Rg} {k : Nat} (hk : k < l.length) {c : Int} (h1 : l[k].1 ≤ c) (h2 : c ≤ l[k].2) : hasB l c = true := hasB_iff.2 ⟨l[k], List.getElem_mem hk, h1, h2⟩
/-- plainly: what the law asks of each range -/
theorem few_pure {S : List Rg} (hS : Canon S) {k : Nat} (hk : k < S.length) : hasB S S[k].1 = true ∧ hasB S S[k].2 = true ∧ hasB S (S[k].1 - 1) = false ∧ hasB S (S[k].2 + 1) = false := by
  have hr := hS.2 _ (List.getElem_mem hk)
  have out : ∀ c, (c = S[k].1 - 1 ∨ c = S[k].2 + 1) → hasB S c = false := by
    intro c hc
    rw [Bool.eq_false_iff]
    intro h
    have h2 := hasB_iff.1 h
    rcases (has_split k c).1 h2 with ⟨x, hx, h3⟩ | ⟨x, hx, h3⟩
    · obtain ⟨i, hi, rfl⟩ := List.mem_iff_getElem.1 hx
      have hik : i < k := by simp at hi; omega
      rw [List.getElem_take] at h3
      have hlt := canon_behind hS (i := i) (by omega) (r := S[k]) (by
        have : S[k] ∈ S.drop k := mem_drop hk
        have e : S.drop k = (S.drop (i + 1)).drop (k - (i + 1)) := by rw [List.drop_drop]; congr 1; omega
        rw [e] at this
        exact List.mem_of_mem_drop this)
      omega
    · rw [drop_cons hk] at hx
      rcases List.mem_cons.1 hx with rfl | hx
      · omega
      · have := canon_behind hS hk hx
        omega
  exact ⟨hasB_hit' hk (Int.le_refl _) hr.2.1, hasB_hit' hk hr.2.1 (Int.le_refl _), out _ (Or.inl rfl), out _ (Or.inr rfl)⟩
/-- a later world -/
def InB (wr w' : World) : Prop := Below wr.heap.size wr w'
theorem inB_drew (w : World) : InB w w.drew := below_drew w
theorem inB_on {wr w w' : World} (h : InB wr w) (hb : Below w.heap.size w w') : InB wr w' := below_trans h hb
theorem region_lit {P : Program} {id : Nat} {b : Bool} {Q : Exit → Act → World → Prop} {a : Act} {w : World} {l l' : List Oper} (h : l = l') (K : (Code.region id l'.toArray b).wp P Q a w) : (Code.region id l.toArray b).wp P Q a w := h ▸ K
def t12 : List lex.Row := [(30, [7], []), (31, [9], []), (32, [29, 30], [0, 1]), (33, [31], [2]), (34, [32], [3]), (35, [7], []), (36, [9], []), (37, [34, 35], [5, 6]), (38, [36], [7]), (39, [37], [8]), (40, [33, 38], [4, 9]), (41, [39], [10]), (42, [7, 40], [11]), (43, [9, 40], [11]), (44, [41, 42, 40], [12, 13, 11]), (45, [43, 40], [14, 11]), (46, [44, 40], [15, 11]), (47, [45, 40], [16, 11]), (48, [40, 46], [11, 17]), (49, [47], [18, 11]), (50, [7, 48], [19]), (51, [9, 48], [19]), (52, [49, 50, 48], [20, 21, 19]), (53, [51, 48], [22, 19]), (54, [52, 48], [23, 19]), (55, [1, 48], [19]), (56, [53, 54, 48], [24, 25, 19]), (57, [48, 55], [19, 26]), (58, [56], [27, 19]), (59, [7, 57], [28]), (60, [9, 57], [28]), (61, [58, 59, 57], [29, 30, 28]), (62, [60, 57], [31, 28]), (63, [61, 57], [32, 28]), (64, [62, 57], [33, 28]), (65, [57, 63], [28, 34]), (66, [64], [35, 28]), (67, [6, 65], [36]), (68, [7, 65], [36]), (69, [9, 65], [36]), (70, [67, 68, 65], [38, 39, 36]), (71, [69, 65], [40, 36]), (72, [70, 65], [41, 36]), (73, [66, 71, 65], [37, 42, 36, 36]), (74, [72, 65], [43, 36]), (75, [65, 73], [36, 44]), (76, [74], [45, 43]), (77, [6, 75], [46]), (78, [7, 75], [46]), (79, [9, 75], [46]), (80, [77, 78, 75], [48, 49, 46]), (81, [79, 75], [50, 46]), (82, [80, 75], [51, 46]), (83, [76, 81, 75], [47, 52, 46, 46]), (84, [82, 75], [53, 46]), (85, [75, 83], [46, 54]), (86, [84], [55, 53]), (87, [6, 85], [56]), (88, [7, 85], [56]), (89, [9, 85], [56]), (90, [87, 88, 85], [58, 59, 56]), (91, [89, 85], [60, 56]), (92, [90, 85], [61, 56]), (93, [91, 85], [62, 56]), (94, [86, 92, 85], [57, 63, 56, 56]), (95, [85, 93], [56, 64]), (96, [94], [65, 64]), (97, [6, 95], [66]), (98, [7, 95], [66]), (99, [9, 95], [66]), (100, [97, 98, 95], [68, 69, 66]), (101, [99, 95], [70, 66]), (102, [100, 95], [71, 66]), (103, [101, 95], [72, 66]), (104, [96, 102, 95], [67, 73, 66, 66]), (105, [95, 103], [66, 74]), (106, [104], [75, 74]), (107, [9, 105], [76]), (108, [106, 105], [77, 76]), (109, [107, 105], [78, 76, 76]), (110, [7, 108], [79]), (111, [9, 108], [79]), (112, [110, 108], [81, 79]), (113, [109, 111, 108], [80, 82, 79]), (114, [112, 108], [83, 79]), (115, [113, 108], [84, 79]), (116, [114, 108], [85, 79]), (117, [7, 108], [79]), (118, [9, 108], [79]), (119, [116, 117, 108], [87, 88, 79]), (120, [118, 108], [89, 79]), (121, [119, 108], [90, 79]), (122, [115, 120, 108], [86, 91, 79]), (123, [108, 121, 105], [79, 92, 76]), (124, [105, 122], [76, 93])]
theorem t12_ok : lex.chk 0 t12 = true := by kernel_rfl
/-- how far the law's loop has come -/
def FRel (S : List Rg) (vr : Value) (w3 : World) (v i : Value) (wr : World) : Prop := ∃ k : Nat, k ≤ S.length ∧ i = .int .i64 k ∧ v = .int .i64 (tot (S.take k)) ∧ Below w3.heap.size w3 wr ∧ OwnR wr w3.heap.size vr S

set_option maxRecDepth 100000 in
set_option maxHeartbeats 8000000 in
theorem few_law (v : Value) (l : List Rg) (most : Int) (w : World) (hv : RsAt w v l) (h1 : -9223372036854775808 ≤ most) (h2 : most ≤ 9223372036854775807) (hT : Tab3 w) :
    Calls Tryd.prog 7 #[v, .int .i64 most] w (BoolB true w) := by
  have H0 := Lib.hid (awake_any w hT)
  have HV := Lib.hid hv
  obtain ⟨a, cap, rfl⟩ := rsAt_len hv
  clear hv hT
  by_cases hbig : (200 : Int) < l.length
  · go_enter Tryd.func7, Tryd.ntmps7
    go_wp2_with fail
    refine H0.out.mono ?_
    rintro e w1 ⟨rfl, hb1⟩
    go_wp2_with fail
    go_ret
    exact ⟨rfl, hb1⟩
  go_enter Tryd.func7, Tryd.ntmps7
  go_wp2_with fail
  refine H0.out.mono ?_
  rintro e w1 ⟨rfl, hb1⟩
  have HB1 := Lib.hid hb1
  clear hb1
  go_wp2_with fail
  refine (new_any _ l most w1 (rsAt_below HV.out HB1.out) (by omega) h1 h2).mono ?_
  rintro e w2 ⟨v2, S, rfl, hS, hh, hz, hb2⟩
  obtain ⟨gs, cs, rfl⟩ := zsAt_len hz
  have hl := canon_len hS
  have HL3 := Lib.hid (st_push (st_nil HB1.out) hb2 hz 27)
  have HS := Lib.hid hS
  have HM := Lib.hid (fun r (hr : r ∈ S) => ((hh r.2).1 ⟨r, hr, (hS.2 r hr).2.1, Int.le_refl _⟩).2.2)
  clear hS hh hz hb2
  go_wp2_with fail
  generalize hbs : w2.heap.size = bs at *
  generalize w2.alloc _ = w3 at *
  clear hbs
  refine (ranges_any _ S 0 w3 HS.out (st_z (b := bs) HL3.out (by simp))).mono ?_
  rintro e w4 ⟨v4, rfl, hr4, hb4⟩
  have HB4 := Lib.hid hb4
  have HR4 := Lib.hid hr4
  have HZ : Hid (∀ wi, Below w3.heap.size w3 wi → ZsAt 0 wi (.slice gs S.length cs) S) := fun wi h => st_z (b := bs) (st_on HL3.out h) (by simp)
  have HCs : Hid (∀ wi, Below w3.heap.size w3 wi → wi.cell? ⟨bs, 0, none⟩ = some (.slice gs S.length cs)) := fun wi h => st_cell (S := S) (st_on HL3.out h) (by simp)
  by_cases hE : S = []
  · subst hE
    obtain rfl := hr4.2 rfl
    clear hr4 hb4 HR4 hl HM
    simp only [List.length_nil] at HL3 HZ HCs
    go_wp2_with fail
    go_loopw [8, 9] (fun v i wr => v = .int .i64 0 ∧ i = .int .i64 0 ∧ Below w3.heap.size w3 wr) (fun _ _ _ => 0)
    case atStart => exact ⟨rfl, rfl, HB4.out⟩
    case round =>
        obtain ⟨rfl, rfl, hb⟩ := hrel
        have hs := HCs.out _ hb
        have hHZ := HZ.out _ hb
        go_wp2_with fail
        refine (ranges_any _ [] 0 _ HS.out hHZ).mono ?_
        rintro e w7 ⟨v7, rfl, hr7, hb7⟩
        obtain rfl := hr7.2 rfl
        have HB7 := Lib.hid (hb.trans (Below.mono hb7 hb.size))
        clear hr7 hb7 hb hs hHZ HB4
        have cn := cell_new w7 (.slice none 0 0) 27
        have HB8 : Hid (Below w3.heap.size w3 (w7.alloc (.cells #[.slice none 0 0] 27))) := HB7.out.trans (Below.mono cn.2.2.2 HB7.out.size)
        have cn1 := cn.1

        go_upto_region 19 with (fail)
        clear cn
        generalize w7.heap.size = bn at *
        generalize w7.alloc _ = w8 at *
        have HN : Hid (∀ wi, Below w8.heap.size w8 wi → wi.cell? ⟨bn, 0, none⟩ = some (.slice none 0 0) ∧ wi.cell? ⟨bs, 0, none⟩ = some (.slice gs 0 cs)) := fun wi h => ⟨(h.cell (p := ⟨bn, 0, none⟩) (cell_lt cn1)).trans cn1, (h.cell (p := ⟨bs, 0, none⟩) (cell_lt (HCs.out _ HB8.out))).trans (HCs.out _ HB8.out)⟩
        have HCt : Hid (∀ wi, ZsAt 0 wi (.slice gs 0 cs) [] → Calls Tryd.prog 15 #[.agg #[(.slice gs 0 cs)]] wi (IntB 0 wi)) := fun wi h => by have := count_any _ [] 0 wi HS.out h; exact this
        have HC0 : Hid (∀ wi, Calls Tryd.prog 15 #[.agg #[.slice none 0 0]] wi (IntB 0 wi)) := fun wi => count_any (.slice none 0 0) [] 0 wi canon_nil (Or.inl ⟨rfl, rfl⟩)
        have HH0 : Hid (∀ wi, Calls Tryd.prog 17 #[.agg #[.slice none 0 0], .int .i64 0] wi (BoolB false wi)) := fun wi => has_any (.slice none 0 0) [] 0 0 wi canon_nil (Or.inl ⟨rfl, rfl⟩)
        obtain ⟨n1, n2⟩ := HN.out _ (Below.refl _ _)
        clear cn1
        go_wp2_with fail
        refine (HCt.out _ (HZ.out _ HB8.out)).mono ?_
        rintro e w9 ⟨rfl, hb9⟩
        clear n1 n2 
        have HBa := Lib.hid hb9
        obtain ⟨n1, n2⟩ := HN.out _ hb9
        clear hb9
        go_wp2_with fail
        refine (HC0.out _).mono ?_
        rintro e wb ⟨rfl, hbb⟩
        clear n1 n2 
        have HBb := Lib.hid (below_trans HBa.out hbb)
        obtain ⟨n1, n2⟩ := HN.out _ HBb.out
        clear hbb
        go_wp2_with fail
        refine (HH0.out _).mono ?_
        rintro e wc ⟨rfl, hbc⟩
        clear n1 n2 
        have HBc := Lib.hid (below_trans HBb.out hbc)
        obtain ⟨n1, n2⟩ := HN.out _ HBc.out
        clear hbc
        go_wp2_with fail
        refine (ranges_any (.slice none 0 0) [] 0 _ canon_nil (Or.inl ⟨rfl, rfl⟩)).mono ?_
        rintro e wd ⟨vd, rfl, hrd, hbd⟩
        obtain rfl := hrd.2 rfl
        have hend : Below w.heap.size w wd := below_trans (below_trans (below_trans HL3.out.1 HB8.out) HBc.out) hbd
        clear hrd hbd n1 n2 
        go_wp2_with fail
        go_ret
        exact ⟨rfl, hend⟩
  · obtain ⟨g, cr, rfl, hg0, hg1, hg2, _⟩ := ownR_slice hr4 hE
    clear hr4 hb4
    go_wp2_with fail
    go_loopw [8, 9] (fun v i wr => FRel S (.slice (some ⟨g, 0, none⟩) S.length cr) w3 v i wr) (fun _ i _ => S.length - (intOf i).toNat)
    case atStart => exact ⟨0, Nat.zero_le _, rfl, rfl, HB4.out, HR4.out⟩
    case round =>
      obtain ⟨k, hk, rfl, rfl, hb, hr⟩ := hrel
      have HB := Lib.hid hb
      have HR := Lib.hid hr
      clear hb hr
      by_cases hlt : k < S.length
      · obtain ⟨hc1, hc2⟩ := ownR_at HR.out hlt
        have hcs := HCs.out _ HB.out
        have hr := HS.out.2 _ (List.getElem_mem hlt)
        have hm := HM.out _ (List.getElem_mem hlt)
        have hp := few_pure HS.out hlt
        have HAt := Lib.hid (fun wi (h : Below wr.heap.size wr wi) => ownR_at (ownR_below HR.out h) hlt)
        have HPr := Lib.hid (fun (j : Nat) (hj : j + 1 = k) (hj2 : j < S.length) => (show S[j].2 + 1 < S[k].1 by subst hj; exact canon_next HS.out hlt))
        have ht1 := tot_canon (canon_take HS.out k)
        have ht2 := tot_canon (canon_take HS.out (k + 1))
        rw [take_snoc hlt, tot_snoc] at ht2
        have HT := Lib.hid (show tot (S.take (k + 1)) = tot (S.take k) + (S[k].2 - S[k].1 + 1) by rw [take_snoc hlt, tot_snoc])
        obtain ⟨x, y, hxy⟩ : ∃ x y, S[k] = (x, y) := ⟨_, _, rfl⟩
        rw [hxy] at hc1 hc2 hr hm hp HAt HPr ht2 HT
        simp only at hc1 hc2 hr hm hp HAt HPr ht2 HT
        obtain ⟨hx0, hxy1, hy1⟩ := hr
        obtain ⟨p1, p2, p3, p4⟩ := hp
        have hmy : y ≤ most := by omega
        have HQ1 : Hid (∀ wi, Below w3.heap.size w3 wi → Calls Tryd.prog 17 #[.agg #[.slice gs S.length cs], .int .i64 x] wi (BoolB true wi)) := fun wi h => by have := has_any _ S 0 x wi HS.out (HZ.out wi h); rwa [p1] at this
        have HQ2 : Hid (∀ wi, Below w3.heap.size w3 wi → Calls Tryd.prog 17 #[.agg #[.slice gs S.length cs], .int .i64 y] wi (BoolB true wi)) := fun wi h => by have := has_any _ S 0 y wi HS.out (HZ.out wi h); rwa [p2] at this
        have HQ3 : Hid (∀ wi, Below w3.heap.size w3 wi → Calls Tryd.prog 17 #[.agg #[.slice gs S.length cs], .int .i64 (x - 1)] wi (BoolB false wi)) := fun wi h => by have := has_any _ S 0 (x - 1) wi HS.out (HZ.out wi h); rwa [p3] at this
        have HQ4 : Hid (∀ wi, Below w3.heap.size w3 wi → Calls Tryd.prog 17 #[.agg #[.slice gs S.length cs], .int .i64 (y + 1)] wi (BoolB false wi)) := fun wi h => by have := has_any _ S 0 (y + 1) wi HS.out (HZ.out wi h); rwa [p4] at this
        generalize tot (S.take k) = t at *
        obtain ⟨ht3, ht4⟩ := ht1
        obtain ⟨ht5, ht6⟩ := ht2
        have t1 : decide (y < x) = false := decide_eq_false (by omega)
        have t2 : decide (x < 0) = false := decide_eq_false (by omega)
        have t3 : decide (most < y) = false := decide_eq_false (by omega)
        have t4 : decide (1114111 < y) = false := decide_eq_false (by omega)
        clear hxy p1 p2 p3 p4 hm
        have hki : (k : Int) < (S.length : Int) := by omega
        have kx := cell_regrown hc1
        have ky := cell_regrown hc2
        have ks := cell_regrown hcs
        have hcall : ∀ (c : Int) (b : Bool), (∀ wi, Below w3.heap.size w3 wi → Calls Tryd.prog 17 #[.agg #[.slice gs S.length cs], .int .i64 c] wi (BoolB b wi)) → ∀ d os, Calls Tryd.prog 17 #[.agg #[.slice gs S.length cs], .int .i64 c] (grow (redrawn wr d) os) fun e w'' => e = .returned (.bool b) ∧ ∃ p : Regrown, w'' = grow (redrawn wr p.d) p.os := fun c b h d os => Calls.regrown_of (h _ (HB.out.trans (Below.mono (below_regrown wr d os) HB.out.size)))
        have cA := hcall x true HQ1.out
        have cB := hcall y true HQ2.out
        have cC := hcall (x - 1) false HQ3.out
        have cD := hcall (y + 1) false HQ4.out
        clear hcall HQ1 HQ2 HQ3 HQ4 hc1 hc2 hcs
        go_upto_region 12 with (fail)
        go_cut [123] (fun v w' => v = .bool false ∧ InB wr w')
        case first =>
          by_cases hk0 : k = 0
          · subst hk0
            refine region_lit (by simp only [List.append]; rfl) ?_
            refine wp_region_quiet_below (by kernel_rfl) (lex.lexB_of (T := t12) (by kernel_rfl) t12_ok (by kernel_rfl)) ?_
            repeat (go_big_quiet_step (first | exact cA _ _ | exact cB _ _ | exact cC _ _ | exact cD _ _))
            refine wpQuiet_nil ?_
            intro _ hw'
            obtain ⟨⟨dq, osq⟩, hw''⟩ := hw'
            subst hw''
            go_wp2_with fail
            go_meet
            exact ⟨rfl, below_regrown wr dq osq⟩
          · have hk1 : 0 < k := by omega
            have hk2 : (0 : Int) < (k : Int) := by omega
            obtain ⟨j, hj⟩ : ∃ j, j + 1 = k := ⟨k - 1, by omega⟩
            have hjS : j < S.length := by omega
            have hz := HPr.out j hj hjS
            have hjk : (k : Int) - 1 = (j : Int) := by omega
            have hjS2 : (j : Int) < (S.length : Int) := by omega
            have kz := cell_regrown (ownR_at HR.out hjS).2
            have hzr := HS.out.2 _ (List.getElem_mem hjS)
            obtain ⟨z0, z, hzz⟩ : ∃ z0 z, S[j] = (z0, z) := ⟨_, _, rfl⟩
            rw [hzz] at hz kz hzr
            simp only at hz kz hzr
            obtain ⟨hz0, hz1, hz2⟩ := hzr
            have t5 : decide (x ≤ z + 1) = false := decide_eq_false (by omega)
            clear hzz
            refine region_lit (by simp only [List.append]; rfl) ?_
            refine wp_region_quiet_below (by kernel_rfl) (lex.lexB_of (T := t12) (by kernel_rfl) t12_ok (by kernel_rfl)) ?_
            repeat (go_big_quiet_step (first | exact cA _ _ | exact cB _ _ | exact cC _ _ | exact cD _ _))
            refine wpQuiet_nil ?_
            intro _ hw'
            obtain ⟨⟨dq, osq⟩, hw''⟩ := hw'
            subst hw''
            go_wp2_with fail
            go_meet
            exact ⟨rfl, below_regrown wr dq osq⟩
        case rest =>
          obtain ⟨rfl, hbx⟩ := hcut
          obtain ⟨hc1, hc2⟩ := HAt.out _ hbx
          have kx2 := cell_regrown hc1
          have ky2 := cell_regrown hc2
          go_wp2_with fail
          refine wp_region_quiet_below (by kernel_rfl) (by kernel_rfl) ?_
          repeat (go_big_quiet_step (fail))
          refine wpQuiet_nil ?_
          intro _ hw'
          obtain ⟨⟨dq, osq⟩, hw''⟩ := hw'
          subst hw''
          have hbq := below_trans hbx (below_regrown _ dq osq)
          clear kx2 ky2 hc1 hc2
          go_wp2_with fail
          go_roundw
          case rel => exact ⟨k + 1, by omega, by go_num, by rw [HT.out], HB.out.trans (Below.mono hbq HB.out.size), ownR_below HR.out hbq⟩
          case measure => simp [intOf]; omega
      · obtain rfl : k = S.length := by omega
        have hSp : 0 < S.length := List.length_pos_iff.2 hE
        have hSp2 : (0 : Int) < (S.length : Int) := by omega
        have hc1 := (ownR_at HR.out hSp).1
        simp only [Nat.zero_mul] at hc1
        rw [List.take_length]
        generalize htS : tot S = t at *
        have hHZ := fun v => HZ.out _ (Below.setCell HB.out (p := ⟨g, 0, none⟩) hg0 v)
        have hHC := fun v => HCs.out _ (Below.setCell HB.out (p := ⟨g, 0, none⟩) hg0 v)
        have hHB := fun v => Below.setCell HB.out (p := ⟨g, 0, none⟩) hg0 v
        have hfz : wr.frozen? ⟨g, 0, none⟩ = false := ownR_frozen HR.out
        go_wp2_with fail
        refine (ranges_any _ S 0 _ HS.out (hHZ _)).mono ?_
        rintro e w7 ⟨v7, rfl, hr7, hb7⟩
        obtain ⟨g7, c7, rfl, _, hl7, hl8, hcell7⟩ := ownR_slice hr7 hE
        have HB7 := Lib.hid ((hHB (.int .i64 (-9))).trans (Below.mono hb7 (hHB (.int .i64 (-9))).size))
        have hc7 := (hcell7 0 hSp).1
        simp only [Nat.zero_mul] at hc7
        have hx0 := (HS.out.2 _ (List.getElem_mem hSp)).1
        generalize S[0].1 = x0 at *
        clear hr7 hb7 hcell7 hHZ hHC hHB hc1 hfz
        have cn := cell_new w7 (.slice none 0 0) 27
        have HB8 : Hid (Below w3.heap.size w3 (w7.alloc (.cells #[.slice none 0 0] 27))) := HB7.out.trans (Below.mono cn.2.2.2 HB7.out.size)
        have cn1 := cn.1
        have c8 := (cn.2.2.2.cell (p := ⟨g7, 0, none⟩) (cell_lt hc7)).trans hc7
        go_upto_region 19 with (fail)
        clear cn
        generalize w7.heap.size = bn at *
        generalize w7.alloc _ = w8 at *
        have HN : Hid (∀ wi, Below w8.heap.size w8 wi → wi.cell? ⟨bn, 0, none⟩ = some (.slice none 0 0) ∧ wi.cell? ⟨bs, 0, none⟩ = some (.slice gs S.length cs) ∧ wi.cell? ⟨g7, 0, none⟩ = some (.int .i64 x0)) := fun wi h => ⟨(h.cell (p := ⟨bn, 0, none⟩) (cell_lt cn1)).trans cn1, (h.cell (p := ⟨bs, 0, none⟩) (cell_lt (HCs.out _ HB8.out))).trans (HCs.out _ HB8.out), (h.cell (p := ⟨g7, 0, none⟩) (cell_lt c8)).trans c8⟩
        have HCt : Hid (∀ wi, ZsAt 0 wi (.slice gs S.length cs) S → Calls Tryd.prog 15 #[.agg #[(.slice gs S.length cs)]] wi (IntB t wi)) := fun wi h => by have := count_any _ S 0 wi HS.out h; rwa [htS] at this
        have HC0 : Hid (∀ wi, Calls Tryd.prog 15 #[.agg #[.slice none 0 0]] wi (IntB 0 wi)) := fun wi => count_any (.slice none 0 0) [] 0 wi canon_nil (Or.inl ⟨rfl, rfl⟩)
        have HH0 : Hid (∀ wi, Calls Tryd.prog 17 #[.agg #[.slice none 0 0], .int .i64 0] wi (BoolB false wi)) := fun wi => has_any (.slice none 0 0) [] 0 0 wi canon_nil (Or.inl ⟨rfl, rfl⟩)
        obtain ⟨n1, n2, n3⟩ := HN.out _ (Below.refl _ _)
        clear cn1 c8
        go_wp2_with fail
        refine (HCt.out _ (HZ.out _ HB8.out)).mono ?_
        rintro e w9 ⟨rfl, hb9⟩
        clear n1 n2 n3
        have HBa := Lib.hid hb9
        obtain ⟨n1, n2, n3⟩ := HN.out _ hb9
        clear hb9
        go_wp2_with fail
        refine (HC0.out _).mono ?_
        rintro e wb ⟨rfl, hbb⟩
        clear n1 n2 n3
        have HBb := Lib.hid (below_trans HBa.out hbb)
        obtain ⟨n1, n2, n3⟩ := HN.out _ HBb.out
        clear hbb
        go_wp2_with fail
        refine (HH0.out _).mono ?_
        rintro e wc ⟨rfl, hbc⟩
        clear n1 n2 n3
        have HBc := Lib.hid (below_trans HBb.out hbc)
        obtain ⟨n1, n2, n3⟩ := HN.out _ HBc.out
        clear hbc
        go_wp2_with fail
        refine (ranges_any (.slice none 0 0) [] 0 _ canon_nil (Or.inl ⟨rfl, rfl⟩)).mono ?_
        rintro e wd ⟨vd, rfl, hrd, hbd⟩
        obtain rfl := hrd.2 rfl
        have hend : Below w.heap.size w wd := below_trans (below_trans (below_trans HL3.out.1 HB8.out) HBc.out) hbd
        clear hrd hbd n1 n2 n3
        go_wp2_with fail
        go_ret
        exact ⟨rfl, hend⟩
end Go.Proofs.YtemdleocdllmfaaDoor.setw
