/- An element is right behind some: the document's side: walks. -/
import Derived.Test.YtfgnepbpfglepaaDq1Z
import Derived.Test.YtfgnepbpfglepaaFF
import Derived.Deep.RegionWith
namespace Go.Proofs.Ytfgnepbpfglepaa
open Go.RowKit
set_option linter.unusedVariables false
set_option linter.unusedSimpArgs false

theorem nameS_eq (s : ByteArray) : nameS s = (!emptyS s && rightS s) := rfl
theorem okA_eq {l : List At3} {k : Nat} {t : At3} (h : l[k]? = some t) : okA l k = (!(l.take k).any (fun u => oneN u t) && (rightS t.space && ((!emptyS t.name && rightS t.name) && rightS t.val))) := by unfold okA; rw [h]; rfl

set_option maxRecDepth 100000 in
set_option maxHeartbeats 8000000 in
theorem rnode_el (x : Nd) (ats : Option Addr) (m d : Nat) (sts : Option Addr) (m' d' : Nat) (xs : List Nd) (a : Option Addr) (n c : Nat) (w : World) (hx : RdN (· < w.heap.size) w a n c xs) (hA : RdA (· < w.heap.size) w ats m d x.attrs) (hS : RdS (· < w.heap.size) w sts m' d' x.states)
    (hz0 : x.space.size ≤ 140737488351232) (hz1 : x.name.size ≤ 140737488351232) (hp : parB x.par xs = true) (hk : x.kind = 1) :
    Calls Try.prog 20 #[.slice a n c, .agg #[.int .i64 x.par, .int .i64 x.kind, .string x.space, .string x.name, .slice ats m d, .slice sts m' d', .string x.text]] w (Told (.bool (elB x)) w) := by
  have hml : n ≤ 9223372036854775807 := by have := hx.2.1; have := hx.2.2.1.1; unfold maxLen at this; omega
  have hmm : m ≤ 9223372036854775807 := by have := hA.2.1; have := hA.2.2.1.1; unfold maxLen at this; omega
  have hmm' : m' ≤ 9223372036854775807 := by have := hS.2.1; have := hS.2.2.1.1; unfold maxLen at this; omega
  have hpc := par_cases x.par xs a n c w hx
  have f1 := fun w => rright_any x.name w hz1
  have f2 := fun w => rright_any x.space w hz0
  have hE0 := emptyS_eq x.text
  have hE1 := emptyS_eq x.name
  have HMA := Lib.hid hA.1
  have HMS := Lib.hid hS.1
  have HA := Lib.hid hA
  have HS := Lib.hid hS
  obtain ⟨R, hR⟩ : ∃ R, elB x = R := ⟨_, rfl⟩
  have HR : Hid ((emptyS x.text && (rightS x.space && ((!emptyS x.name && rightS x.name) && (attrsB x.attrs && statesB x.states)))) = R) := Lib.hid hR
  rw [hR, hk]
  clear hx hA hS hz0 hz1 hk hR
  generalize x.space = sp at *
  generalize x.name = nm at *
  generalize x.text = tx at *
  generalize x.attrs = l at *
  generalize x.states = ls at *
  rcases hpc with ⟨h, _⟩ | ⟨_, hpc⟩
  · rw [hp] at h; cases h
  clear hp
  have H := fun p : Int => Lib.hid ((Below.refl w.heap.size w).alloc (Nat.le_refl _) (.cells #[.int .i64 p, .int .i64 1, .string sp, .string nm, .slice ats m d, .slice sts m' d', .string tx] 44))
  have HB := fun p : Int => Lib.hid (show Blk (w.alloc (.cells #[.int .i64 p, .int .i64 1, .string sp, .string nm, .slice ats m d, .slice sts m' d', .string tx] 44)) w.heap.size [.int .i64 p, .int .i64 1, .string sp, .string nm, .slice ats m d, .slice sts m' d', .string tx] 44 from Blk.alloc _ _)
  generalize emptyS tx = r1 at *
  generalize emptyS nm = r2 at *
  generalize rightS nm = r3 at *
  generalize rightS sp = r4 at *
  have hpf : ∃ P : Int, x.par = P ∧ ((P = -1) ∨ (∃ (k b off : Nat), P = (k : Int) ∧ k < n ∧ a = some ⟨b, off, none⟩ ∧ b < w.heap.size ∧ w.cell? ⟨b, off + k * 7 + 1, none⟩ = some (.int .i64 1))) := ⟨_, rfl, hpc⟩
  clear hpc
  obtain ⟨P, hP, hpc⟩ := hpf
  rw [hP]
  clear hP
  have HBX := H P
  have HB1 := HB P
  clear H HB
  have hpt : (¬ P < -1 ∧ ¬ (n : Int) ≤ P) ∧ ((¬ (0 : Int) ≤ P) ∨ (∃ (k b off : Nat), P = (k : Int) ∧ (0 : Int) ≤ (k : Int) ∧ (k : Int) < (n : Int) ∧ a = some ⟨b, off, none⟩ ∧ (w.alloc (.cells #[.int .i64 P, .int .i64 1, .string sp, .string nm, .slice ats m d, .slice sts m' d', .string tx] 44)).cell? ⟨b, off + k * 7 + 1, none⟩ = some (.int .i64 1))) := by
    rcases hpc with rfl | ⟨k, b, off, rfl, hk, ha, hb, hc⟩
    · exact ⟨⟨by omega, by omega⟩, .inl (by omega)⟩
    · exact ⟨⟨by omega, by omega⟩, .inr ⟨k, b, off, rfl, by omega, by omega, ha, (HBX.out.cell (p := ⟨b, off + k * 7 + 1, none⟩) hb).trans hc⟩⟩
  clear hpc
  obtain ⟨⟨p1, p2⟩, p3⟩ := hpt
  by_cases hgood : r1 = true ∧ r2 = false ∧ r3 = true ∧ r4 = true
  rotate_left
  · have hRf : R = false := by
      rw [← HR.out]
      cases r1 <;> cases r2 <;> cases r3 <;> cases r4 <;> simp_all
    subst hRf
    clear HR
    have hbad : r1 = false ∨ (r1 = true ∧ r2 = true) ∨ (r1 = true ∧ r2 = false ∧ r3 = false) ∨ (r1 = true ∧ r2 = false ∧ r3 = true ∧ r4 = false) := by
      cases r1 <;> cases r2 <;> cases r3 <;> cases r4 <;> simp_all
    clear hgood
    rcases p3 with p3 | ⟨k, b, off, rfl, p3, p4, rfl, p5⟩
    all_goals
      rcases hbad with rfl | ⟨rfl, rfl⟩ | ⟨rfl, rfl, rfl⟩ | ⟨rfl, rfl, rfl, rfl⟩
      · go_enter Try.func20, Try.ntmps20
        go_wp2
        go_ret
        exact ⟨rfl, HBX.out⟩
      · go_enter Try.func20, Try.ntmps20
        go_wp2
        go_ret
        exact ⟨rfl, HBX.out⟩
      · go_enter Try.func20, Try.ntmps20
        go_wp2_with (go_at_call 44; (with_reducible refine (f1 _).mono ?_); rintro e w2 ⟨rfl, hb2⟩; have H2 := HBX.out.trans (hb2.mono HBX.out.size))
        go_ret
        exact ⟨rfl, H2⟩
      · go_enter Try.func20, Try.ntmps20
        go_wp2_with (first
          | (go_at_call 44; (with_reducible refine (f1 _).mono ?_); rintro e w2 ⟨rfl, hb2⟩; have H2 := HBX.out.trans (hb2.mono HBX.out.size); have B2 := HB1.out.later hb2 HB1.out.lt; have g2 := B2.cell 2 _ rfl)
          | (go_at_call 44; (with_reducible refine (f2 _).mono ?_); rintro e w3 ⟨rfl, hb3⟩; have H3 := H2.trans (hb3.mono H2.size)))
        go_ret
        exact ⟨rfl, H3⟩
  obtain ⟨rfl, rfl, rfl, rfl⟩ := hgood
  have HR2 : Hid ((attrsB l && statesB ls) = R) := Lib.hid (by have := HR.out; simpa using this)
  clear HR
  have hdone : ∃ W0 L, W0 = w.alloc (.cells #[.int .i64 P, .int .i64 1, .string sp, .string nm, .slice ats m d, .slice sts m' d', .string tx] 44) ∧ Blk W0 w.heap.size L 44 ∧ L[4]? = some (.slice ats m d) ∧ L[5]? = some (.slice sts m' d') := ⟨_, _, rfl, HB1.out, rfl, rfl⟩
  rcases p3 with p3 | ⟨k0, b0, off0, rfl, p3, p4, rfl, p5⟩
  all_goals
    go_enter Try.func20, Try.ntmps20
    go_wp2_with (first
      | (go_at_call 44; (with_reducible refine (f1 _).mono ?_); rintro e w2 ⟨rfl, hb2⟩; have H2 := HBX.out.trans (hb2.mono HBX.out.size); have B2 := HB1.out.later hb2 HB1.out.lt; have g2 := B2.cell 2 _ rfl)
      | (go_at_call 44; (with_reducible refine (f2 _).mono ?_); rintro e w3 ⟨rfl, hb3⟩; have H3 := H2.trans (hb3.mono H2.size); have B3 := B2.later hb3 B2.lt))
    have hL : ∃ L : List Value, Blk w3 w.heap.size L 44 ∧ L[4]? = some (.slice ats m d) ∧ L[5]? = some (.slice sts m' d') := ⟨_, B3, rfl, rfl⟩
    obtain ⟨L, hLB, hL4, hL5⟩ := hL
    have HL4 := Lib.hid hL4
    have HL5 := Lib.hid hL5
    have HLB := Lib.hid hLB
    have HW3 := Lib.hid H3
    clear g2 B2 B3 hLB hL4 hL5 H2 H3 hb2 hb3 hdone
    go_loopw [5] (fun i wr => ∃ k : Nat, k ≤ m ∧ i = .int .i64 k ∧ Hid (allTo (okA l) k = true) ∧ Hid (Blk wr w.heap.size L 44) ∧ Hid (Below w.heap.size w wr)) (fun i _ => m - (intOf i).toNat)
    case atStart => exact ⟨0, Nat.zero_le _, rfl, Lib.hid rfl, HLB, HW3⟩
    case round =>
      obtain ⟨k, hk, rfl, hp, HBL, HW⟩ := hrel
      have c4 := HBL.out.cell 4 _ HL4.out
      by_cases hlt : k < m
      · obtain ⟨t, hx⟩ : ∃ t, l[k]? = some t := ⟨_, List.getElem?_eq_getElem (by rw [← HMA.out]; exact hlt)⟩
        have HAr := HA.out.later HW.out (Nat.le_refl _)
        obtain ⟨b, off, rfl, hb, x0, x1, x2, y0, y1, y2⟩ := HAr.at k t hx
        have hkI : (0 : Int) ≤ (k : Int) := by omega
        have hkI2 : (k : Int) < (m : Int) := by omega
        have e1 := fun w => rright_any t.name w y1
        have e2 := fun w => rright_any t.space w y0
        have e3 := fun w => rright_any t.val w y2
        have hEt := emptyS_eq t.name
        have HOK := Lib.hid (okA_eq hx)
        have HXK := Lib.hid hx
        obtain ⟨W1, hW1⟩ : ∃ W1, wr.alloc (.cells #[.string t.space, .string t.name, .string t.val] 56) = W1 := ⟨_, rfl⟩
        have C1 : Blk W1 wr.heap.size [.string t.space, .string t.name, .string t.val] 56 := by rw [← hW1]; exact Blk.alloc _ _
        have B1 : Blk W1 w.heap.size L 44 := by rw [← hW1]; exact HBL.out.alloc_old _
        have hb1 : Below w.heap.size w W1 := by rw [← hW1]; exact HW.out.alloc HW.out.size _
        have d0 := C1.cell 0 _ rfl
        have d1 := C1.cell 1 _ rfl
        have d2 := C1.cell 2 _ rfl
        have HC1 := Lib.hid C1
        have HB2 := Lib.hid B1
        have Hb1 := Lib.hid hb1
        clear hx C1 B1 hb1 HAr y0 y1 y2
        generalize emptyS t.name = q1 at *
        generalize rightS t.name = q2 at *
        generalize rightS t.space = q3 at *
        generalize rightS t.val = q4 at *
        by_cases hq : q1 = false ∧ q2 = true ∧ q3 = true ∧ q4 = true
        rotate_left
        · have hRf : R = false := by
            rw [← HR2.out]
            have : attrsB l = false := allTo_false (by rw [HOK.out]; cases q1 <;> cases q2 <;> cases q3 <;> cases q4 <;> simp_all) _ (by rw [← HMA.out]; exact hlt)
            rw [this]; rfl
          subst hRf
          have hbad : q1 = true ∨ (q1 = false ∧ q2 = false) ∨ (q1 = false ∧ q2 = true ∧ q3 = false) ∨ (q1 = false ∧ q2 = true ∧ q3 = true ∧ q4 = false) := by
            cases q1 <;> cases q2 <;> cases q3 <;> cases q4 <;> simp_all
          clear hq
          rcases hbad with rfl | ⟨rfl, rfl⟩ | ⟨rfl, rfl, rfl⟩ | ⟨rfl, rfl, rfl, rfl⟩
          · go_wp2
            go_ret
            exact ⟨rfl, Hb1.out⟩
          · go_wp2_with (go_at_call 44; (with_reducible refine (e1 _).mono ?_); rintro e w4 ⟨rfl, hb4⟩)
            go_ret
            exact ⟨rfl, Hb1.out.trans (hb4.mono Hb1.out.size)⟩
          · go_wp2_with (first
              | (go_at_call 44; (with_reducible refine (e1 _).mono ?_); rintro e w4 ⟨rfl, hb4⟩; have H4 := Hb1.out.trans (hb4.mono Hb1.out.size); have C4 := HC1.out.later hb4 HC1.out.lt; have d0 := C4.cell 0 _ rfl)
              | (go_at_call 44; (with_reducible refine (e2 _).mono ?_); rintro e w5 ⟨rfl, hb5⟩; have H5 := H4.trans (hb5.mono H4.size)))
            go_ret
            exact ⟨rfl, H5⟩
          · go_wp2_with (first
              | (go_at_call 44; (with_reducible refine (e1 _).mono ?_); rintro e w4 ⟨rfl, hb4⟩; have H4 := Hb1.out.trans (hb4.mono Hb1.out.size); have C4 := HC1.out.later hb4 HC1.out.lt; have d0 := C4.cell 0 _ rfl)
              | (go_at_call 44; (with_reducible refine (e2 _).mono ?_); rintro e w5 ⟨rfl, hb5⟩; have H5 := H4.trans (hb5.mono H4.size); have C5 := C4.later hb5 C4.lt; have d2 := C5.cell 2 _ rfl)
              | (go_at_call 44; (with_reducible refine (e3 _).mono ?_); rintro e w6 ⟨rfl, hb6⟩; have H6 := H5.trans (hb6.mono H5.size)))
            go_ret
            exact ⟨rfl, H6⟩
        obtain ⟨rfl, rfl, rfl, rfl⟩ := hq
        go_wp2_with (first
          | (go_at_call 44; (with_reducible refine (e1 _).mono ?_); rintro e w4 ⟨rfl, hb4⟩; have H4 := Hb1.out.trans (hb4.mono Hb1.out.size); have C4 := HC1.out.later hb4 HC1.out.lt; have D4 := HB2.out.later hb4 HB2.out.lt; have d0 := C4.cell 0 _ rfl)
          | (go_at_call 44; (with_reducible refine (e2 _).mono ?_); rintro e w5 ⟨rfl, hb5⟩; have H5 := H4.trans (hb5.mono H4.size); have C5 := C4.later hb5 C4.lt; have D5 := D4.later hb5 D4.lt; have d2 := C5.cell 2 _ rfl)
          | (go_at_call 44; (with_reducible refine (e3 _).mono ?_); rintro e w6 ⟨rfl, hb6⟩; have H6 := H5.trans (hb6.mono H5.size); have C6 := C5.later hb6 C5.lt; have D6 := D5.later hb6 D5.lt))
        have HA6 := Lib.hid (HA.out.later H6 (Nat.le_refl _))
        have h0 := C6.cell 0 _ rfl
        have h1 := C6.cell 1 _ rfl
        have h4 := D6.cell 4 _ HL4.out
        have HD6 := Lib.hid D6
        have HW6 := Lib.hid H6
        clear C4 C5 C6 D4 D5 D6 H4 H5 H6 hb4 hb5 hb6 d0 d1 d2 x0 x1 x2 c4
        go_loopw [7] (fun i wr' => ∃ j : Nat, j ≤ k ∧ i = .int .i64 j ∧ Hid ((l.take j).any (fun u => oneN u t) = false) ∧ ∃ q, wr' = w6.drewN q) (fun i _ => k - (intOf i).toNat)
        case atStart => exact ⟨0, Nat.zero_le _, rfl, Lib.hid rfl, 0, rfl⟩
        case round =>
          obtain ⟨j, hj, rfl, hq, q, rfl⟩ := hrel
          by_cases hjk : j < k
          · obtain ⟨u, hu⟩ : ∃ u, l[j]? = some u := ⟨_, List.getElem?_eq_getElem (by rw [← HMA.out]; omega)⟩
            obtain ⟨b', off', he, hb', u0, u1, u2, _⟩ := HA6.out.at j u hu
            cases he
            have hjI : (0 : Int) ≤ (j : Int) := by omega
            have hjI2 : (j : Int) < (k : Int) := by omega
            have hjI3 : (j : Int) < (m : Int) := by omega
            by_cases e0 : u.name.toList = t.name.toList
            · by_cases e4 : u.space.toList = t.space.toList
              · have hRf : R = false := by
                  rw [← HR2.out]
                  have : attrsB l = false := allTo_false (by
                    rw [HOK.out]
                    have : (l.take k).any (fun u => oneN u t) = true := by
                      rw [List.any_eq_true]
                      exact ⟨u, by rw [List.mem_iff_getElem?]; exact ⟨j, by rw [List.getElem?_take, if_pos hjk]; exact hu⟩, by unfold oneN; rw [decide_eq_true (toList_inj e0), decide_eq_true (toList_inj e4)]; rfl⟩
                    rw [this]; rfl) _ (by rw [← HMA.out]; exact hlt)
                  rw [this]; rfl
                subst hRf
                have b0 : (u.name.toList == t.name.toList) = true := beq_iff_eq.2 e0
                have b4 : (u.space.toList == t.space.toList) = true := beq_iff_eq.2 e4
                clear hu hq e0 e4
                go_wp2
                go_quiet (fail)
                all_goals
                  go_wp2
                  go_ret
                  exact ⟨rfl, below_drewN (below_drewN HW6.out _) _⟩
              · have hst := Lib.hid (show (l.take (j + 1)).any (fun u => oneN u t) = false from by
                  rw [List.take_add_one, hu, List.any_append, hq.out]
                  simp only [Option.toList, List.any_cons, List.any_nil, Bool.or_false, Bool.false_or]
                  unfold oneN
                  rw [decide_eq_false (show ¬ u.space = t.space from fun h => e4 (by rw [h])), Bool.and_false])
                have b0 : (u.name.toList == t.name.toList) = true := beq_iff_eq.2 e0
                have b4 : (u.space.toList == t.space.toList) = false := beq_eq_false_iff_ne.2 e4
                clear hu hq e0 e4
                go_wp2
                go_quiet (fail)
                go_wp2
                go_roundw
                all_goals first | exact ⟨j + 1, by omega, by go_num, hst, _, rfl⟩ | (simp [intOf]; omega) | exact ⟨⟨j + 1, by omega, by go_num, hst, _, rfl⟩, by simp [intOf]; omega⟩
            · have hst := Lib.hid (show (l.take (j + 1)).any (fun u => oneN u t) = false from by
                rw [List.take_add_one, hu, List.any_append, hq.out]
                simp only [Option.toList, List.any_cons, List.any_nil, Bool.or_false, Bool.false_or]
                unfold oneN
                rw [decide_eq_false (fun h => e0 (by rw [h])), Bool.false_and])
              have b0 : (u.name.toList == t.name.toList) = false := beq_eq_false_iff_ne.2 e0
              clear hu hq e0
              go_wp2
              go_quiet (fail)
              go_wp2
              go_roundw
              all_goals first | exact ⟨j + 1, by omega, by go_num, hst, _, rfl⟩ | (simp [intOf]; omega) | exact ⟨⟨j + 1, by omega, by go_num, hst, _, rfl⟩, by simp [intOf]; omega⟩
          · have hjI2 : ¬ (j : Int) < (k : Int) := by omega
            obtain rfl : j = k := by omega
            have hst := Lib.hid (show allTo (okA l) (j + 1) = true from by rw [allTo_succ, hp.out, HOK.out, hq.out]; rfl)
            clear hq hp
            go_wp2
            go_roundw
            case rel => exact ⟨j + 1, by omega, by go_num, hst, Lib.hid HD6.out, Lib.hid (below_drewN HW6.out _)⟩
            case measure => simp [intOf]; omega
      · have hkI : ¬ (k : Int) < (m : Int) := by omega
        obtain rfl : k = m := by omega
        have hatt : attrsB l = true := by unfold attrsB; rw [← HMA.out]; exact hp.out
        have HR3 : Hid (statesB ls = R) := Lib.hid (by have := HR2.out; rw [hatt] at this; simpa using this)
        clear hp hatt
        go_wp2_with fail
        clear c4
        go_loopw [8] (fun i wr' => ∃ j : Nat, j ≤ m' ∧ i = .int .i64 j ∧ Hid (allTo (okS ls) j = true) ∧ Hid (Blk wr' w.heap.size L 44) ∧ Hid (Below w.heap.size w wr')) (fun i _ => m' - (intOf i).toNat)
        case atStart => exact ⟨0, Nat.zero_le _, rfl, Lib.hid rfl, HBL, HW⟩
        case round =>
          obtain ⟨j, hj, rfl, hq, HBL2, HW2⟩ := hrel
          have c5 := HBL2.out.cell 5 _ HL5.out
          by_cases hjk : j < m'
          · obtain ⟨s, hs⟩ : ∃ s, ls[j]? = some s := ⟨_, List.getElem?_eq_getElem (by rw [← HMS.out]; exact hjk)⟩
            have HSr := HS.out.later HW2.out (Nat.le_refl _)
            obtain ⟨b', off', rfl, hb', u0, _⟩ := HSr.at j s hs
            rw [Nat.mul_one] at u0
            have hjI : (0 : Int) ≤ (j : Int) := by omega
            have hjI2 : (j : Int) < (m' : Int) := by omega
            have hjc : j ≤ d' := by have := HSr.2.1; omega
            have hmc : m' ≤ d' := HSr.2.1
            have fSt := fun w => rstate_any s w
            have HAS := Lib.hid (fun w' (hb : Below w.heap.size w w') => rhas_any (ls.take j) (some ⟨b', off', none⟩) j d' s w' (RdOf.imp ((HS.out.later hb (Nat.le_refl _)).take j (by omega)) (fun _ h => h) (fun _ _ _ _ h => h.1)))
            have hok2 : Hid (okS ls j = (hasB stateNames s && !memS (ls.take j) s)) := Lib.hid (by unfold okS; rw [hs])
            have u0D : wr.drew.cell? ⟨b', off' + j, none⟩ = some (.string s) := u0
            have c5D : wr.drew.cell? ⟨w.heap.size, 5, none⟩ = some (.slice (some ⟨b', off', none⟩) m' d') := c5
            have HU := Lib.hid (And.intro (show b' < wr.drew.heap.size from hb') u0)
            have HHR := hasR_mem (ls.take j) s
            clear hs HSr hb'
            generalize hasR (ls.take j) s = r0 at *
            subst HHR
            generalize hasB stateNames s = r1 at *
            generalize memS (ls.take j) s = r2 at *
            cases r1
            · have hRf : R = false := by
                rw [← HR3.out]
                exact allTo_false (by rw [hok2.out]; rfl) _ (by rw [← HMS.out]; exact hjk)
              subst hRf
              go_wp2
              refine wp_region_any (by kernel_rfl) ?_
              change wpAny _ _ _ _ _ _ _ (World.drew _)
              refine wpAny_take (i := 0) (v := ?_) rfl (by kernel_rfl) (by kernel_rfl) (by kernel_rfl) (fun _ _ _ h => h) (Or.inl ⟨by rfl, ?_⟩) ?_
              rotate_left
              · (intro w; go_simp; try with_reducible rfl)
              refine wpAny_take (i := 2) (v := ?_) rfl (by kernel_rfl) (by kernel_rfl) (by kernel_rfl) (fun _ _ _ h => h) (Or.inl ⟨by rfl, ?_⟩) ?_
              rotate_left
              · (intro w; go_simp; try with_reducible rfl)
              refine wpAny_ready (rs := [1]) (by kernel_rfl) (by simp) ?_
              refine AllReady.cons rfl (fun K hK => ?_) AllReady.nil
              go_simp
              refine hK _ _ ?_
              clear hK K
              refine wpAny_ready (rs := [3]) (by kernel_rfl) (by simp) ?_
              refine AllReady.cons rfl (fun K hK => ?_) AllReady.nil
              go_simp
              refine hK _ _ ?_
              clear hK K
              refine wpAny_ready (rs := [4]) (by kernel_rfl) (by simp) ?_
              refine AllReady.cons rfl (fun K hK => ?_) AllReady.nil
              go_simp
              refine hK _ _ ?_
              clear hK K
              refine wpAny_ready (rs := [5]) (by kernel_rfl) (by simp) ?_
              refine AllReady.cons rfl (fun K hK => ?_) AllReady.nil
              go_simp
              go_wp2_with (go_at_call 45; (with_reducible refine (fSt _).mono ?_); rintro e w7 ⟨rfl, hb7⟩)
              refine wpAny_take (i := 6) (v := ?_) rfl (by kernel_rfl) (by kernel_rfl) (by kernel_rfl) (fun _ _ _ h => h) (Or.inl ⟨by rfl, ?_⟩) ?_
              rotate_left
              · (intro w; go_simp; try with_reducible rfl)
              refine wpAny_take (i := 7) (v := ?_) rfl (by kernel_rfl) (by kernel_rfl) (by kernel_rfl) (fun _ _ _ h => h) (Or.inl ⟨by rfl, ?_⟩) ?_
              rotate_left
              · (intro w; go_simp; try with_reducible rfl)
              refine wpAny_take (i := 8) (v := undef) rfl (by kernel_rfl) (by kernel_rfl) (by kernel_rfl) (fun _ _ _ h => h) (Or.inr ⟨by kernel_rfl, rfl⟩) ?_
              refine wpAny_take (i := 9) (v := undef) rfl (by kernel_rfl) (by kernel_rfl) (by kernel_rfl) (fun _ _ _ h => h) (Or.inr ⟨by kernel_rfl, rfl⟩) ?_
              refine wpAny_take (i := 10) (v := undef) rfl (by kernel_rfl) (by kernel_rfl) (by kernel_rfl) (fun _ _ _ h => h) (Or.inr ⟨by kernel_rfl, rfl⟩) ?_
              refine wpAny_take (i := 11) (v := undef) rfl (by kernel_rfl) (by kernel_rfl) (by kernel_rfl) (fun _ _ _ h => h) (Or.inr ⟨by kernel_rfl, rfl⟩) ?_
              refine wpAny_take (i := 12) (v := undef) rfl (by kernel_rfl) (by kernel_rfl) (by kernel_rfl) (fun _ _ _ h => h) (Or.inr ⟨by kernel_rfl, rfl⟩) ?_
              refine wpAny_take (i := 13) (v := undef) rfl (by kernel_rfl) (by kernel_rfl) (by kernel_rfl) (fun _ _ _ h => h) (Or.inr ⟨by kernel_rfl, rfl⟩) ?_
              refine wpAny_take (i := 14) (v := undef) rfl (by kernel_rfl) (by kernel_rfl) (by kernel_rfl) (fun _ _ _ h => h) (Or.inr ⟨by kernel_rfl, rfl⟩) ?_
              refine wpAny_take (i := 15) (v := undef) rfl (by kernel_rfl) (by kernel_rfl) (by kernel_rfl) (fun _ _ _ h => h) (Or.inr ⟨by kernel_rfl, rfl⟩) ?_
              refine wpAny_take (i := 16) (v := undef) rfl (by kernel_rfl) (by kernel_rfl) (by kernel_rfl) (fun _ _ _ h => h) (Or.inr ⟨by kernel_rfl, rfl⟩) ?_
              refine wpAny_take (i := 17) (v := undef) rfl (by kernel_rfl) (by kernel_rfl) (by kernel_rfl) (fun _ _ _ h => h) (Or.inr ⟨by kernel_rfl, rfl⟩) ?_
              refine wpAny_take (i := 18) (v := ?_) rfl (by kernel_rfl) (by kernel_rfl) (by kernel_rfl) (fun _ _ _ h => h) (Or.inl ⟨by rfl, ?_⟩) ?_
              rotate_left
              · (intro w; go_simp; try with_reducible rfl)
              refine wpAny_done (by kernel_rfl) ?_ _
              go_simp
              go_wp2
              go_ret
              exact ⟨rfl, (HW2.out.drew).trans (hb7.mono HW2.out.drew.size)⟩
            · cases r2
              · have hst := Lib.hid (show allTo (okS ls) (j + 1) = true from by rw [allTo_succ, hq.out, hok2.out]; rfl)
                go_wp2
                go_region_held3 (fun w' => w'.cell? ⟨w.heap.size, 5, none⟩ = some (.slice (some ⟨b', off', none⟩) m' d') ∧ w'.cell? ⟨b', off' + j, none⟩ = some (.string s)) (first | exact ⟨c5D, u0D⟩ | exact ⟨c7, u7⟩ | exact ⟨c8, u8⟩) (first
                  | ((go_at_call 45); (with_reducible refine (fSt _).mono ?_); rintro e w7 ⟨rfl, hb7⟩; have H7 := (HW2.out.drew).trans (hb7.mono HW2.out.drew.size); have D7 := Blk.later (HBL2.out.drewN 1) hb7 HBL2.out.lt; have c7 := D7.cell 5 _ HL5.out; have u7 := (hb7.cell (p := ⟨b', off' + j, none⟩) (Nat.lt_of_lt_of_le HU.out.1 (by first | exact Nat.le_refl _ | exact hb7.size))).trans HU.out.2; have fH := HAS.out _ H7)
                  | ((go_at_call 46); (with_reducible refine fH.mono ?_); rintro e w8 ⟨rfl, hb8⟩; have D8 := D7.later hb8 D7.lt; have H8 := H7.trans (hb8.mono H7.size); have c8 := D8.cell 5 _ HL5.out; have u8 := (hb8.cell (p := ⟨b', off' + j, none⟩) (Nat.lt_of_lt_of_le HU.out.1 (by first | exact Nat.le_refl _ | exact hb7.size))).trans u7))
                go_wp2
                go_roundw
                all_goals first | exact ⟨j + 1, by omega, by go_num, hst, Lib.hid D8, Lib.hid H8⟩ | (simp [intOf]; omega)
              · have hRf : R = false := by
                  rw [← HR3.out]
                  exact allTo_false (by rw [hok2.out]; rfl) _ (by rw [← HMS.out]; exact hjk)
                subst hRf
                go_wp2
                go_region_held3 (fun w' => w'.cell? ⟨w.heap.size, 5, none⟩ = some (.slice (some ⟨b', off', none⟩) m' d') ∧ w'.cell? ⟨b', off' + j, none⟩ = some (.string s)) (first | exact ⟨c5D, u0D⟩ | exact ⟨c7, u7⟩ | exact ⟨c8, u8⟩) (first
                  | ((go_at_call 45); (with_reducible refine (fSt _).mono ?_); rintro e w7 ⟨rfl, hb7⟩; have H7 := (HW2.out.drew).trans (hb7.mono HW2.out.drew.size); have D7 := Blk.later (HBL2.out.drewN 1) hb7 HBL2.out.lt; have c7 := D7.cell 5 _ HL5.out; have u7 := (hb7.cell (p := ⟨b', off' + j, none⟩) (Nat.lt_of_lt_of_le HU.out.1 (by first | exact Nat.le_refl _ | exact hb7.size))).trans HU.out.2; have fH := HAS.out _ H7)
                  | ((go_at_call 46); (with_reducible refine fH.mono ?_); rintro e w8 ⟨rfl, hb8⟩; have D8 := D7.later hb8 D7.lt; have H8 := H7.trans (hb8.mono H7.size); have c8 := D8.cell 5 _ HL5.out; have u8 := (hb8.cell (p := ⟨b', off' + j, none⟩) (Nat.lt_of_lt_of_le HU.out.1 (by first | exact Nat.le_refl _ | exact hb7.size))).trans u7))
                go_wp2
                go_ret
                exact ⟨rfl, H8⟩
          · have hjI2 : ¬ (j : Int) < (m' : Int) := by omega
            obtain rfl : j = m' := by omega
            have hRt : statesB ls = true := by unfold statesB; rw [← HMS.out]; exact hq.out
            have hRf : R = true := by rw [← HR3.out]; exact hRt
            subst hRf
            clear hq hRt
            go_wp2
            go_ret
            exact ⟨rfl, HW2.out⟩
end Go.Proofs.Ytfgnepbpfglepaa
