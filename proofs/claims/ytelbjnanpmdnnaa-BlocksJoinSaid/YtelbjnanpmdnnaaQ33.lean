/- Texts of mine in one: R4. -/
import Derived.Test.YtelbjnanpmdnnaaQ32
namespace Go.Proofs.Ytelbjnanpmdnnaa
section
open Go.RowKit
theorem isB_other {l : List Int} {j : Nat} {c d : Int} (h : isB l j c = true) (hd : c ≠ d) : isB l j d = false := decide_eq_false (by rw [isB_iff.1 h]; exact hd)
set_option maxRecDepth 100000 in
set_option maxHeartbeats 4000000 in
theorem rbehind_any {a : Option Addr} {n cap : Nat} {l : List Int} {w : World} (i : Int) (k : Nat) (h : Src w a n cap l) (hi : i = (k : Int)) (hk : k ≤ n) :
    Calls Try.prog 47 #[.slice a n cap, .int .i64 i] w (Tells (.int .i64 (behindF l k : Nat)) w) := by
  subst hi
  have hlen := h.len
  have hsm := h.small
  obtain ⟨hcap1, hcap2⟩ := h.cap
  generalize hR : behindF l k = R
  unfold behindF at hR
  rw [hlen] at hR
  have HR := Lib.hid hR; clear hR
  have HL := Lib.hid hlen; clear hlen
  have HP := Lib.hid h; clear h
  go_enter Try.func47, Try.ntmps47
  go_wp2_with fail
  go_loopw [1] (fun v wr => ∃ (f j : Nat), v = .int .i64 j ∧ Hid (behindGo f l j = R) ∧ n < j + f ∧ j ≤ n ∧ wr = w) (fun v _ => n - (intOf v).toNat)
  case atStart => exact ⟨n + 1, k, rfl, HR, by omega, hk, rfl⟩
  case round =>
    obtain ⟨f, j, rfl, hG, hf, hj, rfl⟩ := hrel
    have f0 := ris_any (j : Int) j 47 HP.out rfl (by decide)
    have f1 := ris_any ((j : Int) + 1) (j + 1) 42 HP.out (by omega) (by decide)
    rcases ho : openB l j with _ | _
    · have hE : R = j := by rw [← hG.out]; exact behindGo_stop f ho
      have ho' : (isB l j 47 && isB l (j + 1) 42) = false := ho
      clear hG ho HR
      generalize isB l j 47 = r0 at *
      generalize isB l (j + 1) 42 = r1 at *
      cases r0 <;> cases r1
      all_goals first | (exact absurd ho' (by decide)) | skip
      all_goals
        clear ho'
        go_wp2_with ((first | (go_at_call 53; with_reducible refine f0.mono ?_) | (go_at_call 53; with_reducible refine f1.mono ?_)); rintro e w1 ⟨rfl, hw1⟩; replace hw1 := hw1.symm; subst hw1)
        go_ret
        exact ⟨by rw [hE]; rfl, rfl⟩
    · have h2 : isB l j 47 = true ∧ isB l (j + 1) 42 = true := by unfold openB at ho; simpa using ho
      have hj2 : j + 2 ≤ n := by have := lt_of_isB h2.2 (by decide); rw [HL.out] at this; omega
      obtain ⟨g, rfl⟩ : ∃ g, f = g + 1 := ⟨f - 1, by omega⟩
      have hG2 : Hid (behindGo g l (skipGo (n + 1) l (j + 2)) = R) := Lib.hid (by rw [← hG.out]; conv => rhs; rw [behindGo, if_pos ho, HL.out])
      rw [h2.1] at f0
      rw [h2.2] at f1
      clear hG ho h2 HR
      generalize hS : skipGo (n + 1) l (j + 2) = S at *
      have HS := Lib.hid hS; clear hS
      go_wp2_with ((first | (go_at_call 53; with_reducible refine f0.mono ?_) | (go_at_call 53; with_reducible refine f1.mono ?_)); rintro e w1 ⟨rfl, hw1⟩; replace hw1 := hw1.symm; subst hw1)
      clear f0 f1
      go_loopw [1] (fun v wx => ∃ (f j' : Nat), v = .int .i64 j' ∧ Hid (skipGo f l j' = S) ∧ n < j' + f ∧ j' ≤ n ∧ j + 2 ≤ j' ∧ wx = wr) (fun v _ => n - (intOf v).toNat)
      case atStart => exact ⟨n + 1, j + 2, by go_num, HS, by omega, hj2, by omega, by first | rfl | trivial⟩
      case round =>
        obtain ⟨f, i, rfl, hK, hf2, hi, hji, rfl⟩ := hrel
        obtain ⟨f, rfl⟩ : ∃ g, f = g + 1 := ⟨f - 1, by omega⟩
        have f0 := ris_any (i : Int) i 42 HP.out rfl (by decide)
        have f1 := ris_any ((i : Int) + 1) (i + 1) 47 HP.out (by omega) (by decide)
        by_cases hin : i < n
        · have hin' : (i : Int) < (n : Int) := by omega
          rcases hst : (isB l i 42 && isB l (i + 1) 47) with _ | _
          · have hK2 : Hid (skipGo f l (i + 1) = S) := Lib.hid (by rw [← hK.out]; conv => rhs; rw [skipGo, if_neg (by rw [HL.out]; omega), if_neg (by rw [hst]; decide)])
            clear hK hG2
            generalize isB l i 42 = r0 at *
            generalize isB l (i + 1) 47 = r1 at *
            cases r0 <;> cases r1
            all_goals first | (exact absurd hst (by decide)) | skip
            all_goals
              clear hst
              go_wp2_with ((first | (go_at_call 53; with_reducible refine f0.mono ?_) | (go_at_call 53; with_reducible refine f1.mono ?_)); rintro e w1 ⟨rfl, hw1⟩; replace hw1 := hw1.symm; subst hw1)
              go_roundw
              case rel => exact ⟨f, i + 1, by go_num, hK2, by omega, by omega, by omega, by first | rfl | trivial⟩
              case measure => simp [intOf]; omega
          · have hE : S = min (i + 2) n := by rw [← hK.out, skipGo, if_neg (by rw [HL.out]; omega), if_pos hst, HL.out]
            have h2 : isB l i 42 = true ∧ isB l (i + 1) 47 = true := by simpa using hst
            have hin2 : i + 2 ≤ n := by have := lt_of_isB h2.2 (by decide); rw [HL.out] at this; omega
            rw [h2.1] at f0
            rw [h2.2] at f1
            clear hK hst h2
            have hSi : S = i + 2 := by omega
            subst hSi
            clear hE
            go_wp2_with ((first | (go_at_call 53; with_reducible refine f0.mono ?_) | (go_at_call 53; with_reducible refine f1.mono ?_)); rintro e w1 ⟨rfl, hw1⟩; replace hw1 := hw1.symm; subst hw1)
            go_roundw
            case rel => exact ⟨g, i + 2, by go_num, hG2, by omega, by omega, by first | rfl | trivial⟩
            case measure => simp [intOf]; omega
        · have hii : i = n := by omega
          subst hii
          have hE : S = i := by rw [← hK.out, skipGo, if_pos (by rw [HL.out]; omega), HL.out]; omega
          subst hE
          clear hK f0 f1
          go_wp2
          go_roundw
          case rel => exact ⟨g, S, by go_num, hG2, by omega, by omega, by first | rfl | trivial⟩
          case measure => simp [intOf]; omega
set_option maxRecDepth 100000 in
set_option maxHeartbeats 4000000 in
theorem rdigits_any {a : Option Addr} {n cap : Nat} {l : List Int} {w : World} (i : Int) (k : Nat) (h : Src w a n cap l) (hi : i = (k : Int)) (hk : k ≤ n) :
    Calls Try.prog 73 #[.slice a n cap, .int .i64 i] w (Tells (.tuple #[.int .i64 ((numberF l k).1 : Nat), .bool (numberF l k).2]) w) := by
  subst hi
  have hlen := h.len
  have hsm := h.small
  obtain ⟨hcap1, hcap2⟩ := h.cap
  have s0 := ris_any (k : Int) k 43 h rfl (by decide)
  have s1 := ris_any (k : Int) k 45 h rfl (by decide)
  have hsg : ∃ m, signAt l k = m ∧ ((isB l k 43 = true ∧ m = k + 1) ∨ (isB l k 43 = false ∧ isB l k 45 = true ∧ m = k + 1) ∨ (isB l k 43 = false ∧ isB l k 45 = false ∧ m = k)) ∧ m ≤ n := by
    refine ⟨_, rfl, ?_⟩
    have q : ∀ c : Int, c ≠ 0 → isB l k c = true → k + 1 ≤ n := fun c hc hx => by have := lt_of_isB hx hc; rw [hlen] at this; omega
    have q1 := q 43 (by decide)
    have q2 := q 45 (by decide)
    unfold signAt
    revert q1 q2
    cases isB l k 43 <;> cases isB l k 45 <;> simp <;> omega
  obtain ⟨s, hs, hsg, hsn⟩ := hsg
  generalize hQ : numberF l k = Q
  generalize hR1 : digitsF l s = R1
  have HQ0 : Hid (Q = (expoF l (fracF l R1), !fracAt l R1 && !expoB l (fracF l R1))) := Lib.hid (by rw [← hQ, ← hR1, ← hs]; rfl)
  unfold digitsF at hR1
  rw [hlen] at hR1
  have HR1 := Lib.hid hR1; clear hR1
  have HL := Lib.hid hlen; clear hlen
  have HP := Lib.hid h; clear h
  clear hQ hs
  generalize isB l k 43 = r2 at *
  generalize isB l k 45 = r3 at *
  rcases hsg with ⟨rfl, rfl⟩ | ⟨rfl, rfl, rfl⟩ | ⟨rfl, rfl, rfl⟩
  all_goals
    go_enter Try.func73, Try.ntmps73
    go_wp2_with ((first | (go_at_call 53; with_reducible refine s0.mono ?_) | (go_at_call 53; with_reducible refine s1.mono ?_)); rintro e w1 ⟨rfl, hw1⟩; replace hw1 := hw1.symm; subst hw1)
    clear s0 s1
    go_loopw [1] (fun v wx => ∃ (f j : Nat), v = .int .i64 j ∧ Hid (digitsGo f l j = R1) ∧ n < j + f ∧ j ≤ n ∧ wx = w) (fun v _ => n - (intOf v).toNat)
    case atStart => exact ⟨n + 1, _, by go_num, HR1, by omega, by omega, by first | rfl | trivial⟩
    case round =>
      obtain ⟨f, j1, rfl, hG, hf, hj, rfl⟩ := hrel
      have g0 := rdigitAt (j1 : Int) j1 HP.out rfl
      rcases hd : dgB l j1 with _ | _
      · have hE : R1 = j1 := by rw [← hG.out]; exact digitsGo_stop f hd
        rw [hd] at g0
        clear hG hf hd
        have t0 := ris_any (j1 : Int) j1 46 HP.out rfl (by decide)
        have t1 := rdigitAt ((j1 : Int) + 1) (j1 + 1) HP.out (by omega)
        rcases hfr : fracAt l j1 with _ | _
        · have HQ : Hid (Q = (expoF l j1, true && !expoB l j1)) := Lib.hid (by rw [HQ0.out, hE]; unfold fracF; rw [hfr]; rfl)
          have hfr' : (isB l j1 46 && dgB l (j1 + 1)) = false := hfr
          clear HQ0 hE hfr HR1
          rcases h46 : isB l j1 46 with _ | _
          · rw [h46] at t0
            clear t1 hfr' h46
            have e0 := ris_any (j1 : Int) j1 101 HP.out rfl (by decide)
            have e1 := ris_any (j1 : Int) j1 69 HP.out rfl (by decide)
            rcases hx : (isB l j1 101 || isB l j1 69) with _ | _
            · have hQ : Q = (j1, true) := by
                rw [HQ.out]
                unfold expoF expoB
                rw [hx]
                rfl
              clear HQ
              have hx2 : isB l j1 101 = false ∧ isB l j1 69 = false := by simpa using hx
              rw [hx2.1] at e0
              rw [hx2.2] at e1
              clear hx hx2
              go_wp2_with ((first | (go_at_call 72; with_reducible refine g0.mono ?_) | (go_at_call 53; with_reducible refine t0.mono ?_) | (go_at_call 53; with_reducible refine e0.mono ?_) | (go_at_call 53; with_reducible refine e1.mono ?_)); rintro e w1 ⟨rfl, hw1⟩; replace hw1 := hw1.symm; subst hw1)
              go_ret2
              exact ⟨by rw [hQ]; rfl, rfl⟩
            · have hjn : j1 < n := by
                rcases he : isB l j1 101 with _ | _
                · have : isB l j1 69 = true := by rw [he] at hx; simpa using hx
                  have := lt_of_isB this (by decide); rw [HL.out] at this; exact this
                · have := lt_of_isB he (by decide); rw [HL.out] at this; exact this
              have s0 := ris_any ((j1 : Int) + 1) (j1 + 1) 43 HP.out (by omega) (by decide)
              have s1 := ris_any ((j1 : Int) + 1) (j1 + 1) 45 HP.out (by omega) (by decide)
              have hsg : ∃ m, signAt l (j1 + 1) = m ∧ ((isB l (j1 + 1) 43 = true ∧ m = j1 + 2) ∨ (isB l (j1 + 1) 43 = false ∧ isB l (j1 + 1) 45 = true ∧ m = j1 + 2) ∨ (isB l (j1 + 1) 43 = false ∧ isB l (j1 + 1) 45 = false ∧ m = j1 + 1)) := by
                refine ⟨_, rfl, ?_⟩
                unfold signAt
                cases isB l (j1 + 1) 43 <;> cases isB l (j1 + 1) 45 <;> simp
              obtain ⟨m, hm, hsg⟩ := hsg
              have d0 : ∀ i : Int, i = (m : Int) → Calls Try.prog 72 #[.slice a n cap, .int .i64 i] wr (Tells (.bool (dgB l m)) wr) := fun i hi => rdigitAt i m HP.out hi
              rcases hdm : dgB l m with _ | _
              · have hQ : Q = (j1, true) := by
                  rw [HQ.out]
                  unfold expoF expoB
                  rw [hm, hdm, Bool.and_false]
                  rfl
                rw [hdm] at d0
                clear HQ hm hdm
                generalize isB l j1 101 = r0 at *
                generalize isB l j1 69 = r1 at *
                generalize isB l (j1 + 1) 43 = r2 at *
                generalize isB l (j1 + 1) 45 = r3 at *
                rcases hsg with ⟨rfl, rfl⟩ | ⟨rfl, rfl, rfl⟩ | ⟨rfl, rfl, rfl⟩
                all_goals cases r0 <;> cases r1
                all_goals first | (exact absurd hx (by decide)) | skip
                all_goals
                  clear hx
                  go_wp2_with ((first | (go_at_call 72; with_reducible refine g0.mono ?_) | (go_at_call 53; with_reducible refine t0.mono ?_) | (go_at_call 53; with_reducible refine e0.mono ?_) | (go_at_call 53; with_reducible refine e1.mono ?_) | (go_at_call 53; with_reducible refine s0.mono ?_) | (go_at_call 53; with_reducible refine s1.mono ?_) | (go_at_call 72; with_reducible refine (d0 _ (by omega)).mono ?_)); rintro e w1 ⟨rfl, hw1⟩; replace hw1 := hw1.symm; subst hw1)
                  go_ret2
                  exact ⟨by rw [hQ]; rfl, rfl⟩
              · have hmn : m < n := by have := lt_of_dgB hdm; rw [HL.out] at this; exact this
                have hQ : Q = (digitsF l m, false) := by
                  rw [HQ.out]
                  unfold expoF expoB
                  rw [hm, hdm, hx]
                  simp
                generalize hR3 : digitsF l m = R3 at *
                unfold digitsF at hR3
                rw [HL.out] at hR3
                have HR3 := Lib.hid hR3; clear hR3
                rw [hdm] at d0
                clear HQ hm hdm
                generalize isB l j1 101 = r0 at *
                generalize isB l j1 69 = r1 at *
                generalize isB l (j1 + 1) 43 = r2 at *
                generalize isB l (j1 + 1) 45 = r3 at *
                rcases hsg with ⟨rfl, rfl⟩ | ⟨rfl, rfl, rfl⟩ | ⟨rfl, rfl, rfl⟩
                all_goals cases r0 <;> cases r1
                all_goals first | (exact absurd hx (by decide)) | skip
                all_goals
                  clear hx
                  go_wp2_with ((first | (go_at_call 72; with_reducible refine g0.mono ?_) | (go_at_call 53; with_reducible refine t0.mono ?_) | (go_at_call 53; with_reducible refine e0.mono ?_) | (go_at_call 53; with_reducible refine e1.mono ?_) | (go_at_call 53; with_reducible refine s0.mono ?_) | (go_at_call 53; with_reducible refine s1.mono ?_) | (go_at_call 72; with_reducible refine (d0 _ (by omega)).mono ?_)); rintro e w1 ⟨rfl, hw1⟩; replace hw1 := hw1.symm; subst hw1)
                  clear e0 e1 s0 s1 d0 g0 t0
                  go_loopw [1] (fun v wx => ∃ (f j : Nat), v = .int .i64 j ∧ Hid (digitsGo f l j = R3) ∧ n < j + f ∧ j ≤ n ∧ wx = wr) (fun v _ => n - (intOf v).toNat)
                  case atStart => exact ⟨n + 1, _, by go_num, HR3, by omega, by omega, by first | rfl | trivial⟩
                  case round =>
                    obtain ⟨f, j3, rfl, hG, hf, hj, rfl⟩ := hrel
                    have g0 := rdigitAt (j3 : Int) j3 HP.out rfl
                    rcases hd : dgB l j3 with _ | _
                    · have hE : R3 = j3 := by rw [← hG.out]; exact digitsGo_stop f hd
                      rw [hd] at g0
                      clear hG hf hd
                      go_wp2_with ((first | (go_at_call 72; with_reducible refine g0.mono ?_)); rintro e w1 ⟨rfl, hw1⟩; replace hw1 := hw1.symm; subst hw1)
                      go_ret2
                      exact ⟨by rw [hQ, hE]; rfl, rfl⟩
                    · have hjn : j3 < n := by have := lt_of_dgB hd; rw [HL.out] at this; exact this
                      obtain ⟨f, rfl⟩ : ∃ g, f = g + 1 := ⟨f - 1, by omega⟩
                      have hG2 : Hid (digitsGo f l (j3 + 1) = R3) := Lib.hid (by rw [← hG.out]; conv => rhs; rw [digitsGo, if_pos hd])
                      rw [hd] at g0
                      clear hG hd
                      go_wp2_with ((first | (go_at_call 72; with_reducible refine g0.mono ?_)); rintro e w1 ⟨rfl, hw1⟩; replace hw1 := hw1.symm; subst hw1)
                      go_roundw
                      case rel => exact ⟨f, j3 + 1, by go_num, hG2, by omega, by omega, by first | rfl | trivial⟩
                      case measure => simp [intOf]; omega
          · rw [h46, Bool.true_and] at hfr'
            rw [h46] at t0
            rw [hfr'] at t1
            have e0 := ris_any (j1 : Int) j1 101 HP.out rfl (by decide)
            have e1 := ris_any (j1 : Int) j1 69 HP.out rfl (by decide)
            have x0 := isB_other h46 (d := 101) (by decide)
            have x1 := isB_other h46 (d := 69) (by decide)
            have hQ : Q = (j1, true) := by
              rw [HQ.out]
              unfold expoF expoB
              rw [x0, x1]
              rfl
            rw [x0] at e0
            rw [x1] at e1
            clear HQ x0 x1 h46 hfr'
            go_wp2_with ((first | (go_at_call 72; with_reducible refine g0.mono ?_) | (go_at_call 53; with_reducible refine t0.mono ?_) | (go_at_call 72; with_reducible refine t1.mono ?_) | (go_at_call 53; with_reducible refine e0.mono ?_) | (go_at_call 53; with_reducible refine e1.mono ?_)); rintro e w1 ⟨rfl, hw1⟩; replace hw1 := hw1.symm; subst hw1)
            go_ret2
            exact ⟨by rw [hQ]; rfl, rfl⟩
        · have h2 : isB l j1 46 = true ∧ dgB l (j1 + 1) = true := by unfold fracAt at hfr; simpa using hfr
          have hj2 : j1 + 2 ≤ n := by have := lt_of_dgB h2.2; rw [HL.out] at this; omega
          generalize hR2 : digitsF l (j1 + 1) = R2 at *
          have HQ1 : Hid (Q = (expoF l R2, false && !expoB l R2)) := Lib.hid (by rw [HQ0.out, hE]; unfold fracF; rw [hfr, if_pos rfl, hR2]; rfl)
          unfold digitsF at hR2
          rw [HL.out] at hR2
          have HR2 := Lib.hid hR2; clear hR2
          rw [h2.1] at t0
          rw [h2.2] at t1
          clear HQ0 hE hfr HR1 h2
          go_wp2_with ((first | (go_at_call 72; with_reducible refine g0.mono ?_) | (go_at_call 53; with_reducible refine t0.mono ?_) | (go_at_call 72; with_reducible refine t1.mono ?_)); rintro e w1 ⟨rfl, hw1⟩; replace hw1 := hw1.symm; subst hw1)
          clear g0 t0 t1
          go_loopw [1] (fun v wx => ∃ (f j : Nat), v = .int .i64 j ∧ Hid (digitsGo f l j = R2) ∧ n < j + f ∧ j ≤ n ∧ wx = wr) (fun v _ => n - (intOf v).toNat)
          case atStart => exact ⟨n + 1, j1 + 1, by go_num, HR2, by omega, by omega, by first | rfl | trivial⟩
          case round =>
            obtain ⟨f, j2, rfl, hG, hf, hj, rfl⟩ := hrel
            have g0 := rdigitAt (j2 : Int) j2 HP.out rfl
            rcases hd : dgB l j2 with _ | _
            · have hE : R2 = j2 := by rw [← hG.out]; exact digitsGo_stop f hd
              rw [hd] at g0
              clear hG hf hd
              have HQ : Hid (Q = (expoF l j2, false && !expoB l j2)) := Lib.hid (by rw [HQ1.out, hE])
              clear HQ1 hE HR2
              have e0 := ris_any (j2 : Int) j2 101 HP.out rfl (by decide)
              have e1 := ris_any (j2 : Int) j2 69 HP.out rfl (by decide)
              rcases hx : (isB l j2 101 || isB l j2 69) with _ | _
              · have hQ : Q = (j2, false) := by
                  rw [HQ.out]
                  unfold expoF expoB
                  rw [hx]
                  rfl
                clear HQ
                have hx2 : isB l j2 101 = false ∧ isB l j2 69 = false := by simpa using hx
                rw [hx2.1] at e0
                rw [hx2.2] at e1
                clear hx hx2
                go_wp2_with ((first | (go_at_call 72; with_reducible refine g0.mono ?_) | (go_at_call 53; with_reducible refine e0.mono ?_) | (go_at_call 53; with_reducible refine e1.mono ?_)); rintro e w1 ⟨rfl, hw1⟩; replace hw1 := hw1.symm; subst hw1)
                go_ret2
                exact ⟨by rw [hQ]; rfl, rfl⟩
              · have hjn : j2 < n := by
                  rcases he : isB l j2 101 with _ | _
                  · have : isB l j2 69 = true := by rw [he] at hx; simpa using hx
                    have := lt_of_isB this (by decide); rw [HL.out] at this; exact this
                  · have := lt_of_isB he (by decide); rw [HL.out] at this; exact this
                have s0 := ris_any ((j2 : Int) + 1) (j2 + 1) 43 HP.out (by omega) (by decide)
                have s1 := ris_any ((j2 : Int) + 1) (j2 + 1) 45 HP.out (by omega) (by decide)
                have hsg : ∃ m, signAt l (j2 + 1) = m ∧ ((isB l (j2 + 1) 43 = true ∧ m = j2 + 2) ∨ (isB l (j2 + 1) 43 = false ∧ isB l (j2 + 1) 45 = true ∧ m = j2 + 2) ∨ (isB l (j2 + 1) 43 = false ∧ isB l (j2 + 1) 45 = false ∧ m = j2 + 1)) := by
                  refine ⟨_, rfl, ?_⟩
                  unfold signAt
                  cases isB l (j2 + 1) 43 <;> cases isB l (j2 + 1) 45 <;> simp
                obtain ⟨m, hm, hsg⟩ := hsg
                have d0 : ∀ i : Int, i = (m : Int) → Calls Try.prog 72 #[.slice a n cap, .int .i64 i] wr (Tells (.bool (dgB l m)) wr) := fun i hi => rdigitAt i m HP.out hi
                rcases hdm : dgB l m with _ | _
                · have hQ : Q = (j2, false) := by
                    rw [HQ.out]
                    unfold expoF expoB
                    rw [hm, hdm, Bool.and_false]
                    rfl
                  rw [hdm] at d0
                  clear HQ hm hdm
                  generalize isB l j2 101 = r0 at *
                  generalize isB l j2 69 = r1 at *
                  generalize isB l (j2 + 1) 43 = r2 at *
                  generalize isB l (j2 + 1) 45 = r3 at *
                  rcases hsg with ⟨rfl, rfl⟩ | ⟨rfl, rfl, rfl⟩ | ⟨rfl, rfl, rfl⟩
                  all_goals cases r0 <;> cases r1
                  all_goals first | (exact absurd hx (by decide)) | skip
                  all_goals
                    clear hx
                    go_wp2_with ((first | (go_at_call 72; with_reducible refine g0.mono ?_) | (go_at_call 53; with_reducible refine e0.mono ?_) | (go_at_call 53; with_reducible refine e1.mono ?_) | (go_at_call 53; with_reducible refine s0.mono ?_) | (go_at_call 53; with_reducible refine s1.mono ?_) | (go_at_call 72; with_reducible refine (d0 _ (by omega)).mono ?_)); rintro e w1 ⟨rfl, hw1⟩; replace hw1 := hw1.symm; subst hw1)
                    go_ret2
                    exact ⟨by rw [hQ]; rfl, rfl⟩
                · have hmn : m < n := by have := lt_of_dgB hdm; rw [HL.out] at this; exact this
                  have hQ : Q = (digitsF l m, false) := by
                    rw [HQ.out]
                    unfold expoF expoB
                    rw [hm, hdm, hx]
                    simp
                  generalize hR3 : digitsF l m = R3 at *
                  unfold digitsF at hR3
                  rw [HL.out] at hR3
                  have HR3 := Lib.hid hR3; clear hR3
                  rw [hdm] at d0
                  clear HQ hm hdm
                  generalize isB l j2 101 = r0 at *
                  generalize isB l j2 69 = r1 at *
                  generalize isB l (j2 + 1) 43 = r2 at *
                  generalize isB l (j2 + 1) 45 = r3 at *
                  rcases hsg with ⟨rfl, rfl⟩ | ⟨rfl, rfl, rfl⟩ | ⟨rfl, rfl, rfl⟩
                  all_goals cases r0 <;> cases r1
                  all_goals first | (exact absurd hx (by decide)) | skip
                  all_goals
                    clear hx
                    go_wp2_with ((first | (go_at_call 72; with_reducible refine g0.mono ?_) | (go_at_call 53; with_reducible refine e0.mono ?_) | (go_at_call 53; with_reducible refine e1.mono ?_) | (go_at_call 53; with_reducible refine s0.mono ?_) | (go_at_call 53; with_reducible refine s1.mono ?_) | (go_at_call 72; with_reducible refine (d0 _ (by omega)).mono ?_)); rintro e w1 ⟨rfl, hw1⟩; replace hw1 := hw1.symm; subst hw1)
                    clear e0 e1 s0 s1 d0 g0
                    go_loopw [1] (fun v wx => ∃ (f j : Nat), v = .int .i64 j ∧ Hid (digitsGo f l j = R3) ∧ n < j + f ∧ j ≤ n ∧ wx = wr) (fun v _ => n - (intOf v).toNat)
                    case atStart => exact ⟨n + 1, _, by go_num, HR3, by omega, by omega, by first | rfl | trivial⟩
                    case round =>
                      obtain ⟨f, j3, rfl, hG, hf, hj, rfl⟩ := hrel
                      have g0 := rdigitAt (j3 : Int) j3 HP.out rfl
                      rcases hd : dgB l j3 with _ | _
                      · have hE : R3 = j3 := by rw [← hG.out]; exact digitsGo_stop f hd
                        rw [hd] at g0
                        clear hG hf hd
                        go_wp2_with ((first | (go_at_call 72; with_reducible refine g0.mono ?_)); rintro e w1 ⟨rfl, hw1⟩; replace hw1 := hw1.symm; subst hw1)
                        go_ret2
                        exact ⟨by rw [hQ, hE]; rfl, rfl⟩
                      · have hjn : j3 < n := by have := lt_of_dgB hd; rw [HL.out] at this; exact this
                        obtain ⟨f, rfl⟩ : ∃ g, f = g + 1 := ⟨f - 1, by omega⟩
                        have hG2 : Hid (digitsGo f l (j3 + 1) = R3) := Lib.hid (by rw [← hG.out]; conv => rhs; rw [digitsGo, if_pos hd])
                        rw [hd] at g0
                        clear hG hd
                        go_wp2_with ((first | (go_at_call 72; with_reducible refine g0.mono ?_)); rintro e w1 ⟨rfl, hw1⟩; replace hw1 := hw1.symm; subst hw1)
                        go_roundw
                        case rel => exact ⟨f, j3 + 1, by go_num, hG2, by omega, by omega, by first | rfl | trivial⟩
                        case measure => simp [intOf]; omega
            · have hjn : j2 < n := by have := lt_of_dgB hd; rw [HL.out] at this; exact this
              obtain ⟨f, rfl⟩ : ∃ g, f = g + 1 := ⟨f - 1, by omega⟩
              have hG2 : Hid (digitsGo f l (j2 + 1) = R2) := Lib.hid (by rw [← hG.out]; conv => rhs; rw [digitsGo, if_pos hd])
              rw [hd] at g0
              clear hG hd
              go_wp2_with ((first | (go_at_call 72; with_reducible refine g0.mono ?_)); rintro e w1 ⟨rfl, hw1⟩; replace hw1 := hw1.symm; subst hw1)
              go_roundw
              case rel => exact ⟨f, j2 + 1, by go_num, hG2, by omega, by omega, by first | rfl | trivial⟩
              case measure => simp [intOf]; omega
      · have hjn : j1 < n := by have := lt_of_dgB hd; rw [HL.out] at this; exact this
        obtain ⟨f, rfl⟩ : ∃ g, f = g + 1 := ⟨f - 1, by omega⟩
        have hG2 : Hid (digitsGo f l (j1 + 1) = R1) := Lib.hid (by rw [← hG.out]; conv => rhs; rw [digitsGo, if_pos hd])
        rw [hd] at g0
        clear hG hd
        go_wp2_with ((first | (go_at_call 72; with_reducible refine g0.mono ?_)); rintro e w1 ⟨rfl, hw1⟩; replace hw1 := hw1.symm; subst hw1)
        go_roundw
        case rel => exact ⟨f, j1 + 1, by go_num, hG2, by omega, by omega, by first | rfl | trivial⟩
        case measure => simp [intOf]; omega
end
end Go.Proofs.Ytelbjnanpmdnnaa
