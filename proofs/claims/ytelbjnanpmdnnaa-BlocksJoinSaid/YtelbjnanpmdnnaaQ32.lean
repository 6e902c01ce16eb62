/- Texts of mine in one: R3. -/
import Derived.Test.YtelbjnanpmdnnaaQ31
namespace Go.Proofs.Ytelbjnanpmdnnaa
section
open Go.RowKit
theorem hexV_bd (c : Int) : -1 ≤ hexV c ∧ hexV c ≤ 15 := by unfold hexV; split <;> (try split) <;> omega
set_option maxRecDepth 100000 in
set_option maxHeartbeats 4000000 in
theorem rvalue_any {a : Option Addr} {n cap : Nat} {l : List Int} {w : World} (i : Int) (k : Nat) (h : Src w a n cap l) (hi : i = (k : Int)) (hk : k ≤ 1000000) :
    Calls Try.prog 71 #[.slice a n cap, .int .i64 i] w (Told (.tuple #[.int .i64 (valueF l k).1, .int .i64 ((valueF l k).2 : Nat)]) w) := by
  subst hi
  have hlen := h.len
  by_cases hn : n ≤ k + 1
  · have hv : valueF l k = (65533, k + 1) := by unfold valueF; rw [if_pos (by rw [hlen]; exact hn)]
    rw [hv]
    have hge : (n : Int) ≤ (k : Int) + 1 := by omega
    clear h hlen hv
    go_enter Try.func71, Try.ntmps71
    go_wp2
    go_ret2
    exact ⟨rfl, Below.refl _ _⟩
  · have hge : ¬ (n : Int) ≤ (k : Int) + 1 := by omega
    obtain ⟨hcap1, hcap2⟩ := h.cap
    obtain ⟨b, off, rfl, _⟩ := h.cell k (by omega)
    have hnn := h.small
    have hcell : ∀ {w' : World} (h' : Src w' (some ⟨b, off, none⟩) n cap l) (j : Nat), j < n → w'.cell? ⟨b, off + j, none⟩ = some (.int .i64 (chA l j)) := fun h' j hj => by
      obtain ⟨b', off', e, hc⟩ := h'.cell j hj
      cases e
      exact hc
    generalize hR : hexGo 6 l (k + 1) 0 = R
    have HV : Hid (valueF l k = if R.2 = k + 1 then (chA l (k + 1), k + 2) else (cleanF R.1, if spB l R.2 then R.2 + 1 else R.2)) := Lib.hid (by unfold valueF; rw [if_neg (by rw [hlen]; exact hn), hR])
    have HR := Lib.hid hR; clear hR
    have HL := Lib.hid hlen; clear hlen
    have HP := Lib.hid h; clear h
    generalize valueF l k = V at *
    go_enter Try.func71, Try.ntmps71
    go_wp2_with fail
    go_loopw [6, 7] (fun i m wr => ∃ (f j : Nat) (q : Int), i = .int .i64 j ∧ m = .int .i64 q ∧ Hid (hexGo f l j q = R) ∧ j + f = k + 7 ∧ k + 1 ≤ j ∧ j ≤ n ∧ 0 ≤ q ∧ Hid ((q + 1) * 16 ^ f ≤ 16777216) ∧ Below w.heap.size w wr) (fun i _ _ => n - (intOf i).toNat)
    case atStart => exact ⟨6, k + 1, 0, by go_num, rfl, HR, by omega, by omega, by omega, by omega, Lib.hid (by decide), Below.refl _ _⟩
    case round =>
      obtain ⟨f, j, q, rfl, rfl, hG, hjf, hj1, hj2, hq, hQ, hbl⟩ := hrel
      have hS := Lib.hid (HP.out.later hbl)
      have hq2 : q ≤ 16777215 := by
        have h1 : (1 : Int) ≤ 16 ^ f := Int.pow_pos (by decide)
        have := hQ.out
        have h2 : (q + 1) * 1 ≤ (q + 1) * 16 ^ f := Int.mul_le_mul_of_nonneg_left h1 (by omega)
        omega
      by_cases hjn : j < n
      · have hc := hcell hS.out j hjn
        have hch := chA_ch HP.out.pre j
        have hvb := hexV_bd (chA l j)
        by_cases hf : f = 0
        · have hE : R = (q, j) := by rw [← hG.out]; exact hexGo_stop f (.inl hf)
          have hl7 : ¬ (j : Int) < (k : Int) + 7 := by omega
          by_cases hj : j = k + 1
          · have hv : V = (chA l (k + 1), k + 2) := by rw [HV.out, hE]; exact if_pos hj
            subst hj
            omega
          · have hj' : ((j : Int) == (k : Int) + 1) = false := beq_eq_false_iff_ne.2 (by omega)
            have hsp := fun w (h : Src w (some ⟨b, off, none⟩) n cap l) => rspaceAt (j : Int) j h rfl
            have hv : V = (cleanF q, if spB l j then j + 1 else j) := by rw [HV.out, hE]; exact if_neg hj
            clear HV hE HR hG HL hcell
            generalize spB l j = sp at *
            by_cases h0 : q = 0
            · subst h0
              rw [show cleanF 0 = 65533 from rfl] at hv
              cases sp
              all_goals
                go_wp2_with ((first | (go_at_call 49; refine (hsp _ hS.out).mono ?_; rintro e w2 ⟨rfl, rfl⟩)))
                go_ret2
                refine ⟨by rw [hv]; rfl, ?_⟩
                exact hbl
            · have h0' : (q == 0) = false := beq_eq_false_iff_ne.2 h0
              have hr := fun w => refRight_any q w
              have hcl : cleanF q = if rightB q = true then q else 65533 := by unfold cleanF charOf; rw [if_neg h0]
              rw [hcl] at hv
              generalize rightB q = rr at *
              clear h0 hcl
              cases sp <;> cases rr
              all_goals
                go_wp2_with ((first | (go_at_call 49; refine (hsp _ hS.out).mono ?_; rintro e w2 ⟨rfl, rfl⟩) | (go_at_call 33; refine (hr _).mono ?_; rintro e w2 ⟨rfl, rfl⟩)))
                go_ret2
                refine ⟨by rw [hv]; rfl, ?_⟩
                exact hbl
        · by_cases hx : 0 ≤ hexV (chA l j)
          · have hl7 : (j : Int) < (k : Int) + 7 := by omega
            obtain ⟨f, rfl⟩ : ∃ g, f = g + 1 := ⟨f - 1, by omega⟩
            have hG' : Hid (hexGo f l (j + 1) (16 * q + hexV (chA l j)) = R) := Lib.hid (by rw [← hG.out]; conv => rhs; rw [hexGo, if_pos (show hxB l j = true from decide_eq_true hx)])
            have hQ' : Hid ((16 * q + hexV (chA l j) + 1) * 16 ^ f ≤ 16777216) := Lib.hid (by
              have h1 := hQ.out
              rw [Int.pow_succ] at h1
              have h2 : (0 : Int) ≤ 16 ^ f := Int.pow_nonneg (by decide)
              have h3 : (16 * q + hexV (chA l j) + 1) * 16 ^ f ≤ (16 * (q + 1)) * 16 ^ f := Int.mul_le_mul_of_nonneg_right (by omega) h2
              have h4 : (16 * (q + 1)) * 16 ^ f = (q + 1) * (16 ^ f * 16) := by rw [Int.mul_comm 16 (q + 1), Int.mul_assoc, Int.mul_comm 16 (16 ^ f)]
              omega)
            have hcv := fun w => rhex_any (chA l j) w hch
            clear hG hQ HV HL
            generalize hexV (chA l j) = hv0 at *
            go_wp2_with (first | (go_at_call 83; refine (hcv _).mono ?_; rintro e w1 ⟨rfl, hbx⟩; replace hbl := hbl.trans (hbx.mono hbl.size); replace hS := Lib.hid (hS.out.later hbx); replace hc := hcell hS.out j hjn; clear hbx))
            go_roundw
            case rel => exact ⟨f, j + 1, 16 * q + hv0, by go_num, by go_num, hG', by omega, by omega, by omega, by omega, hQ', hbl⟩
            case measure => simp [intOf]; omega
          · have hE : R = (q, j) := by rw [← hG.out]; exact hexGo_stop f (.inr (decide_eq_false (by omega)))
            have hl7 : (j : Int) < (k : Int) + 7 := by omega
            have hcv := fun w => rhex_any (chA l j) w hch
            generalize hexV (chA l j) = hv0 at *
            by_cases hj : j = k + 1
            · have hv : V = (chA l (k + 1), k + 2) := by rw [HV.out, hE]; exact if_pos hj
              subst hj
              have hjj : (((k + 1 : Nat) : Int) == (k : Int) + 1) = true := beq_iff_eq.2 (by omega)
              clear HV hE HR hG HL
              go_wp2_with ((first | (go_at_call 83; refine (hcv _).mono ?_; rintro e w1 ⟨rfl, hbx⟩; replace hbl := hbl.trans (hbx.mono hbl.size); replace hS := Lib.hid (hS.out.later hbx); replace hc := hcell hS.out _ hjn; clear hbx)))
              go_ret2
              refine ⟨by rw [hv]; rfl, ?_⟩
              exact hbl
            · have hj' : ((j : Int) == (k : Int) + 1) = false := beq_eq_false_iff_ne.2 (by omega)
              have hsp := fun w (h : Src w (some ⟨b, off, none⟩) n cap l) => rspaceAt (j : Int) j h rfl
              have hv : V = (cleanF q, if spB l j then j + 1 else j) := by rw [HV.out, hE]; exact if_neg hj
              clear HV hE HR hG HL
              generalize spB l j = sp at *
              by_cases h0 : q = 0
              · subst h0
                rw [show cleanF 0 = 65533 from rfl] at hv
                cases sp
                all_goals
                  go_wp2_with ((first | (go_at_call 83; refine (hcv _).mono ?_; rintro e w1 ⟨rfl, hbx⟩; replace hbl := hbl.trans (hbx.mono hbl.size); replace hS := Lib.hid (hS.out.later hbx); replace hc := hcell hS.out _ hjn; clear hbx) | (go_at_call 49; refine (hsp _ hS.out).mono ?_; rintro e w2 ⟨rfl, rfl⟩)))
                  go_ret2
                  refine ⟨by rw [hv]; rfl, ?_⟩
                  exact hbl
              · have h0' : (q == 0) = false := beq_eq_false_iff_ne.2 h0
                have hr := fun w => refRight_any q w
                have hcl : cleanF q = if rightB q = true then q else 65533 := by unfold cleanF charOf; rw [if_neg h0]
                rw [hcl] at hv
                generalize rightB q = rr at *
                clear h0 hcl
                cases sp <;> cases rr
                all_goals
                  go_wp2_with ((first | (go_at_call 83; refine (hcv _).mono ?_; rintro e w1 ⟨rfl, hbx⟩; replace hbl := hbl.trans (hbx.mono hbl.size); replace hS := Lib.hid (hS.out.later hbx); replace hc := hcell hS.out _ hjn; clear hbx) | (go_at_call 49; refine (hsp _ hS.out).mono ?_; rintro e w2 ⟨rfl, rfl⟩) | (go_at_call 33; refine (hr _).mono ?_; rintro e w2 ⟨rfl, rfl⟩)))
                  go_ret2
                  refine ⟨by rw [hv]; rfl, ?_⟩
                  exact hbl
      · have hE : R = (q, j) := by rw [← hG.out]; exact hexGo_stop f (.inr (by rcases hq' : hxB l j with _ | _; rfl; exact absurd (lt_of_hxB hq') (by rw [HL.out]; exact hjn)))
        have hjn' : ¬ (j : Int) < (n : Int) := by omega
        by_cases hj : j = k + 1
        · have hv : V = (chA l (k + 1), k + 2) := by rw [HV.out, hE]; exact if_pos hj
          subst hj
          omega
        · have hj' : ((j : Int) == (k : Int) + 1) = false := beq_eq_false_iff_ne.2 (by omega)
          have hsp := fun w (h : Src w (some ⟨b, off, none⟩) n cap l) => rspaceAt (j : Int) j h rfl
          have hv : V = (cleanF q, if spB l j then j + 1 else j) := by rw [HV.out, hE]; exact if_neg hj
          clear HV hE HR hG HL hcell
          generalize spB l j = sp at *
          by_cases h0 : q = 0
          · subst h0
            rw [show cleanF 0 = 65533 from rfl] at hv
            cases sp
            all_goals
              go_wp2_with ((first | (go_at_call 49; refine (hsp _ hS.out).mono ?_; rintro e w2 ⟨rfl, rfl⟩)))
              go_ret2
              refine ⟨by rw [hv]; rfl, ?_⟩
              exact hbl
          · have h0' : (q == 0) = false := beq_eq_false_iff_ne.2 h0
            have hr := fun w => refRight_any q w
            have hcl : cleanF q = if rightB q = true then q else 65533 := by unfold cleanF charOf; rw [if_neg h0]
            rw [hcl] at hv
            generalize rightB q = rr at *
            clear h0 hcl
            cases sp <;> cases rr
            all_goals
              go_wp2_with ((first | (go_at_call 49; refine (hsp _ hS.out).mono ?_; rintro e w2 ⟨rfl, rfl⟩) | (go_at_call 33; refine (hr _).mono ?_; rintro e w2 ⟨rfl, rfl⟩)))
              go_ret2
              refine ⟨by rw [hv]; rfl, ?_⟩
              exact hbl
end
end Go.Proofs.Ytelbjnanpmdnnaa
