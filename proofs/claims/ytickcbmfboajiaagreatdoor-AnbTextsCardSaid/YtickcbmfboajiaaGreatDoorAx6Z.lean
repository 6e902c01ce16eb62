/- The text of an An+B: what it is read as: mathematics. -/
import Derived.Test.YtickcbmfboajiaaGreatDoorFU
import Derived.Test.YtickcbmfboajiaaGreatDoorAx5Z
namespace Go.Proofs.YtickcbmfboajiaaGreatDoor
open Go.RowKit Go.Shelf
set_option linter.unusedVariables false
set_option linter.unusedSimpArgs false

def headP (a : Int) : ByteArray := if a = 1 then ⟨#[110]⟩ else if a = -1 then ⟨#[45, 110]⟩ else itS a ++ ⟨#[110]⟩
/-- An An+B's text. -/
def textP (a b : Int) : ByteArray := if a = 0 then itS b else if 0 < b then (headP a ++ ⟨#[43]⟩) ++ itS b else if b < 0 then headP a ++ itS b else headP a

def SmU (U : List Int) : Prop := ∀ c ∈ U, c = 45 ∨ c = 110 ∨ (48 ≤ c ∧ c ≤ 57)
theorem low_self {U : List Int} (h : SmU U) : lowS (strOfNums U) = strOfNums U := by
  have hu : U8 U := fun z hz => by have := h z hz; omega
  have hm : U.map smallF = U := by
    conv => rhs; rw [← List.map_id U]
    apply List.map_congr_left
    intro c hc
    have := h c hc
    unfold smallF
    rw [if_neg (by omega)]; rfl
  rw [lowS_nums hu, hm]
theorem smu_name {U : List Int} (h : SmU U) : ∀ u ∈ U, nameB u = true ∧ 32 ≤ u ∧ u < 127 := fun u hu => by
  rcases h u hu with rfl | rfl | h
  · decide
  · decide
  · exact ⟨dg_name h, by omega⟩
theorem smu_plc {U : List Int} (h : SmU U) : ∀ u ∈ U, PlC u := fun u hu => by have := h u hu; unfold PlC; omega
/-- What stands behind the n in a name: nothing, or a - and digits. -/
def InR (R : List Int) : Prop := R = [] ∨ ∃ D, R = 45 :: D ∧ DgX D
theorem inr_smu {R : List Int} (h : InR R) : SmU R := fun c hc => by
  rcases h with rfl | ⟨D, rfl, hD⟩
  · cases hc
  · rcases List.mem_cons.1 hc with rfl | hc
    · exact .inl rfl
    · have := hD c hc; omega
theorem bl_stop {ts : List Tk} {k : Nat} {t : Tk} (h : ts[k]? = some t) (h13 : t.kind ≠ 13) : blF ts k = k := by
  have ht : tkAt ts k = t := by unfold tkAt; rw [h]; rfl
  unfold blF
  rw [blGo, ht, if_neg h13]
/-- A head's tokens, and what is read of it. -/
theorem head_run {a : Int} (ha : a ≠ 0) {R X zs : List Int} {ts : List Tk} (hz : zs = ascI (headP a) ++ (R ++ X)) (hR : InR R) (hX : X = [] ∨ hdX X = 43)
    (hr : ∀ m, zs.drop m = X → zs.length = m + X.length → RunX zs ts m) :
    ∃ t, RunX zs (t :: ts) 0 ∧ ∃ A, numB A = true ∧ valS A = a ∧ ∀ us, us[0]? = some t → findP us = rowP us A (strOfNums R) 1 := by
  have hx1 : nameB (hdX X) = false ∧ hdX X ≠ 92 ∧ hdX X ≠ 40 := by
    rcases hX with rfl | h
    · decide
    · rw [h]; decide
  have hRs := inr_smu hR
  have hU1 : SmU (110 :: R) := fun c hc => by
    rcases List.mem_cons.1 hc with rfl | hc
    · exact .inr (.inl rfl)
    · exact hRs c hc
  by_cases h1 : a = 1
  · subst h1
    have e : headP 1 = ⟨#[110]⟩ := rfl
    have hz0 : zs.drop 0 = (110 :: R) ++ X := by rw [hz, e]; rfl
    refine ⟨⟨1, 0, 0 + (110 :: R).length, 110 :: R, [], false⟩, ⟨lt_dropX hz0 (by simp), first_not47 hz0 (by show (110 : Int) ≠ 47; decide), tok_ident hz0 (smu_name hU1) (.inl ⟨R, rfl⟩) hx1.1 hx1.2.1 hx1.2.2, (by decide : (1 : Int) ≠ 0), hr _ (drop_moreX hz0) ?_⟩, ⟨#[49]⟩, by decide, by decide, fun us h0 => ?_⟩
    · show zs.length = 0 + (110 :: R).length + X.length
      rw [len_dropX hz0 (by simp), List.length_append]; omega
    · have hl := low_self hU1
      have hB : strB (strOfNums (110 :: R)) = 110 :: R.map u8 := by rw [strB_nums]; rfl
      have he : sameB (strOfNums (110 :: R)) evenS = false := by rw [← even_low, hl, toList_strB, hB]; rfl
      have ho : sameB (strOfNums (110 :: R)) oddS = false := by rw [← odd_low, hl, toList_strB, hB]; rfl
      have := find_name (ts := us) (k := 0) (bl_stop h0 (by decide : (1 : Int) ≠ 13)) h0 rfl he ho
      unfold txS at this
      dsimp only at this
      have hf : firstB (strOfNums (110 :: R)) 45 = false := by unfold firstB; rw [hB]; rfl
      rw [this, hl, hf, if_neg (by decide), hasN_nums, if_pos rfl, cutN_nums]
  · by_cases h2 : a = -1
    · subst h2
      have e : headP (-1) = ⟨#[45, 110]⟩ := rfl
      have hz0 : zs.drop 0 = (45 :: 110 :: R) ++ X := by rw [hz, e]; rfl
      have hU2 : SmU (45 :: 110 :: R) := fun c hc => by
        rcases List.mem_cons.1 hc with rfl | hc
        · exact .inl rfl
        · exact hU1 c hc
      refine ⟨⟨1, 0, 0 + (45 :: 110 :: R).length, 45 :: 110 :: R, [], false⟩, ⟨lt_dropX hz0 (by simp), first_not47 hz0 (by show (45 : Int) ≠ 47; decide), tok_ident hz0 (smu_name hU2) (.inr ⟨R, rfl⟩) hx1.1 hx1.2.1 hx1.2.2, (by decide : (1 : Int) ≠ 0), hr _ (drop_moreX hz0) ?_⟩, ⟨#[45, 49]⟩, by decide, by decide, fun us h0 => ?_⟩
      · show zs.length = 0 + (45 :: 110 :: R).length + X.length
        rw [len_dropX hz0 (by simp), List.length_append]; omega
      · have hl := low_self hU2
        have hB : strB (strOfNums (45 :: 110 :: R)) = 45 :: 110 :: R.map u8 := by rw [strB_nums]; rfl
        have he : sameB (strOfNums (45 :: 110 :: R)) evenS = false := by rw [← even_low, hl, toList_strB, hB]; rfl
        have ho : sameB (strOfNums (45 :: 110 :: R)) oddS = false := by rw [← odd_low, hl, toList_strB, hB]; rfl
        have := find_name (ts := us) (k := 0) (bl_stop h0 (by decide : (1 : Int) ≠ 13)) h0 rfl he ho
        unfold txS at this
        dsimp only at this
        have hf : firstB (strOfNums (45 :: 110 :: R)) 45 = true := by unfold firstB; rw [hB]; rfl
        have ht : tailS (strOfNums (45 :: 110 :: R)) = strOfNums (110 :: R) := by apply strB_inj; rw [tailS_bytes, hB, strB_nums]; rfl
        rw [this, hl, hf, if_pos rfl, ht, hasN_nums, if_pos rfl, cutN_nums]
    · have e : headP a = itS a ++ ⟨#[110]⟩ := by unfold headP; rw [if_neg h1, if_neg h2]
      obtain ⟨S, u, hS, hsu, hA, hval⟩ : ∃ (S : List Int) (u : Nat), SgX S ∧ itS a = strOfNums S ++ decS u ∧ ascI (itS a) = S ++ ascI (decS u) ∧ (numB (itS a) = true ∧ valS (itS a) = a) := by
        by_cases hn : a < 0
        · refine ⟨[45], (-a).toNat, .inr (.inr rfl), itS_neg hn, by rw [itS_neg hn, ascI_appX]; rfl, ?_⟩
          rw [itS_neg hn]
          obtain ⟨q1, _, q3⟩ := (decS_dgn (-a).toNat).val (c := 45) (.inr rfl)
          exact ⟨q1, by rw [q3, if_pos rfl]; omega⟩
        · refine ⟨[], a.toNat, .inl rfl, by rw [itS_pos (by omega)]; apply strB_inj; rw [strB_append]; rfl, by rw [itS_pos (by omega)]; rfl, ?_⟩
          rw [itS_pos (by omega)]
          obtain ⟨q1, _, q3⟩ := (decS_dgn a.toNat).num
          exact ⟨q1, by rw [q3]; omega⟩
      obtain ⟨g1, g2⟩ := (decS_dgn u).dgx
      have hz0 : zs.drop 0 = S ++ (ascI (decS u) ++ ((110 :: R) ++ X)) := by
        rw [hz, e, ascI_appX, hA, List.drop_zero, show ascI ⟨#[110]⟩ = [110] from rfl]; simp
      refine ⟨_, run_dim hz0 hS g1 g2 (smu_name hU1) (.inr rfl) hx1.1 hx1.2.1 (fun m h3 h4 _ => hr m h3 h4), itS a, hval.1, hval.2, fun us h0 => ?_⟩
      have hl := low_self hU1
      have hnm : strOfNums (S ++ ascI (decS u)) = itS a := by rw [nums_app, hsu]
      have := find_dim (ts := us) (k := 0) (bl_stop h0 (by decide : (12 : Int) ≠ 13)) h0 rfl rfl (by unfold nmT; rw [hnm]; exact hval.1) (by unfold txS; rw [hl]; exact hasN_nums R)
      unfold nmT txS at this
      dsimp only at this
      rw [this, hl, cutN_nums, hnm]
/-- What is found in an An+B's text. -/
theorem text_find (a b : Int) : ∃ A B, numB A = true ∧ valS A = a ∧ numB B = true ∧ valS B = b ∧ findP (toksF (ascI (textP a b))) = ((A, B, (toksF (ascI (textP a b))).length - 1), true) := by
  have hpn : ∀ u, ∀ c ∈ ascI (decS u), PlC c := fun u => dg_plc (decS_dgn u).dgx.1
  have hpi : ∀ n, ∀ c ∈ ascI (itS n), PlC c := fun n c hc => by
    by_cases hn : n < 0
    · rw [itS_neg hn, ascI_appX] at hc
      rcases List.mem_append.1 hc with hc | hc
      · have : c = 45 := by simpa [ascI, strB] using hc
        subst this; unfold PlC; omega
      · exact hpn _ c hc
    · rw [itS_pos (by omega)] at hc; exact hpn _ c hc
  have hph : ∀ c ∈ ascI (headP a), PlC c := fun c hc => by
    unfold headP at hc
    split at hc
    · have : c = 110 := by simpa [ascI, strB] using hc
      subst this; unfold PlC; omega
    · split at hc
      · have : c = 45 ∨ c = 110 := by simpa [ascI, strB] using hc
        unfold PlC; omega
      · rw [ascI_appX] at hc
        rcases List.mem_append.1 hc with hc | hc
        · exact hpi a c hc
        · have : c = 110 := by simpa [ascI, strB] using hc
          subst this; unfold PlC; omega
  by_cases ha : a = 0
  · have e : textP a b = itS b := by unfold textP; rw [if_pos ha]
    rw [e, ha]
    by_cases hn : b < 0
    · obtain ⟨g1, g2⟩ := (decS_dgn (-b).toNat).dgx
      obtain ⟨q1, _, q3⟩ := (decS_dgn (-b).toNat).val (c := 45) (.inr rfl)
      have ez : ascI (itS b) = [45] ++ ascI (decS (-b).toNat) := by rw [itS_neg hn, ascI_appX]; rfl
      have hr := run_num (l := ascI (itS b)) (j := 0) (S := [45]) (D := ascI (decS (-b).toNat)) (by rw [ez]; rfl) (.inr (.inr rfl)) g1 g2
      have ht := toks_run (hpi b) hr (by rw [ez]; simp)
      have hnm : strOfNums ([45] ++ ascI (decS (-b).toNat)) = (⟨#[45]⟩ : ByteArray) ++ decS (-b).toNat := nums_app _ _
      have hf := find_num (ts := toksF (ascI (itS b))) (k := 0) (by rw [ht]; rfl) (by rw [ht]; rfl) rfl rfl (by unfold nmT; dsimp only; rw [hnm]; exact q1)
      unfold nmT at hf
      dsimp only at hf
      refine ⟨⟨#[48]⟩, _, by decide, by decide, q1, by rw [q3, if_pos rfl]; omega, ?_⟩
      rw [hf, hnm, ht]; rfl
    · obtain ⟨g1, g2⟩ := (decS_dgn b.toNat).dgx
      obtain ⟨q1, _, q3⟩ := (decS_dgn b.toNat).num
      have ez : ascI (itS b) = [] ++ ascI (decS b.toNat) := by rw [itS_pos (by omega)]; rfl
      have hr := run_num (l := ascI (itS b)) (j := 0) (S := []) (D := ascI (decS b.toNat)) (by rw [ez]; rfl) (.inl rfl) g1 g2
      have ht := toks_run (hpi b) hr (by rw [ez]; have := List.length_pos_iff.2 g2; simp; omega)
      have hnm : strOfNums ([] ++ ascI (decS b.toNat)) = decS b.toNat := nums_ascI _
      have hf := find_num (ts := toksF (ascI (itS b))) (k := 0) (by rw [ht]; rfl) (by rw [ht]; rfl) rfl rfl (by unfold nmT; dsimp only; rw [hnm]; exact q1)
      unfold nmT at hf
      dsimp only at hf
      refine ⟨⟨#[48]⟩, _, by decide, by decide, q1, by rw [q3]; omega, ?_⟩
      rw [hf, hnm, ht]; rfl
  · rcases (show 0 < b ∨ b < 0 ∨ b = 0 by omega) with hb | hb | hb
    · have e : textP a b = (headP a ++ ⟨#[43]⟩) ++ itS b := by unfold textP; rw [if_neg ha, if_pos hb]
      obtain ⟨g1, g2⟩ := (decS_dgn b.toNat).dgx
      obtain ⟨q1, q2, q3⟩ := (decS_dgn b.toNat).val (c := 43) (.inl rfl)
      have ez : ascI (textP a b) = ascI (headP a) ++ ([] ++ ([43] ++ ascI (decS b.toNat))) := by
        rw [e, itS_pos (by omega), ascI_appX, ascI_appX, List.append_assoc]; rfl
      obtain ⟨t, hr, A, hA1, hA2, hF⟩ := head_run (R := []) (X := [43] ++ ascI (decS b.toNat)) ha ez (.inl rfl) (.inr rfl) (ts := [⟨10, (ascI (headP a)).length, (ascI (headP a)).length + (([43] : List Int).length + (ascI (decS b.toNat)).length), [], [43] ++ ascI (decS b.toNat), true⟩]) (fun m h1 h2 => by
        have hm : m = (ascI (headP a)).length := by
          have := congrArg List.length ez
          rw [List.length_append, List.nil_append] at this
          omega
        subst hm
        exact run_num (S := [43]) h1 (.inr (.inl rfl)) g1 g2)
      have hp : ∀ c ∈ ascI (textP a b), PlC c := by
        rw [ez]
        intro c hc
        simp only [List.mem_append, List.mem_singleton, List.nil_append] at hc
        rcases hc with hc | hc | hc
        · exact hph c hc
        · subst hc; unfold PlC; omega
        · exact hpn _ c hc
      have ht := toks_run hp hr (by rw [ez]; have := List.length_pos_iff.2 g2; simp; omega)
      have hnm : strOfNums ([43] ++ ascI (decS b.toNat)) = (⟨#[43]⟩ : ByteArray) ++ decS b.toNat := nums_app _ _
      have h1 := hF (toksF (ascI (textP a b))) (by rw [ht]; rfl)
      have g : (toksF (ascI (textP a b)))[1]? = some ⟨10, (ascI (headP a)).length, (ascI (headP a)).length + (([43] : List Int).length + (ascI (decS b.toNat)).length), [], [43] ++ ascI (decS b.toNat), true⟩ := by rw [ht]; rfl
      have h2 := row_signed (ts := toksF (ascI (textP a b))) (A := A) (z := 1) (k := 1) (bl_stop g (by decide : (10 : Int) ≠ 13)) g rfl rfl (by unfold nmT; dsimp only; rw [hnm]; exact q1) (by unfold nmT; dsimp only; rw [hnm]; exact q2)
      unfold nmT at h2
      dsimp only at h2
      refine ⟨A, _, hA1, hA2, q1, by rw [q3, if_neg (by decide)]; omega, ?_⟩
      rw [h1, show strOfNums [] = ⟨#[]⟩ from rfl, h2, hnm, ht]; rfl
    · have e : textP a b = headP a ++ itS b := by unfold textP; rw [if_neg ha, if_neg (by omega), if_pos hb]
      obtain ⟨g1, g2⟩ := (decS_dgn (-b).toNat).dgx
      obtain ⟨q1, q2, q3⟩ := (decS_dgn (-b).toNat).val (c := 45) (.inr rfl)
      have ez : ascI (textP a b) = ascI (headP a) ++ ((45 :: ascI (decS (-b).toNat)) ++ []) := by
        rw [e, itS_neg hb, ascI_appX, ascI_appX, List.append_nil]; rfl
      obtain ⟨t, hr, A, hA1, hA2, hF⟩ := head_run (R := 45 :: ascI (decS (-b).toNat)) (X := []) ha ez (.inr ⟨_, rfl, g1⟩) (.inl rfl) (ts := []) (fun m h1 h2 => by show m = _; rw [h2]; rfl)
      have hp : ∀ c ∈ ascI (textP a b), PlC c := by
        rw [ez]
        intro c hc
        simp only [List.mem_append, List.mem_cons, List.append_nil] at hc
        rcases hc with hc | hc | hc
        · exact hph c hc
        · subst hc; unfold PlC; omega
        · exact hpn _ c hc
      have ht := toks_run hp hr (by rw [ez]; simp; omega)
      have hnm : strOfNums (45 :: ascI (decS (-b).toNat)) = (⟨#[45]⟩ : ByteArray) ++ decS (-b).toNat := nums_app [45] _
      have h1 := hF (toksF (ascI (textP a b))) (by rw [ht]; rfl)
      rw [hnm] at h1
      have hsz : 2 ≤ ((⟨#[45]⟩ : ByteArray) ++ decS (-b).toNat).size := by
        rw [ByteArray.size_append]
        have : 0 < (decS (-b).toNat).size := (decS_dgn (-b).toNat).1
        show 2 ≤ 1 + (decS (-b).toNat).size
        omega
      have hf : firstB ((⟨#[45]⟩ : ByteArray) ++ decS (-b).toNat) 45 = true := by unfold firstB; rw [strB_append]; exact decide_eq_true rfl
      refine ⟨A, _, hA1, hA2, q1, by rw [q3, if_pos rfl]; omega, ?_⟩
      rw [h1, row_inner hsz hf q1, ht]; rfl
    · have e : textP a b = headP a := by unfold textP; rw [if_neg ha, if_neg (by omega), if_neg (by omega)]
      have ez : ascI (textP a b) = ascI (headP a) ++ ([] ++ []) := by rw [e]; simp
      obtain ⟨t, hr, A, hA1, hA2, hF⟩ := head_run (R := []) (X := []) ha ez (.inl rfl) (.inl rfl) (ts := []) (fun m h1 h2 => by show m = _; rw [h2]; rfl)
      have hp : ∀ c ∈ ascI (textP a b), PlC c := by rw [e]; exact hph
      have hl1 : 1 ≤ (ascI (textP a b)).length := by have := hr.1; omega
      have ht := toks_run hp hr (by simpa using hl1)
      have h1 := hF (toksF (ascI (textP a b))) (by rw [ht]; rfl)
      have g : (toksF (ascI (textP a b)))[1]? = some ⟨0, (ascI (textP a b)).length, (ascI (textP a b)).length, [], [], false⟩ := by rw [ht]; rfl
      have h2 := row_alone (ts := toksF (ascI (textP a b))) (A := A) (z := 1) (bl_stop g (by decide : (0 : Int) ≠ 13)) g rfl
      refine ⟨A, ⟨#[48]⟩, hA1, hA2, by decide, by rw [hb]; decide, ?_⟩
      rw [h1, show strOfNums [] = ⟨#[]⟩ from rfl, h2, ht]; rfl
end Go.Proofs.YtickcbmfboajiaaGreatDoor
