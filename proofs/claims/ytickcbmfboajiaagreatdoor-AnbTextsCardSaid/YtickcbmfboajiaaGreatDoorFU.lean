/- Several texts of mine in one. -/
import Derived.Test.YtickcbmfboajiaaGreatDoorFR
import Derived.Test.YtickcbmfboajiaaGreatDoorFB
import Derived.Test.YtickcbmfboajiaaGreatDoorFS
import Derived.Test.YtickcbmfboajiaaGreatDoorFQ
namespace Go.Proofs.YtickcbmfboajiaaGreatDoor
section
open Go.RowKit
set_option linter.unusedVariables false
set_option linter.unusedSimpArgs false

/-- A character of ASCII that nothing is made of. -/
def PlC (c : Int) : Prop := 1 ≤ c ∧ c < 127 ∧ c ≠ 12 ∧ c ≠ 13
theorem plc_right {c : Int} (h : PlC c) : rightB c = true := by unfold PlC at h; unfold rightB; exact decide_eq_true (by omega)
theorem plc_char {c : Int} (h : PlC c) : charOf c = c := by unfold charOf; rw [plc_right h, if_pos rfl]
theorem plc_text {zs : List Int} (h : ∀ c ∈ zs, PlC c) : textF zs = zs := by
  induction zs with
  | nil => rfl
  | cons c zs ih =>
    have hc := h c (List.mem_cons_self ..)
    unfold textF at *
    rw [List.flatMap_cons, ih (fun y hy => h y (List.mem_cons_of_mem _ hy)), plc_char hc]
    unfold putF
    unfold PlC at hc
    rw [if_pos (by omega)]; rfl
theorem plc_map {zs : List Int} (h : ∀ c ∈ zs, PlC c) : zs.map charOf = zs := by
  induction zs with
  | nil => rfl
  | cons c zs ih => rw [List.map_cons, ih (fun y hy => h y (List.mem_cons_of_mem _ hy)), plc_char (h c (List.mem_cons_self ..))]
theorem plc_chars {zs : List Int} (h : ∀ c ∈ zs, PlC c) : charsF zs = zs := by
  have := chars_text zs
  rw [plc_text h, plc_map h] at this
  rw [this]
  unfold dropMark
  cases zs with
  | nil => rfl
  | cons c zs =>
    have hc := h c (List.mem_cons_self ..)
    unfold PlC at hc
    simp
    omega
theorem plc_prep (ys : List Int) (h : ∀ z ∈ ys, PlC z) : prepF ys = ys := by
  have key : ∀ k, k ≤ ys.length → prepTo ys k = ys.take k := by
    intro k
    induction k with
    | zero => intro _; simp [prepTo]
    | succ k ih =>
      intro hk
      have hm : ys[k] ∈ ys := List.getElem_mem hk
      have hp := h _ hm
      have hr := plc_right hp
      unfold PlC at hp
      have e : ys[k]?.getD 0 = ys[k] := by rw [List.getElem?_eq_getElem hk]; rfl
      rw [prepTo, ih (by omega), List.take_succ_eq_append_getElem hk]
      congr 1
      rcases prep_cases ys k with ⟨e1, _, _, _⟩ | ⟨e1, _, _⟩ | ⟨e1, _, _, _⟩ | ⟨e1, _⟩ | ⟨e1, _⟩ | ⟨_, _, _, HP⟩
      all_goals first | (rw [e] at e1; omega) | (rw [HP, e]; unfold charOf; rw [if_pos hr])
  unfold prepF
  rw [key _ (Nat.le_refl _), List.take_length]
theorem plc_toks {zs : List Int} (h : ∀ c ∈ zs, PlC c) : toksF zs = allF zs := by
  unfold toksF
  rw [plc_chars h, plc_prep zs h]

def hdX (X : List Int) : Int := X.headD 0
theorem chA_hdX {l X : List Int} {j : Nat} (h : l.drop j = X) : chA l j = hdX X := by
  cases X with
  | nil =>
    have : l.length - j = 0 := by rw [← List.length_drop, h]; rfl
    exact chA_end l j (by omega)
  | cons c X =>
    unfold chA
    have : (l.drop j)[0]? = some c := by rw [h]; rfl
    rw [List.getElem?_drop] at this
    rw [show j = j + 0 from rfl, this]; rfl
theorem drop_moreX {l A X : List Int} {j : Nat} (h : l.drop j = A ++ X) : l.drop (j + A.length) = X := by rw [← List.drop_drop, h, List.drop_left]
theorem lt_dropX {l X : List Int} {j : Nat} (h : l.drop j = X) (h0 : X ≠ []) : j < l.length := by
  rcases Nat.lt_or_ge j l.length with h1 | h1
  · exact h1
  · rw [List.drop_eq_nil_of_le h1] at h; exact absurd h.symm h0
theorem len_dropX {l X : List Int} {j : Nat} (h : l.drop j = X) (h0 : X ≠ []) : l.length = j + X.length := by
  have := lt_dropX h h0
  have h2 : l.length - j = X.length := by rw [← List.length_drop, h]
  omega
def DgX (D : List Int) : Prop := ∀ c ∈ D, 48 ≤ c ∧ c ≤ 57
theorem digits_runX {l : List Int} : ∀ (D : List Int) (j : Nat) (X : List Int), l.drop j = D ++ X → DgX D → digitB (hdX X) = false → digitsF l j = j + D.length
  | [], j, X, h, _, hx => digitsF_stop (by unfold dgB; rw [chA_hdX h]; exact hx)
  | c :: D, j, X, h, hd', hx => by
    have hc := hd' c (List.mem_cons_self ..)
    have h' : l.drop j = c :: (D ++ X) := h
    have hdg : dgB l j = true := by unfold dgB; rw [chA_hdX h']; show digitB c = true; unfold digitB; exact decide_eq_true hc
    rw [digitsF_step hdg, digits_runX D (j + 1) X (by rw [← List.drop_drop, h']; rfl) (fun x hx => hd' x (List.mem_cons_of_mem _ hx)) hx]
    simp; omega
theorem hdX_app {D X : List Int} (h : D ≠ []) : hdX (D ++ X) = hdX D := by cases D with | nil => exact absurd rfl h | cons c D => rfl
theorem dgX_hd {D : List Int} (h : DgX D) (h0 : D ≠ []) : 48 ≤ hdX D ∧ hdX D ≤ 57 := by cases D with | nil => exact absurd rfl h0 | cons c D => exact h c (List.mem_cons_self ..)
def SgX (S : List Int) : Prop := S = [] ∨ S = [43] ∨ S = [45]
theorem signAt_runX {l S X : List Int} {j : Nat} (h : l.drop j = S ++ X) (hS : SgX S) (hx : 48 ≤ hdX X ∧ hdX X ≤ 57) : signAt l j = j + S.length := by
  have hc := chA_hdX h
  unfold signAt isB
  rcases hS with rfl | rfl | rfl
  · rw [hc, show hdX ([] ++ X) = hdX X from rfl, decide_eq_false (by omega), decide_eq_false (by omega)]; rfl
  · rw [hc]; rfl
  · rw [hc]; rfl
/-- A number without a point and an exponent. -/
theorem number_runX {l S D X : List Int} {j : Nat} (h : l.drop j = S ++ (D ++ X)) (hS : SgX S) (hD : DgX D) (hD0 : D ≠ []) (hX : digitB (hdX X) = false ∧ hdX X ≠ 46 ∧ hdX X ≠ 101 ∧ hdX X ≠ 69) :
    numAt l j = true ∧ numberF l j = (j + (S.length + D.length), true) := by
  have hdd := dgX_hd hD hD0
  have g1 := signAt_runX h hS (by rw [hdX_app hD0]; exact hdd)
  have h1 := drop_moreX h
  have g2 := digits_runX D _ X h1 hD hX.1
  have h2 := drop_moreX h1
  have hc := chA_hdX h2
  have hdg : dgB l (j + S.length) = true := by unfold dgB; rw [chA_hdX h1, hdX_app hD0]; unfold digitB; exact decide_eq_true hdd
  refine ⟨by unfold numAt; rw [g1, hdg]; rfl, ?_⟩
  unfold numberF
  rw [g1, g2]
  have f1 : fracAt l (j + S.length + D.length) = false := by unfold fracAt isB; rw [hc, decide_eq_false hX.2.1]; rfl
  have e1 : fracF l (j + S.length + D.length) = j + S.length + D.length := by unfold fracF; rw [f1, if_neg (by decide)]
  have f2 : expoB l (j + S.length + D.length) = false := by unfold expoB isB; rw [hc, decide_eq_false hX.2.2.1, decide_eq_false hX.2.2.2]; rfl
  rw [e1, f1, f2]
  unfold expoF
  rw [f2, if_neg (by decide), Nat.add_assoc]; rfl
theorem slice_runX {l A X : List Int} {j : Nat} (h : l.drop j = A ++ X) : sliceF l j (j + A.length) = A := by
  unfold sliceF
  rw [h, Nat.add_sub_cancel_left, List.take_left]
theorem namesGo_runX {l : List Int} : ∀ (U : List Int) (f m : Nat) (X out : List Int), l.drop m = U ++ X → (∀ u ∈ U, nameB u = true) → nameB (hdX X) = false → hdX X ≠ 92 → U.length < f → namesGo f l m out = (out ++ U, m + U.length)
  | [], f, m, X, out, h, _, hx, h92, hf => by
    obtain ⟨f, rfl⟩ : ∃ g, f = g + 1 := ⟨f - 1, by simp at hf; omega⟩
    have hc := chA_hdX h
    rw [namesGo, if_neg (by unfold nmB; rw [hc]; rw [show hdX ([] ++ X) = hdX X from rfl, hx]; decide), if_neg (by unfold escB isB; rw [hc, show hdX ([] ++ X) = hdX X from rfl, decide_eq_false h92]; simp)]
    simp
  | u :: U, f, m, X, out, h, hU, hx, h92, hf => by
    obtain ⟨f, rfl⟩ : ∃ g, f = g + 1 := ⟨f - 1, by omega⟩
    have h' : l.drop m = u :: (U ++ X) := h
    have hc : chA l m = u := chA_hdX h'
    rw [namesGo, if_pos (by unfold nmB; rw [hc]; exact hU u (List.mem_cons_self ..)), namesGo_runX U f (m + 1) X (out ++ [chA l m]) (by rw [← List.drop_drop, h']; rfl) (fun x hx => hU x (List.mem_cons_of_mem _ hx)) hx h92 (by simp at hf; omega), hc]
    simp; omega
theorem names_runX {l U X : List Int} {m : Nat} (h : l.drop m = U ++ X) (hU : ∀ u ∈ U, nameB u = true) (hx : nameB (hdX X) = false) (h92 : hdX X ≠ 92) : namesF l m = (U, m + U.length) := by
  unfold namesF
  have hl : U.length ≤ l.length := by
    have : (l.drop m).length = (U ++ X).length := by rw [h]
    rw [List.length_drop, List.length_append] at this
    omega
  rw [namesGo_runX U _ m X [] h hU hx h92 (by omega)]; simp
theorem spacesGo_runX {l : List Int} : ∀ (P : List Int) (f m : Nat) (X : List Int), l.drop m = P ++ X → (∀ u ∈ P, spaceB u = true) → spaceB (hdX X) = false → P.length < f → spacesGo f l m = m + P.length
  | [], f, m, X, h, _, hx, hf => by
    have hc := chA_hdX h
    rw [spacesGo_stop _ (by unfold spB; rw [hc]; exact hx)]; rfl
  | u :: P, f, m, X, h, hP, hx, hf => by
    obtain ⟨f, rfl⟩ : ∃ g, f = g + 1 := ⟨f - 1, by omega⟩
    have h' : l.drop m = u :: (P ++ X) := h
    have hc : chA l m = u := chA_hdX h'
    rw [spacesGo, if_pos (by unfold spB; rw [hc]; exact hP u (List.mem_cons_self ..)), spacesGo_runX P f (m + 1) X (by rw [← List.drop_drop, h']; rfl) (fun x hx => hP x (List.mem_cons_of_mem _ hx)) hx (by simp at hf; omega)]
    simp; omega
theorem spaces_runX {l P X : List Int} {m : Nat} (h : l.drop m = P ++ X) (hP : ∀ u ∈ P, spaceB u = true) (hx : spaceB (hdX X) = false) : spacesF l m = m + P.length := by
  unfold spacesF
  have hl : P.length ≤ l.length := by
    have : (l.drop m).length = (P ++ X).length := by rw [h]
    rw [List.length_drop, List.length_append] at this
    omega
  exact spacesGo_runX P _ m X h hP hx (by omega)

/-- A number, at the end. -/
theorem tok_num {l S D : List Int} {j : Nat} (h : l.drop j = S ++ D) (hS : SgX S) (hD : DgX D) (hD0 : D ≠ []) : tokAt l j = ⟨10, j, j + (S.length + D.length), [], S ++ D, true⟩ := by
  have h' : l.drop j = S ++ (D ++ []) := by rw [List.append_nil]; exact h
  obtain ⟨n1, n2⟩ := number_runX h' hS hD hD0 ⟨by decide, by decide, by decide, by decide⟩
  have hlt := lt_dropX h (by cases S <;> simp [hD0])
  have hdd := dgX_hd hD hD0
  have hfirst : chA l j = 43 ∨ chA l j = 45 ∨ (48 ≤ chA l j ∧ chA l j ≤ 57) := by
    have hc := chA_hdX h
    rcases hS with rfl | rfl | rfl
    · have hc : chA l j = hdX D := hc
      omega
    · exact .inl hc
    · exact .inr (.inl hc)
  have he : l.drop (j + (S.length + D.length)) = [] := by
    have := drop_moreX (A := S ++ D) (X := []) (by rw [List.append_nil]; exact h)
    rwa [List.length_append] at this
  have hce := chA_hdX he
  unfold tokAt
  rw [if_neg (by omega), if_neg (show ¬ (spB l j = true) from by unfold spB spaceB; rw [decide_eq_false (by omega)]; decide), if_neg (show ¬ ((isB l j 34 || isB l j 39) = true) from by unfold isB; rw [decide_eq_false (by omega), decide_eq_false (by omega)]; decide), if_pos n1]
  unfold numericF
  rw [n2]
  dsimp only
  generalize hm : j + (S.length + D.length) = m at *
  have b1 : isB l m 45 = false := by unfold isB; rw [hce]; decide
  have b2 : stB l m = false := by unfold stB; rw [hce]; decide
  have b3 : isB l m 92 = false := by unfold isB; rw [hce]; decide
  have e1 : nameAt l m = false := by unfold nameAt escB; rw [b1, b2, b3]; rfl
  have e2 : isB l m 37 = false := by unfold isB; rw [hce]; decide
  rw [e1, if_neg (by decide), e2, if_neg (by decide), ← hm]
  have hsl := slice_runX (l := l) (A := S ++ D) (X := []) (j := j) (by rw [List.append_nil]; exact h)
  rw [List.length_append] at hsl
  rw [hsl, asc_bytes]
  intro c hc
  rcases List.mem_append.1 hc with hc | hc
  · rcases hS with rfl | rfl | rfl <;> simp at hc <;> omega
  · have := hD c hc; omega
/-- A number with a unit that is an n, or begins with it. -/
theorem tok_dim {l S D U X : List Int} {j : Nat} (h : l.drop j = S ++ (D ++ (U ++ X))) (hS : SgX S) (hD : DgX D) (hD0 : D ≠ []) (hU : ∀ u ∈ U, nameB u = true ∧ 32 ≤ u ∧ u < 127) (hU0 : hdX U = 78 ∨ hdX U = 110) (hx : nameB (hdX X) = false) (h92 : hdX X ≠ 92) :
    tokAt l j = ⟨12, j, j + (S.length + D.length + U.length), U, S ++ D, true⟩ := by
  have hUne : U ≠ [] := fun e => by rw [e] at hU0; rcases hU0 with h | h <;> exact absurd h (by decide)
  have hhd : hdX (U ++ X) = 78 ∨ hdX (U ++ X) = 110 := by rw [hdX_app hUne]; exact hU0
  obtain ⟨n1, n2⟩ := number_runX h hS hD hD0 ⟨by unfold digitB; exact decide_eq_false (by omega), by omega, by omega, by omega⟩
  have hlt := lt_dropX h (by cases S <;> simp [hD0])
  have hdd := dgX_hd hD hD0
  have hfirst : chA l j = 43 ∨ chA l j = 45 ∨ (48 ≤ chA l j ∧ chA l j ≤ 57) := by
    have hc := chA_hdX h
    rcases hS with rfl | rfl | rfl
    · have hc : chA l j = hdX (D ++ (U ++ X)) := hc
      rw [hdX_app hD0] at hc
      omega
    · exact .inl hc
    · exact .inr (.inl hc)
  have he : l.drop (j + (S.length + D.length)) = U ++ X := by
    have := drop_moreX (A := S ++ D) (X := U ++ X) (by rw [List.append_assoc]; exact h)
    rwa [List.length_append] at this
  have hce := chA_hdX he
  unfold tokAt
  rw [if_neg (by omega), if_neg (show ¬ (spB l j = true) from by unfold spB spaceB; rw [decide_eq_false (by omega)]; decide), if_neg (show ¬ ((isB l j 34 || isB l j 39) = true) from by unfold isB; rw [decide_eq_false (by omega), decide_eq_false (by omega)]; decide), if_pos n1]
  unfold numericF
  rw [n2]
  dsimp only
  have hn := names_runX he (fun u hu => (hU u hu).1) hx h92
  have b1 : isB l (j + (S.length + D.length)) 45 = false := by unfold isB; rw [hce]; exact decide_eq_false (by omega)
  have b2 : stB l (j + (S.length + D.length)) = true := by unfold stB; rw [hce]; rcases hhd with h | h <;> rw [h] <;> decide
  have e1 : nameAt l (j + (S.length + D.length)) = true := by unfold nameAt; rw [b1, b2]; rfl
  rw [e1, if_pos rfl, hn]
  have hsl := slice_runX (l := l) (A := S ++ D) (X := U ++ X) (j := j) (by rw [List.append_assoc]; exact h)
  rw [List.length_append] at hsl
  rw [hsl, asc_bytes, asc_bytes]
  · simp [Nat.add_assoc]
  · intro c hc
    rcases List.mem_append.1 hc with hc | hc
    · rcases hS with rfl | rfl | rfl <;> simp at hc <;> omega
    · have := hD c hc; omega
  · intro c hc; exact (hU c hc).2
/-- Blanks. -/
theorem tok_sp {l P X : List Int} {j : Nat} (h : l.drop j = P ++ X) (hP : ∀ u ∈ P, spaceB u = true) (hP0 : P ≠ []) (hx : spaceB (hdX X) = false) : tokAt l j = ⟨13, j, j + P.length, [], [], false⟩ := by
  have hlt := lt_dropX h (by simp [hP0])
  have hs : spB l j = true := by
    unfold spB; rw [chA_hdX h, hdX_app hP0]
    cases P with
    | nil => exact absurd rfl hP0
    | cons c P => exact hP c (List.mem_cons_self ..)
  unfold tokAt
  rw [if_neg (by omega), if_pos hs, spaces_runX h hP hx]
/-- A sign of its own, with a blank behind it. -/
theorem tok_sign {l X : List Int} {j : Nat} {c : Int} (h : l.drop j = c :: X) (hc : c = 43 ∨ c = 45) (hx : spaceB (hdX X) = true) : tokAt l j = ⟨9, j, j + 1, [c], [], false⟩ := by
  have hlt := lt_dropX h (by simp)
  have h0 : chA l j = c := chA_hdX h
  have h1 : chA l (j + 1) = hdX X := chA_hdX (by rw [← List.drop_drop, h]; rfl)
  have hb : hdX X = 32 ∨ hdX X = 9 ∨ hdX X = 10 := by unfold spaceB at hx; have := of_decide_eq_true hx; omega
  have nb : ∀ d, d ≠ c → isB l j d = false := fun d hd => by unfold isB; rw [h0]; exact decide_eq_false (fun e => hd e.symm)
  have nb1 : ∀ d, d ≠ 32 → d ≠ 9 → d ≠ 10 → isB l (j + 1) d = false := fun d _ _ _ => by unfold isB; rw [h1]; exact decide_eq_false (by omega)
  have hsp : spB l j = false := by unfold spB spaceB; rw [h0]; exact decide_eq_false (by omega)
  have hdg1 : dgB l (j + 1) = false := by unfold dgB digitB; rw [h1]; exact decide_eq_false (by omega)
  have hst1 : stB l (j + 1) = false := by unfold stB startB smallF; rw [h1]; exact decide_eq_false (by split <;> omega)
  have hst : stB l j = false := by unfold stB startB smallF; rw [h0]; exact decide_eq_false (by split <;> omega)
  have hnu : numAt l j = false := by
    have e : signAt l j = j + 1 := by unfold signAt isB; rw [h0]; rcases hc with rfl | rfl <;> rfl
    unfold numAt fracAt
    rw [e, hdg1, nb1 46 (by decide) (by decide) (by decide)]; rfl
  have hcd : cdcB l j = false := by unfold cdcB; rw [nb1 45 (by decide) (by decide) (by decide)]; simp
  have hna : nameAt l j = false := by
    unfold nameAt escB
    rw [nb1 45 (by decide) (by decide) (by decide), hst1, hst, nb1 92 (by decide) (by decide) (by decide), nb 92 (by omega)]
    cases isB l j 45 <;> rfl
  have hco : cdoB l j = false := by unfold cdoB; rw [nb 60 (by omega)]; rfl
  have hat : atSgB l j = false := by unfold atSgB; rw [nb 64 (by omega)]; rfl
  have hha : hashB l j = false := by unfold hashB; rw [nb 35 (by omega)]; rfl
  unfold tokAt
  rw [if_neg (by omega), hsp, nb 34 (by omega), nb 39 (by omega), hnu, hcd, hna, hco, hat, hha, h0]
  have hk : signKind c = 9 := by rcases hc with rfl | rfl <;> decide
  rw [hk, show bytesF [c] = [c] from asc_bytes (fun d hd => by rw [List.mem_singleton.1 hd]; omega)]
  simp
/-- A name that begins with an n, or a - and an n. -/
theorem tok_ident {l U X : List Int} {j : Nat} (h : l.drop j = U ++ X) (hU : ∀ u ∈ U, nameB u = true ∧ 32 ≤ u ∧ u < 127) (hU0 : (∃ V, U = 110 :: V) ∨ ∃ V, U = 45 :: 110 :: V) (hx : nameB (hdX X) = false) (h92 : hdX X ≠ 92) (h40 : hdX X ≠ 40) :
    tokAt l j = ⟨1, j, j + U.length, U, [], false⟩ := by
  have hlt := lt_dropX h (by rcases hU0 with ⟨V, rfl⟩ | ⟨V, rfl⟩ <;> simp)
  have hn := names_runX h (fun u hu => (hU u hu).1) hx h92
  have he := drop_moreX h
  have hce := chA_hdX he
  have hc := chA_hdX h
  have h0 : (chA l j = 110) ∨ (chA l j = 45 ∧ chA l (j + 1) = 110) := by
    rcases hU0 with ⟨V, rfl⟩ | ⟨V, rfl⟩
    · exact .inl hc
    · exact .inr ⟨hc, chA_hdX (X := 110 :: (V ++ X)) (by rw [← List.drop_drop, h]; rfl)⟩
  have hsp : spB l j = false := by unfold spB spaceB; exact decide_eq_false (by omega)
  have b34 : isB l j 34 = false := by unfold isB; exact decide_eq_false (by omega)
  have b39 : isB l j 39 = false := by unfold isB; exact decide_eq_false (by omega)
  have hnu : numAt l j = false := by
    unfold numAt fracAt
    rcases h0 with h0 | ⟨h0, h1⟩
    · have e : signAt l j = j := by unfold signAt isB; rw [h0]; rfl
      rw [e]; unfold dgB isB; rw [h0]; rfl
    · have e : signAt l j = j + 1 := by unfold signAt isB; rw [h0]; rfl
      rw [e]; unfold dgB isB; rw [h1]; rfl
  have hcd : cdcB l j = false := by
    unfold cdcB isB
    rcases h0 with h0 | ⟨h0, h1⟩
    · rw [h0]; rfl
    · rw [h0, h1]; rfl
  have hna : nameAt l j = true := by
    unfold nameAt
    rcases h0 with h0 | ⟨h0, h1⟩
    · rw [show isB l j 45 = false from by unfold isB; rw [h0]; rfl, show stB l j = true from by unfold stB; rw [h0]; decide]; rfl
    · rw [show isB l j 45 = true from by unfold isB; rw [h0]; rfl, show stB l (j + 1) = true from by unfold stB; rw [h1]; decide, show isB l (j + 1) 45 = false from by unfold isB; rw [h1]; rfl]; rfl
  unfold tokAt
  rw [if_neg (by omega), hsp, b34, b39, hnu, hcd, hna]
  simp only [Bool.or_self, Bool.false_eq_true, if_false, if_true]
  unfold calledF
  rw [hn, show isB l (j + U.length) 40 = false from by unfold isB; rw [hce]; exact decide_eq_false h40]
  rw [asc_bytes (fun c hc => (hU c hc).2)]
  simp

/-- Tokens from a place on. -/
def RunX (l : List Int) : List Tk → Nat → Prop
  | [], j => j = l.length
  | t :: ts, j => j < l.length ∧ chA l j ≠ 47 ∧ tokAt l j = t ∧ t.kind ≠ 0 ∧ RunX l ts t.to
theorem behind_not {l : List Int} {j : Nat} (h : chA l j ≠ 47) : behindF l j = j := behindF_stop (by unfold openB; rw [show isB l j 47 = false from decide_eq_false h]; rfl)
theorem run_all (l : List Int) : ∀ (ts : List Tk) (f j : Nat) (acc : List Tk), RunX l ts j → ts.length < f → allGo f l j acc = acc ++ ts ++ [⟨0, l.length, l.length, [], [], false⟩]
  | [], f, j, acc, h, hf => by
    obtain ⟨f, rfl⟩ : ∃ g, f = g + 1 := ⟨f - 1, by simp at hf; omega⟩
    have hj : j = l.length := h
    subst hj
    have hn : nextF l l.length = ⟨0, l.length, l.length, [], [], false⟩ := by
      unfold nextF
      rw [behind_not (by rw [chA_end l _ (Nat.le_refl _)]; decide)]
      exact tokAt_end (Nat.le_refl _)
    rw [allGo, hn, if_pos rfl]; simp
  | t :: ts, f, j, acc, h, hf => by
    obtain ⟨f, rfl⟩ : ∃ g, f = g + 1 := ⟨f - 1, by omega⟩
    obtain ⟨h1, h2, h3, h4, h5⟩ := h
    have hn : nextF l j = t := by unfold nextF; rw [behind_not h2]; exact h3
    rw [allGo, hn, if_neg h4, run_all l ts f t.to (acc ++ [t]) h5 (by simp at hf; omega)]
    simp
theorem toks_run {zs : List Int} {ts : List Tk} (hp : ∀ c ∈ zs, PlC c) (h : RunX zs ts 0) (hl : ts.length ≤ zs.length) : toksF zs = ts ++ [⟨0, zs.length, zs.length, [], [], false⟩] := by
  rw [plc_toks hp]
  unfold allF
  rw [run_all zs ts _ 0 [] h (by omega)]; simp
end

section
open Go.RowKit Go.Shelf
set_option linter.unusedVariables false
set_option linter.unusedSimpArgs false

theorem ascI_appX (a b : ByteArray) : ascI (a ++ b) = ascI a ++ ascI b := by unfold ascI; rw [strB_append, List.map_append]
theorem u8_nat (b : UInt8) : u8 ((b.toNat : Nat) : Int) = b := by
  unfold u8
  rw [Int.toNat_natCast]
  exact UInt8.ofNat_toNat
theorem strB_ascI (s : ByteArray) : (ascI s).map u8 = strB s := by
  unfold ascI
  rw [List.map_map]
  conv => rhs; rw [← List.map_id (strB s)]
  apply List.map_congr_left
  intro b _
  exact u8_nat b
theorem nums_ascI (s : ByteArray) : strOfNums (ascI s) = s := by
  apply strB_inj
  rw [strB_nums, strB_ascI]
theorem nums_app (x : List Int) (s : ByteArray) : strOfNums (x ++ ascI s) = strOfNums x ++ s := by
  apply strB_inj
  rw [strB_nums, strB_append, strB_nums, List.map_append, strB_ascI]
theorem ascI_len (s : ByteArray) : (ascI s).length = s.size := by unfold ascI; rw [List.length_map, strB_len]
theorem u8_ascI (s : ByteArray) : U8 (ascI s) := fun z hz => by
  unfold ascI at hz
  obtain ⟨b, _, rfl⟩ := List.mem_map.1 hz
  have := b.toNat_lt
  omega
/-- A number's text with its sign: what it is made of, and its value. -/
def NumTx (s : ByteArray) (n : Int) : Prop := ∃ S D, ascI s = S ++ D ∧ SgX S ∧ DgX D ∧ D ≠ [] ∧ numB s = true ∧ valS s = n
theorem dgx_digs {s : ByteArray} {n : Int} (h : Digs s n) : DgX (ascI s) ∧ ascI s ≠ [] := by
  obtain ⟨h0, _, ha, _⟩ := h
  refine ⟨fun c hc => ?_, fun e => by have := ascI_len s; rw [e] at this; simp at this; omega⟩
  unfold ascI at hc
  obtain ⟨b, hb, rfl⟩ := List.mem_map.1 hc
  unfold bytesAll at ha
  have := List.all_eq_true.1 ha b hb
  unfold digitB at this
  exact of_decide_eq_true this
theorem wholeK_ok {s : ByteArray} {n : Int} (hn : numB s = true) (hv : valS s = n) (hb : -2147483647 ≤ n ∧ n ≤ 2147483647) : wholeK s = (n, 0) := by
  unfold wholeK
  rw [hn, if_neg (by decide), hv, if_pos hb]
theorem wholeK_over {s : ByteArray} {n : Int} (hn : numB s = true) (hv : valS s = n) (hb : ¬ (-2147483647 ≤ n ∧ n ≤ 2147483647)) : wholeK s = (0, 3) := by
  unfold wholeK
  rw [hn, if_neg (by decide), hv, if_neg hb]
theorem lowS_nums {zs : List Int} (h : U8 zs) : lowS (strOfNums zs) = strOfNums (zs.map smallF) := by unfold lowS; rw [lowL_nums h]
theorem small_dgs {D : List Int} (h : DgX D) : D.map smallF = D := by
  conv => rhs; rw [← List.map_id D]
  apply List.map_congr_left
  intro c hc
  have := h c hc
  unfold smallF
  rw [if_neg (by omega)]; rfl
theorem hasN_nums (R : List Int) : hasN (strOfNums (110 :: R)) = true := by
  unfold hasN Lib.hasPrefix
  show [110].isPrefixOf (strB (strOfNums (110 :: R))) = true
  rw [strB_nums, List.map_cons]
  show (u8 110 == u8 110 && [].isPrefixOf _) = true
  simp
theorem cutN_nums (R : List Int) : cutN (strOfNums (110 :: R)) = strOfNums R := by
  rw [cutN_tail (hasN_nums R)]
  apply strB_inj
  have e : strB ((strOfNums (110 :: R)).extract 1 (strOfNums (110 :: R)).size) = (strB (strOfNums (110 :: R))).drop 1 := tailS_bytes _
  rw [e, strB_nums, strB_nums]; rfl

/-- A row that begins with a number and its unit. -/
theorem find_dim {ts : List Tk} {k : Nat} {t : Tk} (hb : blF ts 0 = k) (hk : ts[k]? = some t) (h12 : t.kind = 12) (hw : t.whole = true) (hn : numB (nmT t) = true) (hh : hasN (lowS (txS t)) = true) :
    findP ts = rowP ts (nmT t) (cutN (lowS (txS t))) (k + 1) := by
  have ht : tkAt ts k = t := by unfold tkAt; rw [hk]; rfl
  have hl : k < ts.length := (List.getElem?_eq_some_iff.1 hk).1
  have hg : GoodT (tkAt ts k) := fun _ _ => by rw [ht]; exact hn
  rw [findP_eq ts (by rw [hb]; exact hl) (by rw [hb]; exact hg), hb, ht, h12, if_neg (by decide), if_neg (by rintro ⟨h, _⟩; exact absurd h (by decide)), headN_eq ts k hg, ht]
  unfold headE
  rw [h12, hw, if_neg (by decide), if_pos rfl, if_pos rfl]
  show (if hasN (lowS (txS t)) = true then rowP ts (nmT t) (cutN (lowS (txS t))) (k + 1) else _) = _
  rw [if_pos hh]
/-- A row that begins with a name. -/
theorem find_name {ts : List Tk} {k : Nat} {t : Tk} (hb : blF ts 0 = k) (hk : ts[k]? = some t) (h1 : t.kind = 1) (he : sameB (txS t) evenS = false) (ho : sameB (txS t) oddS = false) :
    findP ts = if firstB (lowS (txS t)) 45 = true then (if hasN (tailS (lowS (txS t))) = true then rowP ts ⟨#[45, 49]⟩ (cutN (tailS (lowS (txS t)))) (k + 1) else ((⟨#[]⟩, ⟨#[]⟩, 0), false))
      else (if hasN (lowS (txS t)) = true then rowP ts ⟨#[49]⟩ (cutN (lowS (txS t))) (k + 1) else ((⟨#[]⟩, ⟨#[]⟩, 0), false)) := by
  have ht : tkAt ts k = t := by unfold tkAt; rw [hk]; rfl
  have hl : k < ts.length := (List.getElem?_eq_some_iff.1 hk).1
  have hg : GoodT (tkAt ts k) := fun h _ => by rw [ht, h1] at h; rcases h with h | h <;> exact absurd h (by decide)
  rw [findP_eq ts (by rw [hb]; exact hl) (by rw [hb]; exact hg), hb, ht, h1, if_pos rfl, he, if_neg (by decide), ho, if_neg (by decide), headN_eq ts k hg, ht]
  unfold headE
  rw [h1, if_neg (by decide), if_neg (by decide), if_pos rfl]
  split <;> rfl
/-- A row that is a number. -/
theorem find_num {ts : List Tk} {k : Nat} {t : Tk} (hb : blF ts 0 = k) (hk : ts[k]? = some t) (h10 : t.kind = 10) (hw : t.whole = true) (hn : numB (nmT t) = true) : findP ts = ((⟨#[48]⟩, nmT t, k + 1), true) := by
  have ht : tkAt ts k = t := by unfold tkAt; rw [hk]; rfl
  have hl : k < ts.length := (List.getElem?_eq_some_iff.1 hk).1
  have hg : GoodT (tkAt ts k) := fun _ _ => by rw [ht]; exact hn
  rw [findP_eq ts (by rw [hb]; exact hl) (by rw [hb]; exact hg), hb, ht, h10, hw, if_neg (by decide), if_pos ⟨rfl, rfl⟩]
/-- Behind an n: a number with its sign. -/
theorem row_signed {ts : List Tk} {A : ByteArray} {z k : Nat} {t : Tk} (hb : blF ts z = k) (hk : ts[k]? = some t) (h10 : t.kind = 10) (hw : t.whole = true) (hn : numB (nmT t) = true) (hs : signedB (nmT t) = true) :
    rowP ts A ⟨#[]⟩ z = ((A, nmT t, k + 1), true) := by
  have ht : tkAt ts k = t := by unfold tkAt; rw [hk]; rfl
  have hl : k < ts.length := (List.getElem?_eq_some_iff.1 hk).1
  have := rowP_whole (ts := ts) (A := A) (rest := ⟨#[]⟩) (z := z) rfl (by rw [hb, numD_true, decide_eq_true hl, ht]; unfold wholeT; unfold nmT at hn hs ⊢; rw [h10, hw, hn, hs]; rfl)
  rw [hb, ht] at this
  exact this
/-- .. nothing. -/
theorem row_alone {ts : List Tk} {A : ByteArray} {z : Nat} {t : Tk} (hb : blF ts z = z) (hk : ts[z]? = some t) (h0 : t.kind = 0) : rowP ts A ⟨#[]⟩ z = ((A, ⟨#[48]⟩, z), true) := by
  have ht : tkAt ts z = t := by unfold tkAt; rw [hk]; rfl
  have hl : z < ts.length := (List.getElem?_eq_some_iff.1 hk).1
  refine rowP_zero rfl ?_ ?_
  · rw [hb, numD_true, ht]; unfold wholeT; rw [h0]; simp
  · rw [hb, ht, h0]; exact .inr (.inl (by decide))
/-- .. a sign of its own, and a number. -/
theorem row_apart {ts : List Tk} {A : ByteArray} {z k m : Nat} {t u : Tk} {c : UInt8} (hb : blF ts z = k) (hk : ts[k]? = some t) (h9 : t.kind = 9) (hc : c = 43 ∨ c = 45) (hx : txS t = ⟨#[c]⟩)
    (hm : blF ts (k + 1) = m) (hu : ts[m]? = some u) (h10 : u.kind = 10) (hw : u.whole = true) (hn : numB (nmT u) = true) (hs : signedB (nmT u) = false) :
    rowP ts A ⟨#[]⟩ z = ((A, ⟨#[c]⟩ ++ nmT u, m + 1), true) := by
  have ht : tkAt ts k = t := by unfold tkAt; rw [hk]; rfl
  have hl : k < ts.length := (List.getElem?_eq_some_iff.1 hk).1
  have ht2 : tkAt ts m = u := by unfold tkAt; rw [hu]; rfl
  have hl2 : m < ts.length := (List.getElem?_eq_some_iff.1 hu).1
  have := rowP_sign (ts := ts) (A := A) (rest := ⟨#[]⟩) (z := z) rfl (by rw [hb, numD_true, ht]; unfold wholeT; rw [h9]; simp) (by rw [hb]; exact hl) (by rw [hb, ht]; exact h9) (by rw [hb, ht, hx]; rcases hc with rfl | rfl <;> simp)
    (by rw [hb, hm]; unfold numD wholeT; unfold nmT at hn hs ⊢; rw [decide_eq_true hl2, ht2, h10, hw, hn, hs]; rfl)
  rw [hb, hm, ht, ht2, hx] at this
  exact this
/-- .. a number with a -, in the name. -/
theorem row_inner {ts : List Tk} {A R : ByteArray} {z : Nat} (hR : 2 ≤ R.size) (hf : firstB R 45 = true) (hn : numB R = true) : rowP ts A R z = ((A, R, z), true) := by
  unfold rowP
  rw [if_neg (by omega), if_neg (fun e => by rw [e] at hR; exact absurd hR (by decide)), hf, hn]; rfl
theorem parseK_of {A B : ByteArray} {u : Nat} {a b : Int} (hA : wholeK A = (a, 0)) (hB : wholeK B = (b, 0)) : parseK ((A, B, u), true) = ((a, b, u), 0) := by
  unfold parseK
  rw [if_neg (by simp)]
  show (if (wholeK A).2 ≠ 0 ∨ (wholeK B).2 ≠ 0 then _ else (((wholeK A).1, (wholeK B).1, u), (0 : Int))) = _
  rw [hA, hB, if_neg (by simp)]
end

section
open Go.RowKit Go.Shelf
set_option linter.unusedVariables false
set_option linter.unusedSimpArgs false

theorem first_not47 {l X : List Int} {j : Nat} (h : l.drop j = X) (hx : hdX X ≠ 47) : chA l j ≠ 47 := by rw [chA_hdX h]; exact hx
theorem num_hd {S D Y : List Int} (hS : SgX S) (hD : DgX D) (hD0 : D ≠ []) : hdX (S ++ (D ++ Y)) ≠ 47 := by
  have hdd := dgX_hd hD hD0
  rcases hS with rfl | rfl | rfl
  · show hdX (D ++ Y) ≠ 47; rw [hdX_app hD0]; omega
  · show (43 : Int) ≠ 47; decide
  · show (45 : Int) ≠ 47; decide
theorem run_num {l S D : List Int} {j : Nat} (h : l.drop j = S ++ D) (hS : SgX S) (hD : DgX D) (hD0 : D ≠ []) : RunX l [⟨10, j, j + (S.length + D.length), [], S ++ D, true⟩] j := by
  have hne : S ++ D ≠ [] := by cases S <;> simp [hD0]
  refine ⟨lt_dropX h hne, first_not47 h ?_, tok_num h hS hD hD0, (by decide : (10 : Int) ≠ 0), ?_⟩
  · have := num_hd (Y := []) hS hD hD0; rwa [List.append_nil] at this
  · show j + (S.length + D.length) = l.length
    rw [len_dropX h hne, List.length_append]
theorem run_dim {l S D U X : List Int} {j : Nat} {ts : List Tk} (h : l.drop j = S ++ (D ++ (U ++ X))) (hS : SgX S) (hD : DgX D) (hD0 : D ≠ []) (hU : ∀ u ∈ U, nameB u = true ∧ 32 ≤ u ∧ u < 127) (hU0 : hdX U = 78 ∨ hdX U = 110) (hx : nameB (hdX X) = false) (h92 : hdX X ≠ 92)
    (hr : ∀ m, l.drop m = X → l.length = m + X.length → m = j + (S.length + D.length + U.length) → RunX l ts m) : RunX l (⟨12, j, j + (S.length + D.length + U.length), U, S ++ D, true⟩ :: ts) j := by
  have hne : S ++ (D ++ (U ++ X)) ≠ [] := by cases S <;> simp [hD0]
  refine ⟨lt_dropX h hne, first_not47 h (num_hd hS hD hD0), tok_dim h hS hD hD0 hU hU0 hx h92, (by decide : (12 : Int) ≠ 0), hr _ ?_ ?_ rfl⟩
  · have := drop_moreX (A := S ++ (D ++ U)) (X := X) (by rw [h]; simp)
    rw [show j + (S ++ (D ++ U)).length = j + (S.length + D.length + U.length) from by simp [Nat.add_assoc]] at this
    exact this
  · show l.length = j + (S.length + D.length + U.length) + X.length
    rw [len_dropX h hne]; simp; omega
theorem run_sp {l P X : List Int} {j : Nat} {ts : List Tk} (h : l.drop j = P ++ X) (hP : ∀ u ∈ P, spaceB u = true) (hP0 : P ≠ []) (hx : spaceB (hdX X) = false)
    (hr : ∀ m, l.drop m = X → m = j + P.length → RunX l ts m) : RunX l (⟨13, j, j + P.length, [], [], false⟩ :: ts) j := by
  have hne : P ++ X ≠ [] := by simp [hP0]
  refine ⟨lt_dropX h hne, first_not47 h ?_, tok_sp h hP hP0 hx, (by decide : (13 : Int) ≠ 0), hr _ (drop_moreX h) rfl⟩
  rw [hdX_app hP0]
  cases P with
  | nil => exact absurd rfl hP0
  | cons c P =>
    have := hP c (List.mem_cons_self ..)
    unfold spaceB at this
    have := of_decide_eq_true this
    show c ≠ 47
    omega
theorem run_sign {l X : List Int} {j : Nat} {c : Int} {ts : List Tk} (h : l.drop j = c :: X) (hc : c = 43 ∨ c = 45) (hx : spaceB (hdX X) = true)
    (hr : ∀ m, l.drop m = X → m = j + 1 → RunX l ts m) : RunX l (⟨9, j, j + 1, [c], [], false⟩ :: ts) j := by
  refine ⟨lt_dropX h (by simp), first_not47 h (by show c ≠ 47; omega), tok_sign h hc hx, (by decide : (9 : Int) ≠ 0), hr _ (by rw [← List.drop_drop, h]; rfl) rfl⟩

theorem dg_space {D : List Int} (hD : DgX D) (hD0 : D ≠ []) : spaceB (hdX D) = false := by
  have := dgX_hd hD hD0
  unfold spaceB; exact decide_eq_false (by omega)
theorem dg_name {c : Int} (h : 48 ≤ c ∧ c ≤ 57) : nameB c = true := by
  obtain ⟨n, rfl⟩ := Int.eq_ofNat_of_zero_le (show 0 ≤ c by omega)
  have : n = 48 ∨ n = 49 ∨ n = 50 ∨ n = 51 ∨ n = 52 ∨ n = 53 ∨ n = 54 ∨ n = 55 ∨ n = 56 ∨ n = 57 := by omega
  rcases this with rfl | rfl | rfl | rfl | rfl | rfl | rfl | rfl | rfl | rfl <;> decide
theorem sp_name {c : Int} (h : spaceB c = true) : nameB c = false ∧ c ≠ 92 ∧ c ≠ 40 := by
  unfold spaceB at h
  have := of_decide_eq_true h
  have : c = 32 ∨ c = 9 ∨ c = 10 := by omega
  rcases this with rfl | rfl | rfl <;> decide
theorem dg_plc {D : List Int} (h : DgX D) : ∀ c ∈ D, PlC c := fun c hc => by have := h c hc; unfold PlC; omega
/-- An n with a number behind a - : a name. -/
theorem unit_names {n : Int} (hn : n = 78 ∨ n = 110) {D : List Int} (hD : DgX D) : ∀ u ∈ n :: 45 :: D, nameB u = true ∧ 32 ≤ u ∧ u < 127 := fun u hu => by
  rcases List.mem_cons.1 hu with rfl | hu
  · rcases hn with rfl | rfl <;> decide
  · rcases List.mem_cons.1 hu with rfl | hu
    · decide
    · have := hD u hu
      exact ⟨dg_name this, by omega⟩
theorem digs_val {D : ByteArray} {n : Int} (h : Digs D n) {c : UInt8} (hc : c = 43 ∨ c = 45) : numB ((⟨#[c]⟩ : ByteArray) ++ D) = true ∧ signedB ((⟨#[c]⟩ : ByteArray) ++ D) = true ∧ valS ((⟨#[c]⟩ : ByteArray) ++ D) = (if c = 45 then -n else n) := by
  have h1 := h.signed (z := ⟨#[c]⟩) c hc [] rfl (fun b hb => by cases hb)
  refine ⟨h1.1, ?_, h1.2⟩
  have hB : strB ((⟨#[c]⟩ : ByteArray) ++ D) = c :: strB D := by rw [strB_append]; rfl
  unfold signedB firstB
  rw [hB]
  rcases hc with rfl | rfl <;> simp
theorem low_n {n : Int} (hn : n = 78 ∨ n = 110) {R : List Int} (hR : DgX R ∨ R = [] ∨ ∃ D, R = 45 :: D ∧ DgX D) : lowS (strOfNums (n :: R)) = strOfNums (110 :: R) := by
  have hs : R.map smallF = R := by
    rcases hR with h | rfl | ⟨D, rfl, h⟩
    · exact small_dgs h
    · rfl
    · rw [List.map_cons, small_dgs h]; rfl
  have hu : U8 (n :: R) := fun z hz => by
    rcases List.mem_cons.1 hz with rfl | hz
    · omega
    · rcases hR with h | rfl | ⟨D, rfl, h⟩
      · have := h z hz; omega
      · cases hz
      · rcases List.mem_cons.1 hz with rfl | hz
        · omega
        · have := h z hz; omega
  rw [lowS_nums hu, List.map_cons, hs]
  rcases hn with rfl | rfl <;> rfl

/-- A dimension whose unit is an n, and a number with its sign; the unit's name has it, with a -; blanks around a sign of its own. -/
theorem fin_signed {ts : List Tk} {k f g f2 g2 : Nat} {n : Int} {D1 D2 : ByteArray} {a b : Int} {c : UInt8} (hn : n = 78 ∨ n = 110) (hD1 : Digs D1 a) (hD2 : Digs D2 b) (hc : c = 43 ∨ c = 45) (ha : 0 ≤ a ∧ a ≤ 65535) (hb : 0 ≤ b ∧ b ≤ 65535)
    (h0 : blF ts 0 = k) (h1 : ts[k]? = some ⟨12, f, g, [n], ascI D1, true⟩) (h2 : blF ts (k + 1) = k + 1) (h3 : ts[k + 1]? = some ⟨10, f2, g2, [], ascI ((⟨#[c]⟩ : ByteArray) ++ D2), true⟩) :
    ∃ u, parseK (findP ts) = ((a, if c = 45 then -b else b, u), 0) := by
  obtain ⟨n1, n2, n3⟩ := hD1.num
  obtain ⟨m1, m2, m3⟩ := digs_val hD2 hc
  have hl := low_n hn (R := []) (.inr (.inl rfl))
  have e1 := find_dim (ts := ts) h0 h1 rfl rfl (by unfold nmT; rw [nums_ascI]; exact n1) (by unfold txS; rw [hl]; exact hasN_nums [])
  unfold nmT txS at e1
  rw [nums_ascI, hl, cutN_nums] at e1
  have e2 := row_signed (ts := ts) (A := D1) h2 h3 rfl rfl (by unfold nmT; rw [nums_ascI]; exact m1) (by unfold nmT; rw [nums_ascI]; exact m2)
  unfold nmT at e2
  rw [nums_ascI] at e2
  refine ⟨k + 1 + 1, ?_⟩
  rw [e1, show strOfNums [] = ⟨#[]⟩ from rfl, e2]
  exact parseK_of (wholeK_ok n1 n3 (by omega)) (wholeK_ok m1 m3 (by split <;> omega))
theorem fin_inner {ts : List Tk} {k f g : Nat} {n : Int} {D1 D2 : ByteArray} {a b : Int} (hn : n = 78 ∨ n = 110) (hD1 : Digs D1 a) (hD2 : Digs D2 b) (ha : 0 ≤ a ∧ a ≤ 65535) (hb : 0 ≤ b ∧ b ≤ 65535)
    (h0 : blF ts 0 = k) (h1 : ts[k]? = some ⟨12, f, g, n :: 45 :: ascI D2, ascI D1, true⟩) :
    ∃ u, parseK (findP ts) = ((a, -b, u), 0) := by
  obtain ⟨n1, n2, n3⟩ := hD1.num
  obtain ⟨m1, m2, m3⟩ := digs_val hD2 (c := 45) (.inr rfl)
  have hdg := dgx_digs hD2
  have hl := low_n hn (R := 45 :: ascI D2) (.inr (.inr ⟨_, rfl, hdg.1⟩))
  have e1 := find_dim (ts := ts) h0 h1 rfl rfl (by unfold nmT; rw [nums_ascI]; exact n1) (by unfold txS; rw [hl]; exact hasN_nums _)
  unfold nmT txS at e1
  rw [nums_ascI, hl, cutN_nums, show (45 : Int) :: ascI D2 = [45] ++ ascI D2 from rfl, nums_app, show strOfNums [45] = ⟨#[45]⟩ from rfl] at e1
  have hsz : 2 ≤ ((⟨#[45]⟩ : ByteArray) ++ D2).size := by
    rw [ByteArray.size_append]
    have : 0 < D2.size := hD2.1
    show 2 ≤ 1 + D2.size
    omega
  have hf : firstB ((⟨#[45]⟩ : ByteArray) ++ D2) 45 = true := by
    unfold firstB
    rw [strB_append]
    exact decide_eq_true rfl
  refine ⟨k + 1, ?_⟩
  rw [e1, row_inner hsz hf m1]
  exact parseK_of (wholeK_ok n1 n3 (by omega)) (wholeK_ok m1 (m3.trans (if_pos rfl)) (by omega))
theorem fin_apart {ts : List Tk} {f g f2 g2 f3 g3 k m : Nat} {n : Int} {D1 D2 : ByteArray} {a b : Int} {c : UInt8} (hn : n = 78 ∨ n = 110) (hD1 : Digs D1 a) (hD2 : Digs D2 b) (hc : c = 43 ∨ c = 45) (ha : 0 ≤ a ∧ a ≤ 65535) (hb : 0 ≤ b ∧ b ≤ 65535)
    (h0 : blF ts 0 = 0) (h1 : ts[0]? = some ⟨12, f, g, [n], ascI D1, true⟩) (h2 : blF ts 1 = k) (h3 : ts[k]? = some ⟨9, f2, g2, [(c.toNat : Int)], [], false⟩) (h4 : blF ts (k + 1) = m) (h5 : ts[m]? = some ⟨10, f3, g3, [], ascI D2, true⟩) :
    ∃ u, parseK (findP ts) = ((a, if c = 45 then -b else b, u), 0) := by
  obtain ⟨n1, n2, n3⟩ := hD1.num
  obtain ⟨m1, m2, m3⟩ := hD2.num
  obtain ⟨p1, p2, p3⟩ := digs_val hD2 hc
  have hl := low_n hn (R := []) (.inr (.inl rfl))
  have e1 := find_dim (ts := ts) h0 h1 rfl rfl (by unfold nmT; rw [nums_ascI]; exact n1) (by unfold txS; rw [hl]; exact hasN_nums [])
  unfold nmT txS at e1
  rw [nums_ascI, hl, cutN_nums] at e1
  have e2 := row_apart (ts := ts) (A := D1) (c := c) h2 h3 rfl hc (by unfold txS; rcases hc with rfl | rfl <;> rfl) h4 h5 rfl rfl (by unfold nmT; rw [nums_ascI]; exact m1) (by unfold nmT; rw [nums_ascI]; exact m2)
  unfold nmT at e2
  rw [nums_ascI] at e2
  refine ⟨m + 1, ?_⟩
  rw [e1, show strOfNums [] = ⟨#[]⟩ from rfl, e2]
  exact parseK_of (wholeK_ok n1 n3 (by omega)) (wholeK_ok p1 p3 (by split <;> omega))

def BlP (P : ByteArray) : Prop := ∀ u ∈ ascI P, spaceB u = true ∧ PlC u
theorem end_get {ts : List Tk} {k : Nat} {t : Tk} (h : ts[k]? = some t) (e : List Tk) : (ts ++ e)[k]? = some t := by
  rw [List.getElem?_append_left (List.getElem?_eq_some_iff.1 h).1]; exact h
/-- The first text. -/
theorem cases_x {D1 D2 P : ByteArray} {a b : Int} {c : UInt8} (hD1 : Digs D1 a) (hD2 : Digs D2 b) (hP : BlP P) (hc : c = 43 ∨ c = 45) (ha : 0 ≤ a ∧ a ≤ 65535) (hb : 0 ≤ b ∧ b ≤ 65535) :
    ∃ u, parseK (findP (toksF (ascI (((((D1 ++ (⟨#[78]⟩ : ByteArray)) ++ P) ++ (⟨#[c]⟩ : ByteArray)) ++ P) ++ D2)))) = ((a, if c = 45 then -b else b, u), 0) := by
  obtain ⟨g1, z1⟩ := dgx_digs hD1
  obtain ⟨g2, z2⟩ := dgx_digs hD2
  have hz : ascI (((((D1 ++ (⟨#[78]⟩ : ByteArray)) ++ P) ++ (⟨#[c]⟩ : ByteArray)) ++ P) ++ D2) = ascI D1 ++ ([78] ++ (ascI P ++ ((c.toNat : Int) :: (ascI P ++ ascI D2)))) := by
    simp only [ascI_appX, List.append_assoc]; rfl
  rw [hz]
  have hcn : ((c.toNat : Nat) : Int) = 43 ∨ ((c.toNat : Nat) : Int) = 45 := by rcases hc with rfl | rfl <;> decide
  have hpl : ∀ u ∈ ascI D1 ++ ([78] ++ (ascI P ++ ((c.toNat : Int) :: (ascI P ++ ascI D2)))), PlC u := fun u hu => by
    simp only [List.mem_append, List.mem_cons, List.mem_singleton] at hu
    rcases hu with h | h | h | h | h | h
    · exact dg_plc g1 u h
    · rcases h with rfl | h
      · unfold PlC; omega
      · cases h
    · exact (hP u h).2
    · subst h; unfold PlC; omega
    · exact (hP u h).2
    · exact dg_plc g2 u h
  have l1 : 1 ≤ (ascI D1).length := Nat.pos_of_ne_zero fun h => z1 (List.length_eq_zero_iff.1 h)
  have l2 : 1 ≤ (ascI D2).length := Nat.pos_of_ne_zero fun h => z2 (List.length_eq_zero_iff.1 h)
  by_cases hP0 : ascI P = []
  · rw [hP0] at hpl ⊢
    simp only [List.nil_append] at hpl ⊢
    rcases hc with rfl | rfl
    · have hr : RunX (ascI D1 ++ ([78] ++ ((43 : Int) :: ascI D2))) [⟨12, 0, 0 + (([] : List Int).length + (ascI D1).length + ([78] : List Int).length), [78], [] ++ ascI D1, true⟩, _] 0 :=
        run_dim (S := []) (U := [78]) (X := [43] ++ ascI D2) (by rfl) (.inl rfl) g1 z1 (by intro u hu; simp at hu; subst hu; decide) (.inl rfl) (by show nameB 43 = false; decide) (by show (43 : Int) ≠ 92; decide)
          (fun m hm _ e => by subst e; exact run_num (S := [43]) hm (.inr (.inl rfl)) g2 z2)
      rw [toks_run hpl hr (by simp; omega)]
      rw [show ([43] : List Int) ++ ascI D2 = ascI ((⟨#[43]⟩ : ByteArray) ++ D2) from by rw [ascI_appX]; rfl]
      exact fin_signed (k := 0) (c := 43) (.inl rfl) hD1 hD2 (.inl rfl) ha hb rfl rfl rfl rfl
    · have hr : RunX (ascI D1 ++ ([78] ++ ((45 : Int) :: ascI D2))) [⟨12, 0, 0 + (([] : List Int).length + (ascI D1).length + (78 :: 45 :: ascI D2 : List Int).length), 78 :: 45 :: ascI D2, [] ++ ascI D1, true⟩] 0 :=
        run_dim (S := []) (U := 78 :: 45 :: ascI D2) (X := []) (by simp) (.inl rfl) g1 z1 (unit_names (.inl rfl) g2) (.inl rfl) (by decide) (by decide)
          (fun m hm hl _ => by show m = _; rw [hl]; rfl)
      rw [toks_run hpl hr (by simp; omega)]
      obtain ⟨u, h⟩ := fin_inner (k := 0) (.inl rfl) hD1 hD2 ha hb (ts := [⟨12, 0, 0 + (([] : List Int).length + (ascI D1).length + (78 :: 45 :: ascI D2 : List Int).length), 78 :: 45 :: ascI D2, [] ++ ascI D1, true⟩] ++ [_]) rfl rfl
      exact ⟨u, h⟩
  · have lP : 1 ≤ (ascI P).length := Nat.pos_of_ne_zero fun h => hP0 (List.length_eq_zero_iff.1 h)
    have hsp : ∀ u ∈ ascI P, spaceB u = true := fun u hu => (hP u hu).1
    have hph : ∀ Y, spaceB (hdX (ascI P ++ Y)) = true := fun Y => by
      rw [hdX_app hP0]
      cases hq : ascI P with
      | nil => exact absurd hq hP0
      | cons x xs => exact hsp x (by rw [hq]; exact List.mem_cons_self ..)
    have hr : RunX (ascI D1 ++ ([78] ++ (ascI P ++ ((c.toNat : Int) :: (ascI P ++ ascI D2))))) [⟨12, 0, 0 + (([] : List Int).length + (ascI D1).length + ([78] : List Int).length), [78], [] ++ ascI D1, true⟩, ⟨13, _, _, [], [], false⟩, ⟨9, _, _, [(c.toNat : Int)], [], false⟩, ⟨13, _, _, [], [], false⟩, ⟨10, _, _, [], [] ++ ascI D2, true⟩] 0 :=
      run_dim (S := []) (U := [78]) (X := ascI P ++ ((c.toNat : Int) :: (ascI P ++ ascI D2))) (by rfl) (.inl rfl) g1 z1 (by intro u hu; simp at hu; subst hu; decide) (.inl rfl) (sp_name (hph _)).1 (sp_name (hph _)).2.1
        (fun m hm _ e => by
          subst e
          exact run_sp hm hsp hP0 (by show spaceB _ = false; rcases hcn with h | h <;> (show spaceB ((c.toNat : Nat) : Int) = false; rw [h]; decide)) (fun m2 hm2 e2 => by
            subst e2
            exact run_sign hm2 hcn (hph _) (fun m3 hm3 e3 => by
              subst e3
              exact run_sp hm3 hsp hP0 (dg_space g2 z2) (fun m4 hm4 e4 => by
                subst e4
                exact run_num (S := []) hm4 (.inl rfl) g2 z2))))
    rw [toks_run hpl hr (by simp; omega)]
    exact fin_apart (.inl rfl) hD1 hD2 hc ha hb rfl rfl rfl rfl rfl rfl
/-- The second one. -/
theorem cases_y {D1 D2 P : ByteArray} {a b : Int} {c : UInt8} (hD1 : Digs D1 a) (hD2 : Digs D2 b) (hP : BlP P) (hc : c = 43 ∨ c = 45) (ha : 0 ≤ a ∧ a ≤ 65535) (hb : 0 ≤ b ∧ b ≤ 65535) :
    ∃ u, parseK (findP (toksF (ascI ((((P ++ D1) ++ (⟨#[110]⟩ : ByteArray)) ++ (⟨#[c]⟩ : ByteArray)) ++ D2)))) = ((a, if c = 45 then -b else b, u), 0) := by
  obtain ⟨g1, z1⟩ := dgx_digs hD1
  obtain ⟨g2, z2⟩ := dgx_digs hD2
  have hz : ascI ((((P ++ D1) ++ (⟨#[110]⟩ : ByteArray)) ++ (⟨#[c]⟩ : ByteArray)) ++ D2) = ascI P ++ (ascI D1 ++ ([110] ++ ((c.toNat : Int) :: ascI D2))) := by
    simp only [ascI_appX, List.append_assoc]; rfl
  rw [hz]
  have hcn : ((c.toNat : Nat) : Int) = 43 ∨ ((c.toNat : Nat) : Int) = 45 := by rcases hc with rfl | rfl <;> decide
  have hpl : ∀ u ∈ ascI P ++ (ascI D1 ++ ([110] ++ ((c.toNat : Int) :: ascI D2))), PlC u := fun u hu => by
    simp only [List.mem_append, List.mem_cons, List.mem_singleton] at hu
    rcases hu with h | h | h | h | h
    · exact (hP u h).2
    · exact dg_plc g1 u h
    · rcases h with rfl | h
      · unfold PlC; omega
      · cases h
    · subst h; unfold PlC; omega
    · exact dg_plc g2 u h
  have l1 : 1 ≤ (ascI D1).length := Nat.pos_of_ne_zero fun h => z1 (List.length_eq_zero_iff.1 h)
  have l2 : 1 ≤ (ascI D2).length := Nat.pos_of_ne_zero fun h => z2 (List.length_eq_zero_iff.1 h)
  have hsp : ∀ u ∈ ascI P, spaceB u = true := fun u hu => (hP u hu).1
  have key : ∀ (l : List Int) (j : Nat), l.drop j = ascI D1 ++ ([110] ++ ((c.toNat : Int) :: ascI D2)) → (c = 43 ∧ ∃ f g f2 g2, RunX l [⟨12, f, g, [110], ascI D1, true⟩, ⟨10, f2, g2, [], ascI ((⟨#[c]⟩ : ByteArray) ++ D2), true⟩] j) ∨ (c = 45 ∧ ∃ f g, RunX l [⟨12, f, g, 110 :: 45 :: ascI D2, ascI D1, true⟩] j) := by
    intro l j h
    rcases hc with rfl | rfl
    · left
      have rn : ∀ m, l.drop m = [43] ++ ascI D2 → RunX l [⟨10, m, m + (([43] : List Int).length + (ascI D2).length), [], ascI ((⟨#[43]⟩ : ByteArray) ++ D2), true⟩] m := fun m hm => by
        have := run_num (S := [43]) (D := ascI D2) (l := l) (j := m) hm (.inr (.inl rfl)) g2 z2
        rw [show ([43] : List Int) ++ ascI D2 = ascI ((⟨#[43]⟩ : ByteArray) ++ D2) from by rw [ascI_appX]; rfl] at this
        exact this
      exact ⟨rfl, _, _, _, _, run_dim (S := []) (D := ascI D1) (U := [110]) (X := [43] ++ ascI D2) h (.inl rfl) g1 z1 (by intro u hu; simp at hu; subst hu; decide) (.inr rfl) (by show nameB 43 = false; decide) (by show (43 : Int) ≠ 92; decide) (fun m hm _ e => by subst e; exact rn _ hm)⟩
    · right
      refine ⟨rfl, _, _, run_dim (S := []) (D := ascI D1) (U := 110 :: 45 :: ascI D2) (X := []) (by rw [h]; simp) (.inl rfl) g1 z1 (unit_names (.inr rfl) g2) (.inr rfl) (by decide) (by decide) (fun m hm hl _ => by show m = _; rw [hl]; rfl)⟩
  by_cases hP0 : ascI P = []
  · rw [hP0] at hpl ⊢
    simp only [List.nil_append] at hpl ⊢
    rcases key _ 0 rfl with ⟨rfl, f, g, f2, g2', hr⟩ | ⟨rfl, f, g, hr⟩
    · rw [toks_run hpl hr (by simp; omega)]
      exact fin_signed (k := 0) (c := 43) (.inr rfl) hD1 hD2 (.inl rfl) ha hb rfl rfl rfl rfl
    · rw [toks_run hpl hr (by simp; omega)]
      exact fin_inner (k := 0) (.inr rfl) hD1 hD2 ha hb (ts := [⟨12, f, g, 110 :: 45 :: ascI D2, ascI D1, true⟩] ++ [_]) rfl rfl
  · have hx : spaceB (hdX (ascI D1 ++ ([110] ++ ((c.toNat : Int) :: ascI D2)))) = false := by rw [hdX_app z1]; exact dg_space g1 z1
    rcases key (ascI P ++ (ascI D1 ++ ([110] ++ ((c.toNat : Int) :: ascI D2)))) (0 + (ascI P).length) (drop_moreX rfl) with ⟨rfl, f, g, f2, g2', hr⟩ | ⟨rfl, f, g, hr⟩
    · have hr2 := run_sp (l := ascI P ++ (ascI D1 ++ ([110] ++ (((43 : UInt8).toNat : Int) :: ascI D2)))) (j := 0) rfl hsp hP0 hx (fun m _ e => by subst e; exact hr)
      rw [toks_run hpl hr2 (by simp; omega)]
      exact fin_signed (k := 1) (c := 43) (.inr rfl) hD1 hD2 (.inl rfl) ha hb rfl rfl rfl rfl
    · have hr2 := run_sp (l := ascI P ++ (ascI D1 ++ ([110] ++ (((45 : UInt8).toNat : Int) :: ascI D2)))) (j := 0) rfl hsp hP0 hx (fun m _ e => by subst e; exact hr)
      rw [toks_run hpl hr2 (by simp; omega)]
      exact fin_inner (k := 1) (.inr rfl) hD1 hD2 ha hb (ts := [⟨13, 0, 0 + (ascI P).length, [], [], false⟩, ⟨12, f, g, 110 :: 45 :: ascI D2, ascI D1, true⟩] ++ [_]) rfl rfl
end
end Go.Proofs.YtickcbmfboajiaaGreatDoor
