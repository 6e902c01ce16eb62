/- Several texts of mine in one. -/
import Derived.Test.YtoepldjjoeidoaaDoorTm1
import Derived.Test.YtoepldjjoeidoaaDoorTc
namespace Go.Proofs.YtoepldjjoeidoaaDoor
section
open Go.RowKit
set_option linter.unusedVariables false
set_option linter.unusedSimpArgs false

def hd (X : List Int) : Int := X.headD 0
theorem chA_hd {l X : List Int} {j : Nat} (h : l.drop j = X) : chA l j = hd X := by
  cases X with
  | nil =>
    have : l.length - j = 0 := by rw [← List.length_drop, h]; rfl
    exact chA_end l j (by omega)
  | cons c X => exact (chA_drop (k := 0) h (by simp)).1
theorem drop_more {l A X : List Int} {j : Nat} (h : l.drop j = A ++ X) : l.drop (j + A.length) = X := by rw [← List.drop_drop, h, List.drop_left]
def Dgs (D : List Int) : Prop := ∀ c ∈ D, 48 ≤ c ∧ c ≤ 57
def nd (c : Int) : Prop := digitB c = false
theorem digits_run {l : List Int} : ∀ (D : List Int) (j : Nat) (X : List Int), l.drop j = D ++ X → Dgs D → nd (hd X) → digitsF l j = j + D.length
  | [], j, X, h, _, hx => digitsF_stop (by unfold dgB; rw [chA_hd h]; exact hx)
  | c :: D, j, X, h, hd', hx => by
    have hc := hd' c (List.mem_cons_self ..)
    have h' : l.drop j = c :: (D ++ X) := h
    have hdg : dgB l j = true := by unfold dgB; rw [chA_hd h']; show digitB c = true; unfold digitB; exact decide_eq_true hc
    rw [digitsF_step hdg, digits_run D (j + 1) X (by rw [← List.drop_drop, h']; rfl) (fun x hx => hd' x (List.mem_cons_of_mem _ hx)) hx]
    simp; omega
theorem hd_app {D X : List Int} (h : D ≠ []) : hd (D ++ X) = hd D := by cases D with | nil => exact absurd rfl h | cons c D => rfl
theorem dgs_hd {D : List Int} (h : Dgs D) (h0 : D ≠ []) : 48 ≤ hd D ∧ hd D ≤ 57 := by cases D with | nil => exact absurd rfl h0 | cons c D => exact h c (List.mem_cons_self ..)

/-- A sign, or none. -/
def SgP (S : List Int) : Prop := S = [] ∨ S = [43] ∨ S = [45]
theorem signAt_run {l S X : List Int} {j : Nat} (h : l.drop j = S ++ X) (hS : SgP S) (hx : 48 ≤ hd X ∧ hd X ≤ 57) : signAt l j = j + S.length := by
  have hc := chA_hd h
  unfold signAt isB
  rcases hS with rfl | rfl | rfl
  · rw [hc, show hd ([] ++ X) = hd X from rfl, decide_eq_false (by omega), decide_eq_false (by omega)]; rfl
  · rw [hc]; rfl
  · rw [hc]; rfl
/-- A point and digits, or nothing. -/
def FrP (F : List Int) : Prop := F = [] ∨ ∃ D, F = 46 :: D ∧ Dgs D ∧ D ≠ []
/-- An exponent, or nothing. -/
def ExP (E : List Int) : Prop := E = [] ∨ ∃ e s D, E = e :: (s ++ D) ∧ (e = 101 ∨ e = 69) ∧ SgP s ∧ Dgs D ∧ D ≠ []
/-- What stands behind: nothing, a percent, or a unit. -/
def TlP (T : List Int) : Prop := T = [] ∨ T = [37] ∨ T = [112, 120] ∨ T = [45, 120]
theorem tl_hd {T : List Int} (h : TlP T) : hd T = 0 ∨ hd T = 37 ∨ hd T = 112 ∨ hd T = 45 := by
  rcases h with rfl | rfl | rfl | rfl
  · exact .inl rfl
  · exact .inr (.inl rfl)
  · exact .inr (.inr (.inl rfl))
  · exact .inr (.inr (.inr rfl))
theorem ex_hd {E T : List Int} (hE : ExP E) (hT : TlP T) : hd (E ++ T) = 101 ∨ hd (E ++ T) = 69 ∨ hd (E ++ T) = 0 ∨ hd (E ++ T) = 37 ∨ hd (E ++ T) = 112 ∨ hd (E ++ T) = 45 := by
  rcases hE with rfl | ⟨e, s, D, rfl, he, _⟩
  · have := tl_hd hT
    exact .inr (.inr this)
  · rcases he with rfl | rfl
    · exact .inl rfl
    · exact .inr (.inl rfl)
theorem expoF_run {l E T : List Int} {j : Nat} (h : l.drop j = E ++ T) (hE : ExP E) (hT : TlP T) : expoF l j = j + E.length ∧ (expoB l j = !decide (E = [])) := by
  have hc := chA_hd h
  have ht := tl_hd hT
  rcases hE with rfl | ⟨e, s, D, rfl, he, hs, hD, hD0⟩
  · have hc : chA l j = hd T := hc
    have hb : expoB l j = false := by
      unfold expoB isB
      rw [hc, decide_eq_false (show ¬ hd T = 101 by omega), decide_eq_false (show ¬ hd T = 69 by omega)]; rfl
    exact ⟨by unfold expoF; rw [hb]; rfl, by rw [hb]; rfl⟩
  · have h1 : l.drop (j + 1) = s ++ (D ++ T) := by rw [← List.drop_drop, h]; simp
    have hdd := dgs_hd hD hD0
    have h2 := signAt_run h1 hs (by rw [hd_app hD0]; exact hdd)
    have h3 := drop_more h1
    have hdg : dgB l (j + 1 + s.length) = true := by unfold dgB; rw [chA_hd h3, hd_app hD0]; unfold digitB; exact decide_eq_true hdd
    have hb : expoB l j = true := by
      unfold expoB
      rw [h2, hdg]
      unfold isB
      rw [hc]
      rcases he with rfl | rfl <;> rfl
    refine ⟨?_, by rw [hb]; simp⟩
    unfold expoF
    rw [if_pos hb, h2, digits_run D _ T h3 hD (by unfold nd digitB; exact decide_eq_false (by omega))]
    simp; omega
theorem fracF_run {l F X : List Int} {j : Nat} (h : l.drop j = F ++ X) (hF : FrP F) (hx : nd (hd X) ∧ hd X ≠ 46) : fracF l j = j + F.length ∧ (fracAt l j = !decide (F = [])) := by
  have hc := chA_hd h
  rcases hF with rfl | ⟨D, rfl, hD, hD0⟩
  · have hc : chA l j = hd X := hc
    have hb : fracAt l j = false := by unfold fracAt isB; rw [hc, decide_eq_false hx.2]; rfl
    exact ⟨by unfold fracF; rw [hb]; rfl, by rw [hb]; rfl⟩
  · have h1 : l.drop (j + 1) = D ++ X := by rw [← List.drop_drop, h]; rfl
    have hdd := dgs_hd hD hD0
    have hdg : dgB l (j + 1) = true := by unfold dgB; rw [chA_hd h1, hd_app hD0]; unfold digitB; exact decide_eq_true hdd
    have hb : fracAt l j = true := by unfold fracAt isB; rw [hc, hdg]; rfl
    refine ⟨?_, by rw [hb]; simp⟩
    unfold fracF
    rw [if_pos hb, digits_run D _ X h1 hD hx.1]
    simp; omega

theorem names_two {l : List Int} {m : Nat} {c1 c2 : Int} (h : l.drop m = [c1, c2]) (h1 : nameB c1 = true) (h2 : nameB c2 = true) : namesF l m = ([c1, c2], m + 2) := by
  have d1 : l.drop (m + 1) = [c2] := by rw [← List.drop_drop, h]; rfl
  have d2 : l.drop (m + 2) = [] := by rw [← List.drop_drop, h]; rfl
  have e1 := chA_hd h
  have e2 := chA_hd d1
  have e3 := chA_hd d2
  have hl : l.length - m = 2 := by rw [← List.length_drop, h]; rfl
  have n1 : nmB l m = true := by unfold nmB; rw [e1]; exact h1
  have n2 : nmB l (m + 1) = true := by unfold nmB; rw [e2]; exact h2
  have n3 : nmB l (m + 2) = false := by unfold nmB; rw [e3]; decide
  have x3 : escB l (m + 2) = false := by unfold escB isB; rw [e3]; rfl
  unfold namesF
  obtain ⟨g, hg⟩ : ∃ g, l.length + 1 = g + 3 := ⟨l.length - 2, by omega⟩
  rw [hg, namesGo, if_pos n1, namesGo, if_pos n2, namesGo, if_neg (by rw [n3]; decide), if_neg (by rw [x3]; decide), e1, e2]; rfl

/-- The token of such a text. -/
def numTk (N T : List Int) (wh : Bool) : Tk :=
  ⟨if T = [] then 10 else if T = [37] then 11 else 12, 0, N.length + T.length, if T = [] ∨ T = [37] then [] else T, N, wh⟩
theorem num_toks {S D F E T : List Int} (hS : SgP S) (hD : Dgs D) (hD0 : D ≠ []) (hF : FrP F) (hE : ExP E) (hT : TlP T) (hA : Asc1 (S ++ (D ++ (F ++ (E ++ T))))) :
    toksF (S ++ (D ++ (F ++ (E ++ T)))) = [numTk (S ++ (D ++ (F ++ E))) T (decide (F = []) && decide (E = [])), ⟨0, (S ++ (D ++ (F ++ (E ++ T)))).length, (S ++ (D ++ (F ++ (E ++ T)))).length, [], [], false⟩] := by
  rw [asc_toks hA]
  obtain ⟨l, hl⟩ : ∃ l, S ++ (D ++ (F ++ (E ++ T))) = l := ⟨_, rfl⟩
  have hdd := dgs_hd hD hD0
  have h0 : l.drop 0 = S ++ (D ++ (F ++ (E ++ T))) := by rw [hl]; rfl
  have g1 := signAt_run h0 hS (by rw [hd_app hD0]; exact hdd)
  have h1 := drop_more h0
  rw [Nat.zero_add] at g1 h1
  have hxe := ex_hd hE hT
  have hxf : nd (hd (F ++ (E ++ T))) := by
    unfold nd digitB
    rcases hF with rfl | ⟨D2, rfl, _⟩
    · exact decide_eq_false (by show ¬ (48 ≤ hd (E ++ T) ∧ hd (E ++ T) ≤ 57); omega)
    · exact decide_eq_false (by show ¬ ((48 : Int) ≤ 46 ∧ (46 : Int) ≤ 57); omega)
  have g2 := digits_run D S.length _ h1 hD hxf
  have h2 := drop_more h1
  obtain ⟨g3, b3⟩ := fracF_run h2 hF ⟨by unfold nd digitB; exact decide_eq_false (by omega), by omega⟩
  have h3 := drop_more h2
  obtain ⟨g4, b4⟩ := expoF_run h3 hE hT
  have h4 := drop_more h3
  have hN : numberF l 0 = (S.length + D.length + F.length + E.length, decide (F = []) && decide (E = [])) := by
    unfold numberF
    rw [g1, g2, g3, g4, b3, b4, Bool.not_not, Bool.not_not]
  have hlen : l.length = S.length + D.length + F.length + E.length + T.length := by rw [← hl]; simp; omega
  have hnum : numAt l 0 = true := by
    unfold numAt
    rw [g1]
    have : dgB l S.length = true := by unfold dgB; rw [chA_hd h1, hd_app hD0]; unfold digitB; exact decide_eq_true hdd
    rw [this]; rfl
  have hsl : bytesF (sliceF l 0 (S.length + D.length + F.length + E.length)) = S ++ (D ++ (F ++ E)) := by
    have e : sliceF l 0 (S.length + D.length + F.length + E.length) = S ++ (D ++ (F ++ E)) := by
      unfold sliceF
      rw [← hl]
      have : S ++ (D ++ (F ++ (E ++ T))) = (S ++ (D ++ (F ++ E))) ++ T := by simp
      rw [this, List.drop_zero, Nat.sub_zero]
      exact List.take_left' (by simp; omega)
    rw [e]
    have ha : Asc1 (S ++ (D ++ (F ++ E))) := fun c hc => hA c (by
      have : S ++ (D ++ (F ++ (E ++ T))) = (S ++ (D ++ (F ++ E))) ++ T := by simp
      rw [this]; exact List.mem_append_left _ hc)
    rw [← text_pre (fun c hc => by have := ha c hc; omega), asc_text ha]
  have hm : S.length + D.length + F.length + E.length = (S ++ (D ++ (F ++ E))).length := by simp; omega
  have hq : numericF l 0 = numTk (S ++ (D ++ (F ++ E))) T (decide (F = []) && decide (E = [])) := by
    have hc4 := chA_hd h4
    unfold numericF numTk
    rw [hN]
    simp only []
    rw [hsl, ← hm]
    generalize S.length + D.length + F.length + E.length = m at *
    rcases hT with rfl | rfl | rfl | rfl
    · have b1 : isB l m 45 = false := by unfold isB; rw [hc4]; decide
      have b2 : stB l m = false := by unfold stB; rw [hc4]; decide
      have b3 : isB l m 92 = false := by unfold isB; rw [hc4]; decide
      have e1 : nameAt l m = false := by unfold nameAt escB; rw [b1, b2, b3]; rfl
      have e2 : isB l m 37 = false := by unfold isB; rw [hc4]; decide
      rw [e1, e2]; simp
    · have b1 : isB l m 45 = false := by unfold isB; rw [hc4]; decide
      have b2 : stB l m = false := by unfold stB; rw [hc4]; decide
      have b3 : isB l m 92 = false := by unfold isB; rw [hc4]; decide
      have e1 : nameAt l m = false := by unfold nameAt escB; rw [b1, b2, b3]; rfl
      have e2 : isB l m 37 = true := by unfold isB; rw [hc4]; decide
      rw [e1, e2]; simp
    · have b1 : isB l m 45 = false := by unfold isB; rw [hc4]; decide
      have b2 : stB l m = true := by unfold stB; rw [hc4]; decide
      have e1 : nameAt l m = true := by unfold nameAt; rw [b1, b2]; rfl
      rw [e1, names_two h4 (by decide) (by decide)]
      simp
      decide
    · have d1 : l.drop (m + 1) = [120] := by rw [← List.drop_drop, h4]; rfl
      have hc5 := chA_hd d1
      have b1 : isB l m 45 = true := by unfold isB; rw [hc4]; decide
      have b2 : stB l (m + 1) = true := by unfold stB; rw [hc5]; decide
      have e1 : nameAt l m = true := by unfold nameAt; rw [b1, b2, if_pos rfl]; cases isB l (m + 1) 45 <;> rfl
      rw [e1, names_two h4 (by decide) (by decide)]
      simp
      decide
  have hfirst : chA l 0 = 43 ∨ chA l 0 = 45 ∨ (48 ≤ chA l 0 ∧ chA l 0 ≤ 57) := by
    have hc := chA_hd h0
    rcases hS with rfl | rfl | rfl
    · have hc : chA l 0 = hd (D ++ (F ++ (E ++ T))) := hc
      rw [hd_app hD0] at hc
      omega
    · exact .inl hc
    · exact .inr (.inl hc)
  have hl1 : 1 ≤ l.length := by
    have : D.length ≠ 0 := fun h => hD0 (List.length_eq_zero_iff.1 h)
    omega
  have hn0 : nextF l 0 = numTk (S ++ (D ++ (F ++ E))) T (decide (F = []) && decide (E = [])) := by
    unfold nextF
    rw [behind_stop (by omega)]
    unfold tokAt
    rw [if_neg (by omega), if_neg (show ¬ (spB l 0 = true) from by unfold spB spaceB; rw [decide_eq_false (by omega)]; decide), if_neg (show ¬ ((isB l 0 34 || isB l 0 39) = true) from by unfold isB; rw [decide_eq_false (by omega), decide_eq_false (by omega)]; decide), if_pos hnum]
    exact hq
  have hto : (numTk (S ++ (D ++ (F ++ E))) T (decide (F = []) && decide (E = []))).to = l.length := by
    show (S ++ (D ++ (F ++ E))).length + T.length = _
    rw [← hm]; omega
  have hkd : (numTk (S ++ (D ++ (F ++ E))) T (decide (F = []) && decide (E = []))).kind ≠ 0 := by
    show (if T = [] then (10 : Int) else if T = [37] then 11 else 12) ≠ 0
    split
    · decide
    · split <;> decide
  have hend : nextF l l.length = ⟨0, l.length, l.length, [], [], false⟩ := by
    unfold nextF
    rw [behind_stop (by rw [chA_end l _ (Nat.le_refl _)]; decide)]
    exact tokAt_end (Nat.le_refl _)
  rw [hl]
  unfold allF
  obtain ⟨g, hg⟩ : ∃ g, l.length = g + 1 := ⟨l.length - 1, by omega⟩
  have hgo : allGo (l.length + 1) l 0 [] = allGo l.length l l.length ([] ++ [numTk (S ++ (D ++ (F ++ E))) T (decide (F = []) && decide (E = []))]) := by
    rw [allGo, hn0, if_neg hkd, hto]
  rw [hgo]
  conv => lhs; rw [show allGo l.length l l.length _ = allGo (g + 1) l l.length _ from by rw [← hg], allGo, hend, if_pos rfl]
  rfl
end

section
open Go.RowKit
set_option linter.unusedVariables false
set_option linter.unusedSimpArgs false

/-- A text of one to five digits. -/
def DigT (D : ByteArray) : Prop := Dgs (ascI D) ∧ 1 ≤ D.size ∧ D.size ≤ 5
theorem dig_cut (d : Nat) (h : d < 10) : Dgs (ascI ((⟨#[48, 49, 50, 51, 52, 53, 54, 55, 56, 57, 97, 98, 99, 100, 101, 102]⟩ : ByteArray).extract d (d + 1))) ∧ ((⟨#[48, 49, 50, 51, 52, 53, 54, 55, 56, 57, 97, 98, 99, 100, 101, 102]⟩ : ByteArray).extract d (d + 1)).size = 1 := by
  have key : ∀ n : Fin 10, (∀ c ∈ ascI ((⟨#[48, 49, 50, 51, 52, 53, 54, 55, 56, 57, 97, 98, 99, 100, 101, 102]⟩ : ByteArray).extract n.val (n.val + 1)), 48 ≤ c ∧ c ≤ 57) ∧ ((⟨#[48, 49, 50, 51, 52, 53, 54, 55, 56, 57, 97, 98, 99, 100, 101, 102]⟩ : ByteArray).extract n.val (n.val + 1)).size = 1 := by decide +kernel
  exact key ⟨d, h⟩
theorem div_pow {k j : Nat} (h : k < 10 ^ (5 - j)) (hk : 10 ≤ k) : j ≤ 3 ∧ k / 10 < 10 ^ (5 - (j + 1)) := by
  have : j = 0 ∨ j = 1 ∨ j = 2 ∨ j = 3 ∨ j = 4 ∨ 5 ≤ j := by omega
  rcases this with rfl | rfl | rfl | rfl | rfl | h5
  · exact ⟨by omega, by have : k < 100000 := h; show k / 10 < 10000; omega⟩
  · exact ⟨by omega, by have : k < 10000 := h; show k / 10 < 1000; omega⟩
  · exact ⟨by omega, by have : k < 1000 := h; show k / 10 < 100; omega⟩
  · exact ⟨by omega, by have : k < 100 := h; show k / 10 < 10; omega⟩
  · have : k < 10 := h; omega
  · rw [show 5 - j = 0 by omega] at h; have : k < 1 := h; omega

set_option maxRecDepth 100000 in
set_option maxHeartbeats 2000000 in
theorem rdig10_any (u : Nat) (w : World) (h : u < 65536) : Calls Tryd.prog 14 #[.int .i64 u, .int .i64 10] w fun e w' => ∃ D, e = .returned (.string D) ∧ DigT D ∧ ∃ q, w' = w.drewN q := by
  go_enter Tryd.func14, Tryd.ntmps14
  go_wp2
  go_loopw [0, 6] (fun nv ov wr => ∃ (k : Nat) (t : ByteArray) (j : Nat), k < 65536 ∧ nv = .int .i64 k ∧ ov = .string t ∧ Hid (Dgs (ascI t)) ∧ t.size = j ∧ j ≤ 4 ∧ Hid (k < 10 ^ (5 - j)) ∧ ∃ q, wr = w.drewN q) (fun nv _ _ => (intOf nv).toNat)
  case atStart => exact ⟨u, ⟨#[]⟩, 0, h, rfl, rfl, Lib.hid (fun c hc => by cases hc), rfl, by omega, Lib.hid (show u < 100000 by omega), 0, rfl⟩
  case round =>
    obtain ⟨k, t, j, hk, rfl, rfl, ht, hts, hj, hp, q, rfl⟩ := hrel
    obtain ⟨hc1, hc2⟩ := dig_cut (k % 10) (by omega)
    have hcs : ((⟨#[48, 49, 50, 51, 52, 53, 54, 55, 56, 57, 97, 98, 99, 100, 101, 102]⟩ : ByteArray).extract (k % 10) (k % 10 + 1)).size ≤ 1 := by omega
    have hsz : ¬ 9223372036854775807 < ((⟨#[48, 49, 50, 51, 52, 53, 54, 55, 56, 57, 97, 98, 99, 100, 101, 102]⟩ : ByteArray).extract (k % 10) (k % 10 + 1)).size + t.size := by omega
    have HC := Lib.hid (And.intro hc1 hc2)
    clear hc1 hc2
    go_wp2
    go_region
    have HT := Lib.hid (show Dgs (ascI ((⟨#[48, 49, 50, 51, 52, 53, 54, 55, 56, 57, 97, 98, 99, 100, 101, 102]⟩ : ByteArray).extract (k % 10) (k % 10 + 1) ++ t)) from by
      rw [ascI_app]
      intro c hc
      rcases List.mem_append.1 hc with hc | hc
      · exact HC.out.1 c hc
      · exact ht.out c hc)
    have HSZ := Lib.hid (show ((⟨#[48, 49, 50, 51, 52, 53, 54, 55, 56, 57, 97, 98, 99, 100, 101, 102]⟩ : ByteArray).extract (k % 10) (k % 10 + 1) ++ t).size = j + 1 from by rw [ByteArray.size_append, HC.out.2]; omega)
    clear hcs hsz HC
    generalize (⟨#[48, 49, 50, 51, 52, 53, 54, 55, 56, 57, 97, 98, 99, 100, 101, 102]⟩ : ByteArray).extract (k % 10) (k % 10 + 1) ++ t = T at *
    by_cases h10 : k < 10
    · have q0 : ((k : Int) / 10 == 0) = true := beq_iff_eq.2 (by omega)
      clear ht hts
      go_wp2
      go_ret
      exact ⟨T, rfl, ⟨HT.out, by have := HSZ.out; omega, by have := HSZ.out; omega⟩, q + 1, rfl⟩
    · have q0 : ((k : Int) / 10 == 0) = false := beq_eq_false_iff_ne.2 (by omega)
      have hdp := div_pow hp.out (by omega)
      have HD := Lib.hid hdp
      clear ht hts hdp
      go_wp2
      go_roundw
      case rel => exact ⟨k / 10, T, j + 1, by omega, by go_num, rfl, HT, HSZ.out, by have := HD.out.1; omega, Lib.hid HD.out.2, q + 1, rfl⟩
      case measure => simp [intOf]; omega
end
end Go.Proofs.YtoepldjjoeidoaaDoor
