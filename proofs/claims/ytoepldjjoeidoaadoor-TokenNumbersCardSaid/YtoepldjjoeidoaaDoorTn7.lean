/- Tokens, the program's side: a part of the characters as a text; numbers as tokens: walks. -/
import Derived.Test.YtoepldjjoeidoaaDoorTn6
namespace Go.Proofs.YtoepldjjoeidoaaDoor
open Go.RowKit Go.Shelf
set_option linter.unusedVariables false
set_option linter.unusedSimpArgs false

/-- A token whose place is not told yet. -/
def tkZ (t : Tk) : Tk := { t with frm := 0 }
theorem below_set6 {B p : Nat} {w wr : World} (h : Below B w wr) (hp : B ≤ p) (v0 v1 v2 v3 v4 v5 : Value) :
    Below B w ((((((wr.setCell ⟨p, 0, none⟩ v0).setCell ⟨p, 1, none⟩ v1).setCell ⟨p, 2, none⟩ v2).setCell ⟨p, 3, none⟩ v3).setCell ⟨p, 4, none⟩ v4).setCell ⟨p, 5, none⟩ v5) :=
  (((((h.setCell (p := ⟨p, 0, none⟩) hp _).setCell (p := ⟨p, 1, none⟩) hp _).setCell (p := ⟨p, 2, none⟩) hp _).setCell (p := ⟨p, 3, none⟩) hp _).setCell (p := ⟨p, 4, none⟩) hp _).setCell (p := ⟨p, 5, none⟩) hp _
def zeroTk : List Value := [.int .i64 0, .int .i64 0, .int .i64 0, .string ⟨#[]⟩, .string ⟨#[]⟩, .bool false]

theorem Reads.part {w : World} {a : Option Addr} {n cap : Nat} {l : List Int} (h : Reads w .i64 a cap l) (hn : l.length = n) (i j : Nat) (hij : i < j) (hj : j ≤ n) :
    ∃ b off, a = some ⟨b, off, none⟩ ∧ Reads w .i64 (some ⟨b, off + i, none⟩) (cap - i) (sliceF l i j) ∧ (sliceF l i j).length = j - i := by
  obtain ⟨h1, h2, h3⟩ := h
  have hl : (sliceF l i j).length = j - i := by unfold sliceF; rw [List.length_take, List.length_drop, hn]; omega
  rcases h3 with h3 | ⟨b, off, rfl, hat⟩
  · rw [h3] at hn; simp at hn; omega
  · exact ⟨b, off, rfl, ⟨by rw [hl]; omega, by omega, .inr ⟨_, _, rfl, (hat.drop i).take (j - i)⟩⟩, hl⟩
/-- A place as one of so many. -/
def clampF (x : Int) (n : Nat) : Nat := (max 0 (min x (n : Int))).toNat
theorem clampF_eq (x : Int) (n : Nat) : ((clampF x n : Nat) : Int) = max 0 (min x (n : Int)) := by unfold clampF; omega
theorem clampF_le (x : Int) (n : Nat) : clampF x n ≤ n := by unfold clampF; omega
theorem clampF_nat (k n : Nat) (h : k ≤ n) : clampF (k : Int) n = k := by unfold clampF; omega
set_option maxRecDepth 100000 in
theorem within_int {a : Option Addr} {n cap : Nat} {w : World} (x : Int) : Calls Tryd.prog 17 #[.slice a n cap, .int .i64 x] w (Tells (.int .i64 ((clampF x n : Nat) : Int)) w) := by
  rw [clampF_eq]
  go_enter Tryd.func17, Tryd.ntmps17
  go_wp2
  all_goals
    go_ret
    exact ⟨ret_int (by omega), rfl⟩

set_option maxRecDepth 100000 in
set_option maxHeartbeats 1000000 in
theorem partText_any {a : Option Addr} {n cap : Nat} {l : List Int} {w : World} (x y : Int) (hr : Reads w .i64 a cap l) (hn : l.length = n) (hsm : n ≤ 100000) :
    Calls Tryd.prog 9 #[.slice a n cap, .int .i64 x, .int .i64 y] w (Told (.string (strOfNums (textF (sliceF l (clampF x n) (clampF y n))))) w) := by
  have c1 := within_int (a := a) (n := n) (cap := cap) (w := w) x
  have c2 := within_int (a := a) (n := n) (cap := cap) (w := w) y
  have hp := clampF_le x n
  have hq := clampF_le y n
  generalize clampF x n = p at *
  generalize clampF y n = q at *
  have hcap : n ≤ cap ∧ cap ≤ 9223372036854775807 := ⟨by have := hr.1; omega, hr.2.1⟩
  obtain ⟨hcap1, hcap2⟩ := hcap
  by_cases hlt : p < q
  · obtain ⟨b, off, rfl, hrd, hlen⟩ := hr.part hn p q hlt hq
    have cT := text_any (some ⟨b, off + p, none⟩) (cap - p) (q - p) (sliceF l p q) w hlen hrd (by omega)
    have hg : ¬ (p : Int) ≥ (q : Int) := by omega
    generalize sliceF l p q = zs at *
    clear hr
    go_enter Tryd.func9, Tryd.ntmps9
    go_wp2_with (go_at_call 17; first | ((with_reducible refine c1.mono ?_); rintro e w' ⟨rfl, rfl⟩) | ((with_reducible refine c2.mono ?_); rintro e w' ⟨rfl, rfl⟩))
    refine cT.mono ?_
    rintro e w1 ⟨a1, c1, rfl, hr1, hb1, _, _⟩
    have cv := conv3_any w1 24 5 9 Tryd.underlying24 Tryd.underlying5 Tryd.underlying9 a1 (textF zs).length c1 (textF zs) rfl hr1
    clear hr1
    go_wp2
    go_ret
    exact ⟨rfl, hb1⟩
  · have hg : (p : Int) ≥ (q : Int) := by omega
    have e : sliceF l p q = [] := by unfold sliceF; rw [show q - p = 0 by omega]; rfl
    rw [e]
    clear hr e
    go_enter Tryd.func9, Tryd.ntmps9
    go_wp2_with (go_at_call 17; first | ((with_reducible refine c1.mono ?_); rintro e w' ⟨rfl, rfl⟩) | ((with_reducible refine c2.mono ?_); rintro e w' ⟨rfl, rfl⟩))
    go_ret
    exact ⟨rfl, Below.refl _ _⟩
theorem text_pre {zs : List Int} (h : Pre zs) : textF zs = bytesF zs := by
  unfold bytesF textF
  rw [List.flatMap_map]
  induction zs with
  | nil => rfl
  | cons c zs ih =>
    rw [List.flatMap_cons, List.flatMap_cons, ih (fun y hy => h y (List.mem_cons_of_mem _ hy))]
    have hc := h c (List.mem_cons_self ..)
    rcases clean_char c with ⟨h0, _, _⟩ | ⟨_, h2⟩
    · omega
    · rw [h2]
theorem pre_slice {l : List Int} (h : Pre l) (i j : Nat) : Pre (sliceF l i j) := fun c hc => h c (List.mem_of_mem_drop (List.mem_of_mem_take hc))

/-- The rest of a url that isn't right. -/
theorem restGo_frm (l : List Int) (frm : Nat) : ∀ (f i : Nat), tkZ (restGo f l frm i) = restGo f l 0 i
  | 0, i => rfl
  | f + 1, i => by
    rw [restGo, restGo]
    split
    · rfl
    · split
      · rfl
      · split
        · exact restGo_frm l frm f _
        · exact restGo_frm l frm f _
theorem restGo_fuel (l : List Int) : ∀ (f g i : Nat), l.length < i + f → l.length < i + g → restGo f l 0 i = restGo g l 0 i
  | f, g, i, hf, hg => by
    by_cases h1 : l.length ≤ i
    · have : ∀ f, restGo f l 0 i = ⟨8, 0, l.length, [], [], false⟩ := fun f => by cases f with | zero => rfl | succ f => rw [restGo, if_pos h1]
      rw [this, this]
    · obtain ⟨f, rfl⟩ : ∃ f', f = f' + 1 := ⟨f - 1, by omega⟩
      obtain ⟨g, rfl⟩ : ∃ g', g = g' + 1 := ⟨g - 1, by omega⟩
      rw [restGo, restGo, if_neg h1, if_neg h1]
      by_cases h2 : isB l i 41 = true
      · rw [if_pos h2, if_pos h2]
      · rw [if_neg h2, if_neg h2]
        by_cases h3 : escB l i = true
        · rw [if_pos h3, if_pos h3]
          have := (valueF_bd (lt_of_escB h3)).1
          exact restGo_fuel l f g _ (by omega) (by omega)
        · rw [if_neg h3, if_neg h3]
          exact restGo_fuel l f g _ (by omega) (by omega)
theorem restF_end {l : List Int} {i : Nat} (h : l.length ≤ i) : restF l 0 i = ⟨8, 0, l.length, [], [], false⟩ := by unfold restF; rw [restGo, if_pos h]
theorem restF_close {l : List Int} {i : Nat} (h : i < l.length) (h2 : isB l i 41 = true) : restF l 0 i = ⟨8, 0, i + 1, [], [], false⟩ := by unfold restF; rw [restGo, if_neg (by omega), if_pos h2]
theorem restF_esc {l : List Int} {i : Nat} (h2 : isB l i 41 = false) (h3 : escB l i = true) : restF l 0 i = restF l 0 (valueF l i).2 := by
  have h := lt_of_escB h3
  unfold restF
  rw [restGo, if_neg (by omega), if_neg (by rw [h2]; decide), if_pos h3]
  have := (valueF_bd h).1
  exact restGo_fuel l _ _ _ (by omega) (by omega)
theorem restF_other {l : List Int} {i : Nat} (h : i < l.length) (h2 : isB l i 41 = false) (h3 : escB l i = false) : restF l 0 i = restF l 0 (i + 1) := by
  unfold restF
  rw [restGo, if_neg (by omega), if_neg (by rw [h2]; decide), if_neg (by rw [h3]; decide)]
  exact restGo_fuel l _ _ _ (by omega) (by omega)

set_option maxRecDepth 100000 in
set_option maxHeartbeats 4000000 in
theorem badURL_any {a : Option Addr} {n cap : Nat} {l : List Int} {w : World} (i : Int) (k : Nat) (h : Src w a n cap l) (hi : i = (k : Int)) (hk : k ≤ n) :
    Calls Tryd.prog 71 #[.slice a n cap, .int .i64 i] w (Told (tkV (restF l 0 k)) w) := by
  subst hi
  have hsm := h.small
  have HL := Lib.hid h.len
  generalize hR : restF l 0 k = R
  have HR := Lib.hid hR
  have HP := Lib.hid h
  clear h hR
  have HB0 := Lib.hid (Blk.alloc (w := w) zeroTk 33)
  go_enter Tryd.func71, Tryd.ntmps71
  go_wp2_with fail
  go_loopw [1] (fun v wr => ∃ j : Nat, v = .int .i64 j ∧ j ≤ n ∧ Hid (restF l 0 j = R) ∧ Hid (Blk wr w.heap.size zeroTk 33) ∧ Below w.heap.size w wr) (fun v _ => n - (intOf v).toNat)
  case atStart => exact ⟨k, rfl, hk, HR, HB0, (Below.refl _ _).alloc (Nat.le_refl _) _⟩
  case round =>
    obtain ⟨j, rfl, hj, hG, hB, hbl⟩ := hrel
    have hS := Lib.hid (HP.out.later hbl)
    have HBL := Lib.hid hbl
    clear hbl
    have c3 := fun w => within_any (a := a) (n := n) (cap := cap) (w := w) ((j : Int) + 1) (j + 1) (by omega) (by omega) (by omega)
    by_cases hlt : j < n
    · have hlt' : (j : Int) < (n : Int) := by omega
      have f1 := isEscape_any (j : Int) j hS.out rfl (by omega)
      obtain ⟨b, off, rfl, hc⟩ := hS.out.cell j hlt
      have hq : (chA l j != 41) = !isB l j 41 := by unfold isB; rfl
      rcases h41 : isB l j 41 with _ | _
      · rw [h41] at hq
        rcases hes : escB l j with _ | _
        · have e := Lib.hid ((restF_other (by rw [HL.out]; exact hlt) h41 hes).symm.trans hG.out)
          rw [hes] at f1
          clear hes h41 hG c3
          generalize chA l j = z at *
          go_wp2_with (go_at_call 55; (with_reducible refine f1.mono ?_); rintro e w' ⟨rfl, rfl⟩)
          go_roundw
          case rel => exact ⟨j + 1, by go_num, by omega, e, hB, HBL.out⟩
          case measure => simp [intOf]; omega
        · have e := Lib.hid ((restF_esc h41 hes).symm.trans hG.out)
          have hbd := valueF_bd (l := l) (j := j) (by rw [HL.out]; exact hlt)
          rw [HL.out] at hbd
          have f2 := readEscape_any (j : Int) j hS.out rfl hlt
          rw [(valC_value (l := l) (j := j) HP.out.pre).1] at f2
          rw [hes] at f1
          clear hes h41 hG c3
          generalize (valueF l j).2 = j2 at *
          generalize (valC l j).1 = c at *
          generalize chA l j = z at *
          go_wp2_with (first
            | (go_at_call 55; (with_reducible refine f1.mono ?_); rintro e w' ⟨rfl, rfl⟩)
            | (go_at_call 56; (with_reducible refine f2.mono ?_); rintro e w' ⟨rfl, rfl⟩))
          go_roundw
          case rel => exact ⟨j2, by go_num, by omega, e, hB, HBL.out⟩
          case measure => simp [intOf]; omega
      · have e := Lib.hid ((restF_close (by rw [HL.out]; exact hlt) h41).symm.trans hG.out)
        rw [h41] at hq
        rw [Nat.min_eq_left (by omega : j + 1 ≤ n)] at c3
        have r0 := hB.out.cell 0 _ rfl
        have r1 := hB.out.cell 1 _ rfl
        have r2 := hB.out.cell 2 _ rfl
        have r3 := hB.out.cell 3 _ rfl
        have r4 := hB.out.cell 4 _ rfl
        have r5 := hB.out.cell 5 _ rfl
        have q0 := hB.out.frozen 0
        have q1 := hB.out.frozen 1
        have q2 := hB.out.frozen 2
        have q3 := hB.out.frozen 3
        have q4 := hB.out.frozen 4
        have q5 := hB.out.frozen 5
        clear h41 hG f1
        generalize chA l j = z at *
        go_wp2_with (go_at_call 17; (with_reducible refine (c3 _).mono ?_); rintro e w' ⟨rfl, rfl⟩)
        refine bodyPost_ret (v := .agg #[.int .i64 8, .int .i64 0, .int .i64 (j + 1 : Nat), .string ⟨#[]⟩, .string ⟨#[]⟩, .bool false]) (by simp [results, Tryd.results71, go_sem, r0, r1, r2, r3, r4, r5]) rfl ⟨by rw [← e.out]; rfl, ?_⟩
        exact below_set6 HBL.out (Nat.le_refl _) _ _ _ _ _ _
    · obtain rfl : j = n := by omega
      have hlt' : ¬ (j : Int) < (j : Int) := by omega
      have e := Lib.hid ((restF_end (by rw [HL.out]; exact Nat.le_refl _)).symm.trans hG.out)
      rw [Nat.min_eq_right (by omega : j ≤ j + 1)] at c3
      have r0 := hB.out.cell 0 _ rfl
      have r1 := hB.out.cell 1 _ rfl
      have r2 := hB.out.cell 2 _ rfl
      have r3 := hB.out.cell 3 _ rfl
      have r4 := hB.out.cell 4 _ rfl
      have r5 := hB.out.cell 5 _ rfl
      have q0 := hB.out.frozen 0
      have q1 := hB.out.frozen 1
      have q2 := hB.out.frozen 2
      have q3 := hB.out.frozen 3
      have q4 := hB.out.frozen 4
      have q5 := hB.out.frozen 5
      clear hG hlt
      go_wp2_with (go_at_call 17; (with_reducible refine (c3 _).mono ?_); rintro e w' ⟨rfl, rfl⟩)
      refine bodyPost_ret (v := .agg #[.int .i64 8, .int .i64 0, .int .i64 (j : Nat), .string ⟨#[]⟩, .string ⟨#[]⟩, .bool false]) (by simp [results, Tryd.results71, go_sem, r0, r1, r2, r3, r4, r5]) rfl ⟨by rw [← e.out, HL.out]; rfl, ?_⟩
      exact below_set6 HBL.out (Nat.le_refl _) _ _ _ _ _ _
end Go.Proofs.YtoepldjjoeidoaaDoor
