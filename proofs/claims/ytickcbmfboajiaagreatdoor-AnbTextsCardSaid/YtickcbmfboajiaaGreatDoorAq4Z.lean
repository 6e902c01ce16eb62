/- An An+B's head, by the document: a walk. -/
import Derived.Test.YtickcbmfboajiaaGreatDoorFR
namespace Go.Proofs.YtickcbmfboajiaaGreatDoor
open Go.RowKit Go.Shelf
set_option linter.unusedVariables false
set_option linter.unusedSimpArgs false

theorem hasN_first (s : ByteArray) : hasN s = firstB s 110 := by
  unfold hasN Lib.hasPrefix firstB
  show [110].isPrefixOf (strB s) = decide ((strB s)[0]? = some 110)
  cases strB s with
  | nil => rfl
  | cons x xs =>
    rw [Bool.eq_iff_iff, decide_eq_true_iff]
    simp [List.isPrefixOf]
    exact ⟨fun h => h.symm, fun h => h.symm⟩
theorem first_pos {s : ByteArray} {c : UInt8} (h : firstB s c = true) : 0 < s.size := by
  unfold firstB at h
  rw [decide_eq_true_iff] at h
  have := (List.getElem?_eq_some_iff.1 h).1
  rwa [strB_len] at this
theorem cutN_tail {s : ByteArray} (h : hasN s = true) : cutN s = s.extract 1 s.size := by
  apply strB_inj
  have e : strB (s.extract 1 s.size) = (strB s).drop 1 := tailS_bytes s
  rw [e]
  unfold cutN Lib.trimPrefix
  unfold hasN at h
  rw [if_pos h]
  show (((s.data.toList).drop 1).toArray).toList = _
  rfl
theorem one_str (s : ByteArray) (c : UInt8) : (s.toList == [c]) = decide (s = ⟨#[c]⟩) := by
  rw [ByteArray.toList_eq, Bool.eq_iff_iff, beq_iff_eq, decide_eq_true_iff]
  constructor
  · intro h; exact strB_inj h
  · intro h; rw [h]
/-- A head, and what is told of it. -/
def headE (kd : Int) (TX NM : ByteArray) (wh : Bool) (k n : Nat) (kd2 : Int) (TX2 : ByteArray) : Option (ByteArray × ByteArray × Nat) :=
  if kd = 9 then (if TX = ⟨#[43]⟩ ∧ k + 1 < n ∧ kd2 = 1 then some (⟨#[49]⟩, lowS TX2, k + 2) else none)
  else if kd = 12 then (if wh = true then some (NM, lowS TX, k + 1) else none)
  else if kd = 1 then (if firstB (lowS TX) 45 = true then some (⟨#[45, 49]⟩, tailS (lowS TX), k + 1) else some (⟨#[49]⟩, lowS TX, k + 1))
  else none
def headV2 : Option (ByteArray × ByteArray × Nat) → ByteArray × ByteArray × Int
  | none => (⟨#[]⟩, ⟨#[]⟩, -1)
  | some (A, nm, z) => if hasN nm = true then (A, cutN nm, (z : Nat)) else (⟨#[]⟩, ⟨#[]⟩, -1)
theorem headN_eq (ts : List Tk) (k : Nat) (hg : GoodT (tkAt ts k)) : headN ts k = headE (tkAt ts k).kind (txS (tkAt ts k)) (nmT (tkAt ts k)) (tkAt ts k).whole k ts.length (tkAt ts (k + 1)).kind (txS (tkAt ts (k + 1))) := by
  unfold headN headE wholeT signT
  rw [show (strOfNums (tkAt ts k).text) = txS (tkAt ts k) from rfl, show (⟨#[43]⟩ : ByteArray).toList = [43] from (ByteArray.toList_eq _).trans rfl, one_str]
  unfold GoodT at hg
  unfold nmT
  generalize txS (tkAt ts k) = TX at *
  generalize txS (tkAt ts (k + 1)) = TX2 at *
  generalize (tkAt ts (k + 1)).kind = kd2 at *
  generalize tkAt ts k = t at *
  obtain ⟨kd, fr, to_, tx, nm, wh⟩ := t
  dsimp only at hg ⊢
  generalize strOfNums nm = NM at *
  by_cases h9 : kd = 9
  · subst h9
    by_cases hx : TX = ⟨#[43]⟩ <;> by_cases hk : k + 1 < ts.length <;> by_cases h2 : kd2 = 1 <;> simp [hx, hk, h2]
  · by_cases h12 : kd = 12
    · subst h12
      rcases wh with _ | _
      · simp
      · have := hg (.inr rfl) rfl
        simp [this]
    · by_cases h1 : kd = 1
      · subst h1; simp
      · simp [h9, h12, h1]

set_option maxRecDepth 100000 in
set_option maxHeartbeats 8000000 in
theorem rheads_any (ts : List Tk) (n cap : Nat) (a : Option Addr) (i : Int) (k : Nat) (w : World) (h : ReadsT w a cap ts) (hn : ts.length = n) (hsm : n ≤ 1000000) (hi : i = (k : Int)) (hk : k < n) (hS : ShortT ts) (hg : GoodT (tkAt ts k)) :
    Calls Tryz.prog 58 #[.slice a n cap, .int .i64 i] w (Told (.tuple #[.string (headV2 (headN ts k)).1, .string (headV2 (headN ts k)).2.1, .int .i64 (headV2 (headN ts k)).2.2]) w) := by
  subst hi
  rw [headN_eq ts k hg, hn]
  have hcap := h.1
  have hcap2 : cap ≤ 9223372036854775807 := h.2.1
  rw [hn] at hcap
  have HP := Lib.hid h
  obtain ⟨b, rfl, hc⟩ := h.at
  have hbl := h.lt
  have hk' : (k : Int) < (n : Int) := by omega
  have hk2 : ¬ (n : Int) ≤ (k : Int) := by omega
  have c0 : w.cell? ⟨b, k * 6, none⟩ = some (.int .i64 (tkAt ts k).kind) := hc k (by rw [hn]; exact hk) 0 _ rfl
  have c1 := hc k (by rw [hn]; exact hk) 1 _ rfl
  have c2 := hc k (by rw [hn]; exact hk) 2 _ rfl
  have c3 := hc k (by rw [hn]; exact hk) 3 _ rfl
  have c4 := hc k (by rw [hn]; exact hk) 4 _ rfl
  have c5 := hc k (by rw [hn]; exact hk) 5 _ rfl
  have HC2 : Hid (∀ w' (hb : Below w.heap.size w w') j, k + 1 < n → ∀ v, (tkCells (tkAt ts (k + 1)))[j]? = some v → w'.cell? ⟨b, (k + 1) * 6 + j, none⟩ = some v) := Lib.hid (fun w' hb j hk1 v hv => by
    obtain ⟨b', e, hc'⟩ := (HP.out.later hb).at
    cases e
    exact hc' (k + 1) (by rw [hn]; exact hk1) j v hv)
  have fL := fun w => rlower_any (txS (tkAt ts k)) w (by have := (hS k).1; omega)
  have fL2 := fun w => rlower_any (txS (tkAt ts (k + 1))) w (by have := (hS (k + 1)).1; omega)
  unfold txS at fL fL2 ⊢
  unfold nmT
  clear hc h hS hg hn HP
  generalize tkAt ts k = t at *
  generalize tkAt ts (k + 1) = t2 at *
  obtain ⟨kd, fr, to_, tx, nm, wh⟩ := t
  obtain ⟨kd2, fr2, to2, tx2, nm2, wh2⟩ := t2
  dsimp only at c0 c1 c2 c3 c4 c5 fL fL2 ⊢
  unfold tkCells at HC2
  dsimp only at HC2
  generalize strOfNums tx = TX at *
  generalize strOfNums nm = NM at *
  generalize strOfNums tx2 = TX2 at *
  have hbw1 := (Below.refl w.heap.size w).alloc (Nat.le_refl _) (.cells [.int .i64 kd, .int .i64 fr, .int .i64 to_, .string TX, .string NM, .bool wh].toArray 32)
  have B1 : Blk (w.alloc (.cells [.int .i64 kd, .int .i64 fr, .int .i64 to_, .string TX, .string NM, .bool wh].toArray 32)) w.heap.size [.int .i64 kd, .int .i64 fr, .int .i64 to_, .string TX, .string NM, .bool wh] 32 := Blk.alloc _ _
  have HE : Hid (∀ w' w'' : World, Below w'.heap.size w' w'' → True) := Lib.hid (fun _ _ _ => trivial)
  generalize hR0 : headV2 (headE kd TX NM wh k n kd2 TX2) = R
  have HR := Lib.hid hR0.symm
  clear hR0
  by_cases h9 : kd = 9
  · subst h9
    have hT := one_str TX 43
    by_cases hx : TX = ⟨#[43]⟩
    · rw [decide_eq_true hx] at hT
      by_cases hk1 : k + 1 < n
      · have hk1' : (k : Int) + 1 < (n : Int) := by omega
        by_cases h21 : kd2 = 1
        · subst h21
          have HN : Hid (headE 9 TX NM wh k n 1 TX2 = some (⟨#[49]⟩, lowS TX2, k + 2)) := Lib.hid (by unfold headE; rw [if_pos rfl, if_pos ⟨hx, hk1, rfl⟩])
          have HC2 : Hid (∀ w' (hb : Below w.heap.size w w') j, ∀ v, ([Value.int .i64 1, .int .i64 fr2, .int .i64 to2, .string TX2, .string (strOfNums nm2), .bool wh2])[j]? = some v → w'.cell? ⟨b, (k + 1) * 6 + j, none⟩ = some v) := Lib.hid (fun w' hb j v hv => HC2.out w' hb j hk1 v hv)
          generalize lowS TX2 = N at *
          clear hx
          have fN := fun h => first_byte N h 110
          rw [show (((110 : UInt8).toNat : Nat) : Int) = 110 from rfl] at fN
          rw [← hasN_first] at fN
          rcases hh : hasN N with _ | _
          · rcases Nat.eq_zero_or_pos N.size with hz | hpos
            · have hz' : (N.size : Int) = 0 := by omega
              have hz2 : ¬ (0 : Int) < (N.size : Int) := by omega
              clear fN
              have hR : Hid (R = (⟨#[]⟩, ⟨#[]⟩, -1)) := Lib.hid (by rw [HR.out]; rw [HN.out]; simp [headV2, hh])
              clear HR HE
              go_enter Tryz.func58, Tryz.ntmps58
              go_wp2_with (go_at_call 57; first | ((with_reducible refine (fL _).mono ?_); rintro e w2 ⟨rfl, hb2⟩; have hbw2 := hbw1.trans (hb2.mono hbw1.size); have B2 := B1.later hb2 B1.lt; have d0 := B2.cell 0 _ rfl; have d3 := B2.cell 3 _ rfl; have d4 := B2.cell 4 _ rfl; have d5 := B2.cell 5 _ rfl; have hx0 : w2.cell? ⟨b, (k + 1) * 6, none⟩ = some (.int .i64 1) := HC2.out w2 hbw2 0 _ rfl; have hx3 := HC2.out w2 hbw2 3 _ rfl) | ((with_reducible refine (fL2 _).mono ?_); rintro e w3 ⟨rfl, hb3⟩; have hbw3 := hbw2.trans (hb3.mono hbw2.size)))
              refine bodyPost_ret (v := .tuple #[.string ⟨#[]⟩, .string ⟨#[]⟩, .int .i64 (-1)]) (by simp [results, Tryz.results58, go_sem]) rfl ⟨by rw [hR.out], hbw3⟩
            · have f0 := fN hpos
              rw [hh] at f0
              have f1 : ((((N[0]'hpos).toNat : Nat) : Int) != 110) = true := by rw [bne, f0]; rfl
              have hp' : (0 : Int) < (N.size : Int) := by omega
              have hp2 : ((N.size : Int) == 0) = false := beq_eq_false_iff_ne.2 (by omega)
              clear fN
              have hR : Hid (R = (⟨#[]⟩, ⟨#[]⟩, -1)) := Lib.hid (by rw [HR.out]; rw [HN.out]; simp [headV2, hh])
              clear HR HE
              go_enter Tryz.func58, Tryz.ntmps58
              go_wp2_with (go_at_call 57; first | ((with_reducible refine (fL _).mono ?_); rintro e w2 ⟨rfl, hb2⟩; have hbw2 := hbw1.trans (hb2.mono hbw1.size); have B2 := B1.later hb2 B1.lt; have d0 := B2.cell 0 _ rfl; have d3 := B2.cell 3 _ rfl; have d4 := B2.cell 4 _ rfl; have d5 := B2.cell 5 _ rfl; have hx0 : w2.cell? ⟨b, (k + 1) * 6, none⟩ = some (.int .i64 1) := HC2.out w2 hbw2 0 _ rfl; have hx3 := HC2.out w2 hbw2 3 _ rfl) | ((with_reducible refine (fL2 _).mono ?_); rintro e w3 ⟨rfl, hb3⟩; have hbw3 := hbw2.trans (hb3.mono hbw2.size)))
              refine bodyPost_ret (v := .tuple #[.string ⟨#[]⟩, .string ⟨#[]⟩, .int .i64 (-1)]) (by simp [results, Tryz.results58, go_sem]) rfl ⟨by rw [hR.out], hbw3⟩
          · have hpos : 0 < N.size := by have := hasN_first N; rw [hh] at this; exact first_pos this.symm
            have f0 := fN hpos
            rw [hh] at f0
            have f1 : ((((N[0]'hpos).toNat : Nat) : Int) != 110) = false := by rw [bne, f0]; rfl
            have hp' : (0 : Int) < (N.size : Int) := by omega
            have hp2 : ((N.size : Int) == 0) = false := beq_eq_false_iff_ne.2 (by omega)
            have hp1 : (1 : Int) ≤ (N.size : Int) := by omega
            clear fN
            have hR : Hid (R = (⟨#[49]⟩, cutN N, ((k + 2 : Nat) : Int))) := Lib.hid (by rw [HR.out]; rw [HN.out]; simp [headV2, hh])
            have hcut := Lib.hid (cutN_tail hh)
            clear HR HE hh
            go_enter Tryz.func58, Tryz.ntmps58
            go_wp2_with (go_at_call 57; first | ((with_reducible refine (fL _).mono ?_); rintro e w2 ⟨rfl, hb2⟩; have hbw2 := hbw1.trans (hb2.mono hbw1.size); have B2 := B1.later hb2 B1.lt; have d0 := B2.cell 0 _ rfl; have d3 := B2.cell 3 _ rfl; have d4 := B2.cell 4 _ rfl; have d5 := B2.cell 5 _ rfl; have hx0 : w2.cell? ⟨b, (k + 1) * 6, none⟩ = some (.int .i64 1) := HC2.out w2 hbw2 0 _ rfl; have hx3 := HC2.out w2 hbw2 3 _ rfl) | ((with_reducible refine (fL2 _).mono ?_); rintro e w3 ⟨rfl, hb3⟩; have hbw3 := hbw2.trans (hb3.mono hbw2.size)))
            go_quiet (fail)
            go_wp2
            refine bodyPost_ret (v := .tuple #[.string ⟨#[49]⟩, .string (N.extract 1 N.size), .int .i64 ((k + 2 : Nat) : Int)]) (by simp [results, Tryz.results58, go_sem]) rfl ⟨by rw [hR.out, hcut.out], below_drewN hbw3 _⟩
        · have q21 : (kd2 == 1) = false := beq_eq_false_iff_ne.2 h21
          have HC2 : Hid (∀ w' (hb : Below w.heap.size w w') j, ∀ v, ([Value.int .i64 kd2, .int .i64 fr2, .int .i64 to2, .string TX2, .string (strOfNums nm2), .bool wh2])[j]? = some v → w'.cell? ⟨b, (k + 1) * 6 + j, none⟩ = some v) := Lib.hid (fun w' hb j v hv => HC2.out w' hb j hk1 v hv)
          have hR : Hid (R = (⟨#[]⟩, ⟨#[]⟩, -1)) := Lib.hid (by rw [HR.out]; unfold headE; rw [if_pos rfl, if_neg (fun h => h21 h.2.2)]; rfl)
          clear HR HE hx
          go_enter Tryz.func58, Tryz.ntmps58
          go_wp2_with (go_at_call 57; ((with_reducible refine (fL _).mono ?_); rintro e w2 ⟨rfl, hb2⟩; have hbw2 := hbw1.trans (hb2.mono hbw1.size); have B2 := B1.later hb2 B1.lt; have d0 := B2.cell 0 _ rfl; have d3 := B2.cell 3 _ rfl; have d4 := B2.cell 4 _ rfl; have d5 := B2.cell 5 _ rfl; have hx0 : w2.cell? ⟨b, (k + 1) * 6, none⟩ = some (.int .i64 kd2) := HC2.out w2 hbw2 0 _ rfl))
          refine bodyPost_ret (v := .tuple #[.string ⟨#[]⟩, .string ⟨#[]⟩, .int .i64 (-1)]) (by simp [results, Tryz.results58, go_sem]) rfl ⟨by rw [hR.out], hbw2⟩
      · have hk1' : ¬ (k : Int) + 1 < (n : Int) := by omega
        have hR : Hid (R = (⟨#[]⟩, ⟨#[]⟩, -1)) := Lib.hid (by rw [HR.out]; unfold headE; rw [if_pos rfl, if_neg (fun h => hk1 h.2.1)]; rfl)
        clear HR HE hx
        go_enter Tryz.func58, Tryz.ntmps58
        go_wp2_with (go_at_call 57; ((with_reducible refine (fL _).mono ?_); rintro e w2 ⟨rfl, hb2⟩; have hbw2 := hbw1.trans (hb2.mono hbw1.size); have B2 := B1.later hb2 B1.lt; have d0 := B2.cell 0 _ rfl; have d3 := B2.cell 3 _ rfl; have d4 := B2.cell 4 _ rfl; have d5 := B2.cell 5 _ rfl))
        refine bodyPost_ret (v := .tuple #[.string ⟨#[]⟩, .string ⟨#[]⟩, .int .i64 (-1)]) (by simp [results, Tryz.results58, go_sem]) rfl ⟨by rw [hR.out], hbw2⟩
    · rw [decide_eq_false hx] at hT
      have hR : Hid (R = (⟨#[]⟩, ⟨#[]⟩, -1)) := Lib.hid (by rw [HR.out]; unfold headE; rw [if_pos rfl, if_neg (fun h => hx h.1)]; rfl)
      clear HR HE hx
      go_enter Tryz.func58, Tryz.ntmps58
      go_wp2_with (go_at_call 57; ((with_reducible refine (fL _).mono ?_); rintro e w2 ⟨rfl, hb2⟩; have hbw2 := hbw1.trans (hb2.mono hbw1.size); have B2 := B1.later hb2 B1.lt; have d0 := B2.cell 0 _ rfl; have d3 := B2.cell 3 _ rfl; have d4 := B2.cell 4 _ rfl; have d5 := B2.cell 5 _ rfl))
      refine bodyPost_ret (v := .tuple #[.string ⟨#[]⟩, .string ⟨#[]⟩, .int .i64 (-1)]) (by simp [results, Tryz.results58, go_sem]) rfl ⟨by rw [hR.out], hbw2⟩
  have q9 : (kd == 9) = false := beq_eq_false_iff_ne.2 h9
  by_cases h12 : kd = 12
  · subst h12
    rcases wh with _ | _
    · have hR : Hid (R = (⟨#[]⟩, ⟨#[]⟩, -1)) := Lib.hid (by rw [HR.out]; unfold headE; rw [if_neg (by decide), if_pos rfl, if_neg (by decide)]; rfl)
      clear HR HE
      go_enter Tryz.func58, Tryz.ntmps58
      go_wp2_with (go_at_call 57; ((with_reducible refine (fL _).mono ?_); rintro e w2 ⟨rfl, hb2⟩; have hbw2 := hbw1.trans (hb2.mono hbw1.size); have B2 := B1.later hb2 B1.lt; have d0 := B2.cell 0 _ rfl; have d3 := B2.cell 3 _ rfl; have d4 := B2.cell 4 _ rfl; have d5 := B2.cell 5 _ rfl))
      refine bodyPost_ret (v := .tuple #[.string ⟨#[]⟩, .string ⟨#[]⟩, .int .i64 (-1)]) (by simp [results, Tryz.results58, go_sem]) rfl ⟨by rw [hR.out], hbw2⟩
    · have HN : Hid (headE 12 TX NM true k n kd2 TX2 = some (NM, lowS TX, k + 1)) := Lib.hid (by unfold headE; rw [if_neg (by decide), if_pos rfl, if_pos rfl])
      generalize lowS TX = N at *
      have fN := fun h => first_byte N h 110
      rw [show (((110 : UInt8).toNat : Nat) : Int) = 110 from rfl] at fN
      rw [← hasN_first] at fN
      rcases hh : hasN N with _ | _
      · rcases Nat.eq_zero_or_pos N.size with hz | hpos
        · have hz' : (N.size : Int) = 0 := by omega
          have hz2 : ¬ (0 : Int) < (N.size : Int) := by omega
          clear fN
          have hR : Hid (R = (⟨#[]⟩, ⟨#[]⟩, -1)) := Lib.hid (by rw [HR.out]; rw [HN.out]; simp [headV2, hh])
          clear HR HE
          go_enter Tryz.func58, Tryz.ntmps58
          go_wp2_with (go_at_call 57; ((with_reducible refine (fL _).mono ?_); rintro e w2 ⟨rfl, hb2⟩; have hbw2 := hbw1.trans (hb2.mono hbw1.size); have B2 := B1.later hb2 B1.lt; have d0 := B2.cell 0 _ rfl; have d3 := B2.cell 3 _ rfl; have d4 := B2.cell 4 _ rfl; have d5 := B2.cell 5 _ rfl))
          refine bodyPost_ret (v := .tuple #[.string ⟨#[]⟩, .string ⟨#[]⟩, .int .i64 (-1)]) (by simp [results, Tryz.results58, go_sem]) rfl ⟨by rw [hR.out], hbw2⟩
        · have f0 := fN hpos
          rw [hh] at f0
          have f1 : ((((N[0]'hpos).toNat : Nat) : Int) != 110) = true := by rw [bne, f0]; rfl
          have hp' : (0 : Int) < (N.size : Int) := by omega
          have hp2 : ((N.size : Int) == 0) = false := beq_eq_false_iff_ne.2 (by omega)
          clear fN
          have hR : Hid (R = (⟨#[]⟩, ⟨#[]⟩, -1)) := Lib.hid (by rw [HR.out]; rw [HN.out]; simp [headV2, hh])
          clear HR HE
          go_enter Tryz.func58, Tryz.ntmps58
          go_wp2_with (go_at_call 57; ((with_reducible refine (fL _).mono ?_); rintro e w2 ⟨rfl, hb2⟩; have hbw2 := hbw1.trans (hb2.mono hbw1.size); have B2 := B1.later hb2 B1.lt; have d0 := B2.cell 0 _ rfl; have d3 := B2.cell 3 _ rfl; have d4 := B2.cell 4 _ rfl; have d5 := B2.cell 5 _ rfl))
          refine bodyPost_ret (v := .tuple #[.string ⟨#[]⟩, .string ⟨#[]⟩, .int .i64 (-1)]) (by simp [results, Tryz.results58, go_sem]) rfl ⟨by rw [hR.out], hbw2⟩
      · have hpos : 0 < N.size := by have := hasN_first N; rw [hh] at this; exact first_pos this.symm
        have f0 := fN hpos
        rw [hh] at f0
        have f1 : ((((N[0]'hpos).toNat : Nat) : Int) != 110) = false := by rw [bne, f0]; rfl
        have hp' : (0 : Int) < (N.size : Int) := by omega
        have hp2 : ((N.size : Int) == 0) = false := beq_eq_false_iff_ne.2 (by omega)
        have hp1 : (1 : Int) ≤ (N.size : Int) := by omega
        clear fN
        have hR : Hid (R = (NM, cutN N, ((k + 1 : Nat) : Int))) := Lib.hid (by rw [HR.out]; rw [HN.out]; simp [headV2, hh])
        have hcut := Lib.hid (cutN_tail hh)
        clear HR HE hh
        go_enter Tryz.func58, Tryz.ntmps58
        go_wp2_with (go_at_call 57; ((with_reducible refine (fL _).mono ?_); rintro e w2 ⟨rfl, hb2⟩; have hbw2 := hbw1.trans (hb2.mono hbw1.size); have B2 := B1.later hb2 B1.lt; have d0 := B2.cell 0 _ rfl; have d3 := B2.cell 3 _ rfl; have d4 := B2.cell 4 _ rfl; have d5 := B2.cell 5 _ rfl))
        go_quiet (fail)
        go_wp2
        refine bodyPost_ret (v := .tuple #[.string NM, .string (N.extract 1 N.size), .int .i64 ((k + 1 : Nat) : Int)]) (by simp [results, Tryz.results58, go_sem]) rfl ⟨by rw [hR.out, hcut.out], below_drewN hbw2 _⟩
  have q12 : (kd == 12) = false := beq_eq_false_iff_ne.2 h12
  by_cases h1 : kd = 1
  · subst h1
    have HN : Hid (headE 1 TX NM wh k n kd2 TX2 = if firstB (lowS TX) 45 = true then some (⟨#[45, 49]⟩, tailS (lowS TX), k + 1) else some (⟨#[49]⟩, lowS TX, k + 1)) := Lib.hid (by unfold headE; rw [if_neg (by decide), if_neg (by decide), if_pos rfl])
    generalize lowS TX = L at *
    have fD := fun h => first_byte L h 45
    rw [show (((45 : UInt8).toNat : Nat) : Int) = 45 from rfl] at fD
    rcases h45 : firstB L 45 with _ | _
    · have HN : Hid (headE 1 TX NM wh k n kd2 TX2 = some (⟨#[49]⟩, L, k + 1)) := Lib.hid (by rw [HN.out, h45, if_neg (by decide)])
      rw [h45] at fD
      rcases Nat.eq_zero_or_pos L.size with hz0 | hpos0
      · have hh : hasN L = false := by
          rcases hh : hasN L with _ | _
          · rfl
          · have := hasN_first L; rw [hh] at this; have := first_pos this.symm; omega
        have hz3 : ((L.size : Int) == 0) = true := beq_iff_eq.2 (by omega)
        have hz2 : ¬ (0 : Int) < (L.size : Int) := by omega
        clear fD h45
        have hR : Hid (R = (⟨#[]⟩, ⟨#[]⟩, -1)) := Lib.hid (by rw [HR.out]; rw [HN.out]; simp [headV2, hh])
        clear HR HE hz0 hh
        go_enter Tryz.func58, Tryz.ntmps58
        go_wp2_with (go_at_call 57; ((with_reducible refine (fL _).mono ?_); rintro e w2 ⟨rfl, hb2⟩; have hbw2 := hbw1.trans (hb2.mono hbw1.size); have B2 := B1.later hb2 B1.lt; have d0 := B2.cell 0 _ rfl; have d3 := B2.cell 3 _ rfl; have d4 := B2.cell 4 _ rfl; have d5 := B2.cell 5 _ rfl))
        refine bodyPost_ret (v := .tuple #[.string ⟨#[]⟩, .string ⟨#[]⟩, .int .i64 (-1)]) (by simp [results, Tryz.results58, go_sem]) rfl ⟨by rw [hR.out], hbw2⟩
      · have fD0 := fD hpos0
        clear fD
        generalize L = N at *
        have fN := fun h => first_byte N h 110
        rw [show (((110 : UInt8).toNat : Nat) : Int) = 110 from rfl] at fN
        rw [← hasN_first] at fN
        rcases hh : hasN N with _ | _
        · rcases Nat.eq_zero_or_pos N.size with hz | hpos
          · omega
          · have f0 := fN hpos
            rw [hh] at f0
            have f1 : ((((N[0]'hpos).toNat : Nat) : Int) != 110) = true := by rw [bne, f0]; rfl
            have hp' : (0 : Int) < (N.size : Int) := by omega
            have hp2 : ((N.size : Int) == 0) = false := beq_eq_false_iff_ne.2 (by omega)
            clear fN
            have hR : Hid (R = (⟨#[]⟩, ⟨#[]⟩, -1)) := Lib.hid (by rw [HR.out]; rw [HN.out]; simp [headV2, hh])
            clear HR HE
            go_enter Tryz.func58, Tryz.ntmps58
            go_wp2_with (go_at_call 57; ((with_reducible refine (fL _).mono ?_); rintro e w2 ⟨rfl, hb2⟩; have hbw2 := hbw1.trans (hb2.mono hbw1.size); have B2 := B1.later hb2 B1.lt; have d0 := B2.cell 0 _ rfl; have d3 := B2.cell 3 _ rfl; have d4 := B2.cell 4 _ rfl; have d5 := B2.cell 5 _ rfl))
            refine bodyPost_ret (v := .tuple #[.string ⟨#[]⟩, .string ⟨#[]⟩, .int .i64 (-1)]) (by simp [results, Tryz.results58, go_sem]) rfl ⟨by rw [hR.out], hbw2⟩
        · have hpos : 0 < N.size := by have := hasN_first N; rw [hh] at this; exact first_pos this.symm
          have f0 := fN hpos
          rw [hh] at f0
          have f1 : ((((N[0]'hpos).toNat : Nat) : Int) != 110) = false := by rw [bne, f0]; rfl
          have hp' : (0 : Int) < (N.size : Int) := by omega
          have hp2 : ((N.size : Int) == 0) = false := beq_eq_false_iff_ne.2 (by omega)
          have hp1 : (1 : Int) ≤ (N.size : Int) := by omega
          clear fN
          have hR : Hid (R = (⟨#[49]⟩, cutN N, ((k + 1 : Nat) : Int))) := Lib.hid (by rw [HR.out]; rw [HN.out]; simp [headV2, hh])
          have hcut := Lib.hid (cutN_tail hh)
          clear HR HE hh
          go_enter Tryz.func58, Tryz.ntmps58
          go_wp2_with (go_at_call 57; ((with_reducible refine (fL _).mono ?_); rintro e w2 ⟨rfl, hb2⟩; have hbw2 := hbw1.trans (hb2.mono hbw1.size); have B2 := B1.later hb2 B1.lt; have d0 := B2.cell 0 _ rfl; have d3 := B2.cell 3 _ rfl; have d4 := B2.cell 4 _ rfl; have d5 := B2.cell 5 _ rfl))
          go_quiet (fail)
          go_wp2
          refine bodyPost_ret (v := .tuple #[.string ⟨#[49]⟩, .string (N.extract 1 N.size), .int .i64 ((k + 1 : Nat) : Int)]) (by simp [results, Tryz.results58, go_sem]) rfl ⟨by rw [hR.out, hcut.out], below_drewN hbw2 _⟩
    · have HN : Hid (headE 1 TX NM wh k n kd2 TX2 = some (⟨#[45, 49]⟩, tailS L, k + 1)) := Lib.hid (by rw [HN.out, h45, if_pos rfl])
      have hpos0 := first_pos h45
      have fD0 := fD hpos0
      rw [h45] at fD0
      have hl1 : (0 : Int) < (L.size : Int) := by omega
      have hl2 : (1 : Int) ≤ (L.size : Int) := by omega
      have hT : L.extract 1 L.size = tailS L := rfl
      clear fD
      generalize tailS L = N at *
      have fN := fun h => first_byte N h 110
      rw [show (((110 : UInt8).toNat : Nat) : Int) = 110 from rfl] at fN
      rw [← hasN_first] at fN
      rcases hh : hasN N with _ | _
      · rcases Nat.eq_zero_or_pos N.size with hz | hpos
        · have hz' : (N.size : Int) = 0 := by omega
          have hz2 : ¬ (0 : Int) < (N.size : Int) := by omega
          clear fN
          have hR : Hid (R = (⟨#[]⟩, ⟨#[]⟩, -1)) := Lib.hid (by rw [HR.out]; rw [HN.out]; simp [headV2, hh])
          clear HR HE
          go_enter Tryz.func58, Tryz.ntmps58
          go_wp2_with (go_at_call 57; ((with_reducible refine (fL _).mono ?_); rintro e w2 ⟨rfl, hb2⟩; have hbw2 := hbw1.trans (hb2.mono hbw1.size); have B2 := B1.later hb2 B1.lt; have d0 := B2.cell 0 _ rfl; have d3 := B2.cell 3 _ rfl; have d4 := B2.cell 4 _ rfl; have d5 := B2.cell 5 _ rfl))
          refine bodyPost_ret (v := .tuple #[.string ⟨#[]⟩, .string ⟨#[]⟩, .int .i64 (-1)]) (by simp [results, Tryz.results58, go_sem]) rfl ⟨by rw [hR.out], hbw2⟩
        · have f0 := fN hpos
          rw [hh] at f0
          have f1 : ((((N[0]'hpos).toNat : Nat) : Int) != 110) = true := by rw [bne, f0]; rfl
          have hp' : (0 : Int) < (N.size : Int) := by omega
          have hp2 : ((N.size : Int) == 0) = false := beq_eq_false_iff_ne.2 (by omega)
          clear fN
          have hR : Hid (R = (⟨#[]⟩, ⟨#[]⟩, -1)) := Lib.hid (by rw [HR.out]; rw [HN.out]; simp [headV2, hh])
          clear HR HE
          go_enter Tryz.func58, Tryz.ntmps58
          go_wp2_with (go_at_call 57; ((with_reducible refine (fL _).mono ?_); rintro e w2 ⟨rfl, hb2⟩; have hbw2 := hbw1.trans (hb2.mono hbw1.size); have B2 := B1.later hb2 B1.lt; have d0 := B2.cell 0 _ rfl; have d3 := B2.cell 3 _ rfl; have d4 := B2.cell 4 _ rfl; have d5 := B2.cell 5 _ rfl))
          refine bodyPost_ret (v := .tuple #[.string ⟨#[]⟩, .string ⟨#[]⟩, .int .i64 (-1)]) (by simp [results, Tryz.results58, go_sem]) rfl ⟨by rw [hR.out], hbw2⟩
      · have hpos : 0 < N.size := by have := hasN_first N; rw [hh] at this; exact first_pos this.symm
        have f0 := fN hpos
        rw [hh] at f0
        have f1 : ((((N[0]'hpos).toNat : Nat) : Int) != 110) = false := by rw [bne, f0]; rfl
        have hp' : (0 : Int) < (N.size : Int) := by omega
        have hp2 : ((N.size : Int) == 0) = false := beq_eq_false_iff_ne.2 (by omega)
        have hp1 : (1 : Int) ≤ (N.size : Int) := by omega
        clear fN
        have hR : Hid (R = (⟨#[45, 49]⟩, cutN N, ((k + 1 : Nat) : Int))) := Lib.hid (by rw [HR.out]; rw [HN.out]; simp [headV2, hh])
        have hcut := Lib.hid (cutN_tail hh)
        clear HR HE hh
        go_enter Tryz.func58, Tryz.ntmps58
        go_wp2_with (go_at_call 57; ((with_reducible refine (fL _).mono ?_); rintro e w2 ⟨rfl, hb2⟩; have hbw2 := hbw1.trans (hb2.mono hbw1.size); have B2 := B1.later hb2 B1.lt; have d0 := B2.cell 0 _ rfl; have d3 := B2.cell 3 _ rfl; have d4 := B2.cell 4 _ rfl; have d5 := B2.cell 5 _ rfl))
        go_quiet (fail)
        go_wp2
        refine bodyPost_ret (v := .tuple #[.string ⟨#[45, 49]⟩, .string (N.extract 1 N.size), .int .i64 ((k + 1 : Nat) : Int)]) (by simp [results, Tryz.results58, go_sem]) rfl ⟨by rw [hR.out, hcut.out], below_drewN hbw2 _⟩
  have q1 : (kd == 1) = false := beq_eq_false_iff_ne.2 h1
  have q1' : (kd != 1) = true := by rw [bne, q1]; rfl
  have hR : Hid (R = (⟨#[]⟩, ⟨#[]⟩, -1)) := Lib.hid (by rw [HR.out]; unfold headE; rw [if_neg h9, if_neg h12, if_neg h1]; rfl)
  clear HR HE
  go_enter Tryz.func58, Tryz.ntmps58
  go_wp2_with (go_at_call 57; ((with_reducible refine (fL _).mono ?_); rintro e w2 ⟨rfl, hb2⟩; have hbw2 := hbw1.trans (hb2.mono hbw1.size); have B2 := B1.later hb2 B1.lt; have d0 := B2.cell 0 _ rfl; have d3 := B2.cell 3 _ rfl; have d4 := B2.cell 4 _ rfl; have d5 := B2.cell 5 _ rfl))
  refine bodyPost_ret (v := .tuple #[.string ⟨#[]⟩, .string ⟨#[]⟩, .int .i64 (-1)]) (by simp [results, Tryz.results58, go_sem]) rfl ⟨by rw [hR.out], hbw2⟩
end Go.Proofs.YtickcbmfboajiaaGreatDoor
