/- Several texts of mine in one. -/
import Derived.Test.YtickcbmfboajiaaGreatDoorFO
import Derived.Test.YtickcbmfboajiaaGreatDoorFP
namespace Go.Proofs.YtickcbmfboajiaaGreatDoor
section
open Go.RowKit Go.Shelf
set_option linter.unusedVariables false
set_option linter.unusedSimpArgs false

theorem toks_a : toksF [97, 92, 50, 54, 32, 98] = [⟨1, 0, 6, [97, 38, 98], [], false⟩, ⟨0, 6, 6, [], [], false⟩] := by decide +kernel
theorem toks_b : toksF [49, 46, 53, 101, 51, 112, 120] = [⟨12, 0, 7, [112, 120], [49, 46, 53, 101, 51], false⟩, ⟨0, 7, 7, [], [], false⟩] := by decide +kernel

set_option maxRecDepth 100000 in
set_option maxHeartbeats 2000000 in
theorem speaks3_any (w : World) (hT : TkW w) : Calls Tryz.prog 7 #[] w (Told (.bool true) w) := by
  have hb0 : ∀ o, Below w.heap.size w (w.alloc o) := fun o => (Below.refl _ w).alloc (Nat.le_refl _) o
  have hr0 := reads_marked w .u8 [97, 92, 50, 54, 32, 98] 5 (6, 7) 6 rfl (by unfold maxLen; omega)
  have c1 := tread_any _ 6 6 [97, 92, 50, 54, 32, 98] _ rfl hr0 (by intro z hz; simp at hz; omega) (by omega) (hT.later (hb0 _))
  rw [toks_a] at c1
  have cv := conv_bytes w #[.int .u8 97, .int .u8 92, .int .u8 50, .int .u8 54, .int .u8 32, .int .u8 98] 6 6
  have HT := Lib.hid hT
  clear hT hr0
  go_enter Tryz.func7, Tryz.ntmps7
  go_wp2_with fail
  refine c1.mono ?_
  rintro e w1 ⟨a1, d1, rfl, hr1, hb1⟩
  have hbw1 := (hb0 (.cells ([97, 92, 50, 54, 32, 98].map (Value.int .u8)).toArray 5 (6, 7))).trans (hb1.mono (by simp))
  have hb10 : ∀ o, Below w1.heap.size w1 (w1.alloc o) := fun o => (Below.refl _ w1).alloc (Nat.le_refl _) o
  have hr0 := reads_marked w1 .u8 [49, 46, 53, 101, 51, 112, 120] 5 (7, 8) 7 rfl (by unfold maxLen; omega)
  have c2 := tread_any _ 7 7 [49, 46, 53, 101, 51, 112, 120] _ rfl hr0 (by intro z hz; simp at hz; omega) (by omega) ((HT.out.later hbw1).later (hb10 _))
  rw [toks_b] at c2
  have cv2 := conv_bytes w1 #[.int .u8 49, .int .u8 46, .int .u8 53, .int .u8 101, .int .u8 51, .int .u8 112, .int .u8 120] 7 7
  clear c1 cv hr0 hb1 hb0
  have HR1 := Lib.hid hr1
  have HBW := Lib.hid hbw1
  clear hr1 hbw1
  go_wp2_with fail
  refine c2.mono ?_
  rintro e w2 ⟨a2, d2, rfl, hr2, hb2⟩
  have hb12 : Below w1.heap.size w1 w2 := (hb10 _).trans (hb2.mono (by simp))
  have hr1 := HR1.out.later hb12
  have hbw2 := below_trans HBW.out hb12
  obtain ⟨hc1, hc1', b1, rfl, hlt1, hcell1⟩ := hr1
  obtain ⟨hc2, hc2', b2, rfl, hlt2, hcell2⟩ := hr2
  have x0 := hcell1 0 _ rfl
  have x3 : w2.cell? ⟨b1, 3, none⟩ = some (.string ⟨#[97, 38, 98]⟩) := hcell1 3 _ rfl
  have y0 := hcell2 0 _ rfl
  have y3 : w2.cell? ⟨b2, 3, none⟩ = some (.string ⟨#[112, 120]⟩) := hcell2 3 _ rfl
  have y4 : w2.cell? ⟨b2, 4, none⟩ = some (.string ⟨#[49, 46, 53, 101, 51]⟩) := hcell2 4 _ rfl
  clear c2 cv2 hb2 hb12 hb10 hcell1 hcell2
  go_wp2
  go_ret
  exact ⟨rfl, hbw2⟩
end

section
open Go.RowKit Go.Shelf
set_option linter.unusedVariables false
set_option linter.unusedSimpArgs false

theorem flatT_at : ∀ (ts : List Tk) (i f : Nat) (t : Tk), ts[i]? = some t → f < 6 → (ts.flatMap tkCells)[i * 6 + f]? = (tkCells t)[f]?
  | [], i, f, t, h, _ => by simp at h
  | t0 :: ts, 0, f, t, h, hf => by
    simp at h; subst h
    rw [List.flatMap_cons, Nat.zero_mul, Nat.zero_add, List.getElem?_append_left (by show f < 6; exact hf)]
  | t0 :: ts, i + 1, f, t, h, hf => by
    rw [List.flatMap_cons, List.getElem?_append_right (by show 6 ≤ _; omega)]
    have e : (i + 1) * 6 + f - (tkCells t0).length = i * 6 + f := by show (i + 1) * 6 + f - 6 = _; omega
    rw [e]
    exact flatT_at ts i f t (by simpa using h) hf

/-- Tokens stand one behind the other, each has a character, the last one is the end. -/
def Chain : Nat → List Tk → Prop
  | _, [] => False
  | a, [t] => t.kind = 0 ∧ a ≤ t.frm
  | a, t :: u :: ts => t.kind ≠ 0 ∧ a ≤ t.frm ∧ t.frm < t.to ∧ Chain t.to (u :: ts)
theorem chain_all (l : List Int) : ∀ (f j : Nat) (acc : List Tk), l.length < j + f → j ≤ l.length → ∃ ts, allGo f l j acc = acc ++ ts ∧ Chain j ts
  | 0, j, acc, h, hj => by omega
  | f + 1, j, acc, h, hj => by
    rw [allGo]
    rcases nextF_bd hj with ⟨h1, h2⟩ | ⟨h1, h2, h3, h4⟩
    · rw [h1, if_pos rfl]
      exact ⟨_, rfl, rfl, hj⟩
    · have hb := (behindF_le hj).1
      have htk := tokAt_bd h1
      by_cases hk : (nextF l j).kind = 0
      · rw [if_pos hk]; exact ⟨_, rfl, hk, by rw [h2]; exact hb⟩
      · rw [if_neg hk]
        obtain ⟨ts, e, hc⟩ := chain_all l f (nextF l j).to (acc ++ [nextF l j]) (by omega) h4
        refine ⟨nextF l j :: ts, by rw [e, List.append_assoc]; rfl, ?_⟩
        match ts, hc with
        | t :: ts, hc => exact ⟨hk, by rw [h2]; exact hb, by rw [h2]; have := htk.2.1; unfold nextF; omega, hc⟩
/-- Where the token ahead ends. -/
def endAt (a : Nat) : List Tk → Nat → Nat
  | _, 0 => a
  | [], _ + 1 => a
  | t :: ts, k + 1 => endAt t.to ts k
theorem endAt_succ : ∀ (ts : List Tk) (a k : Nat) (t : Tk), ts[k]? = some t → endAt a ts (k + 1) = t.to
  | [], a, k, t, h => by simp at h
  | u :: ts, a, 0, t, h => by simp at h; subst h; cases ts <;> rfl
  | u :: ts, a, k + 1, t, h => by
    show endAt u.to ts (k + 1) = t.to
    exact endAt_succ ts u.to k t (by simpa using h)
theorem chain_at : ∀ (ts : List Tk) (a k : Nat) (t : Tk), Chain a ts → ts[k]? = some t → endAt a ts k ≤ t.frm ∧ (k + 1 = ts.length ∧ t.kind = 0 ∨ k + 1 < ts.length ∧ t.kind ≠ 0 ∧ t.frm < t.to)
  | [], a, k, t, h, _ => h.elim
  | [u], a, 0, t, h, hk => by simp at hk; subst hk; exact ⟨h.2, .inl ⟨rfl, h.1⟩⟩
  | [u], a, k + 1, t, h, hk => by simp at hk
  | u :: v :: ts, a, 0, t, h, hk => by simp at hk; subst hk; exact ⟨h.2.1, .inr ⟨by simp, h.1, h.2.2.1⟩⟩
  | u :: v :: ts, a, k + 1, t, h, hk => by
    have := chain_at (v :: ts) u.to k t h.2.2.2 (by simpa using hk)
    refine ⟨this.1, ?_⟩
    rcases this.2 with ⟨h1, h2⟩ | ⟨h1, h2⟩
    · exact .inl ⟨by rw [List.length_cons, ← h1], h2⟩
    · exact .inr ⟨by rw [List.length_cons]; omega, h2⟩
theorem chain_toks (zs : List Int) : Chain 0 (toksF zs) := by
  obtain ⟨ts, e, hc⟩ := chain_all (prepF (charsF zs)) ((prepF (charsF zs)).length + 1) 0 [] (by omega) (Nat.zero_le _)
  unfold toksF allF
  rw [e]; exact hc
theorem allGo_len (l : List Int) : ∀ (f j : Nat) (acc : List Tk), (allGo f l j acc).length ≤ acc.length + f
  | 0, j, acc => Nat.le_refl _
  | f + 1, j, acc => by
    rw [allGo]
    split
    · rw [List.length_append]; show acc.length + 1 ≤ _; omega
    · have := allGo_len l f (nextF l j).to (acc ++ [nextF l j])
      rw [List.length_append] at this
      have h1 : ([nextF l j] : List Tk).length = 1 := rfl
      omega
theorem toks_len (zs : List Int) : (toksF zs).length ≤ zs.length + 1 := by
  have h1 := allGo_len (prepF (charsF zs)) ((prepF (charsF zs)).length + 1) 0 []
  have h2 : (prepF (charsF zs)).length ≤ (charsF zs).length := prepTo_len _ _
  have h3 := chars_len zs
  unfold toksF allF
  have h4 : ([] : List Tk).length = 0 := rfl
  omega

theorem ReadsT.cellAt {w : World} {a : Option Addr} {cap : Nat} {ts : List Tk} (h : ReadsT w a cap ts) : ∃ b, a = some ⟨b, 0, none⟩ ∧ b < w.heap.size ∧ ∀ (k f : Nat) (t : Tk) (v : Value), ts[k]? = some t → f < 6 → (tkCells t)[f]? = some v → w.cell? ⟨b, k * 6 + f, none⟩ = some v := by
  obtain ⟨_, _, b, rfl, hb, hc⟩ := h
  exact ⟨b, rfl, hb, fun k f t v hk hf hv => hc _ _ ((flatT_at ts k f t hk hf).trans hv)⟩

set_option maxRecDepth 100000 in
set_option maxHeartbeats 4000000 in
theorem rsameT_any (a a' : Option Addr) (n c c' : Nat) (ts : List Tk) (w : World) (hn : ts.length = n) (hx : ReadsT w a c ts) (hy : ReadsT w a' c' ts) (hsm : n ≤ 100000) :
    Calls Tryz.prog 9 #[.slice a n c, .slice a' n c'] w (Told (.bool true) w) := by
  have n0 : ((n : Int) != (n : Int)) = false := by simp
  obtain ⟨hc1, hc2, _⟩ := id hx
  obtain ⟨hd1, hd2, _⟩ := id hy
  rw [hn] at hc1 hd1
  unfold maxLen at hc2 hd2
  have HX := Lib.hid hx
  have HY := Lib.hid hy
  have HN := Lib.hid hn
  clear hx hy hn
  go_enter Tryz.func9, Tryz.ntmps9
  go_wp2_with fail
  go_loopw [5] (fun i wr => ∃ k : Nat, i = .int .i64 k ∧ k ≤ n ∧ Below w.heap.size w wr) (fun i _ => n - (intOf i).toNat)
  case atStart => exact ⟨0, rfl, by omega, Below.refl _ _⟩
  case round =>
    obtain ⟨k, rfl, hk, hbl⟩ := hrel
    by_cases hlt : k < n
    · have hlt' : (k : Int) < (n : Int) := by omega
      obtain ⟨t, ht⟩ : ∃ t, ts[k]? = some t := ⟨_, List.getElem?_eq_getElem (by rw [HN.out]; exact hlt)⟩
      obtain ⟨b1, rfl, hb1, hcell1⟩ := (HX.out.later hbl).cellAt
      obtain ⟨b2, rfl, hb2, hcell2⟩ := (HY.out.later hbl).cellAt
      have x0 : wr.cell? ⟨b1, k * 6, none⟩ = some (.int .i64 t.kind) := hcell1 k 0 t _ ht (by decide) rfl
      have x1 := hcell1 k 1 t _ ht (by decide) rfl
      have x2 := hcell1 k 2 t _ ht (by decide) rfl
      have x3 := hcell1 k 3 t _ ht (by decide) rfl
      have x4 := hcell1 k 4 t _ ht (by decide) rfl
      have x5 := hcell1 k 5 t _ ht (by decide) rfl
      have y0 : wr.cell? ⟨b2, k * 6, none⟩ = some (.int .i64 t.kind) := hcell2 k 0 t _ ht (by decide) rfl
      have y1 := hcell2 k 1 t _ ht (by decide) rfl
      have y2 := hcell2 k 2 t _ ht (by decide) rfl
      have y3 := hcell2 k 3 t _ ht (by decide) rfl
      have y4 := hcell2 k 4 t _ ht (by decide) rfl
      have y5 := hcell2 k 5 t _ ht (by decide) rfl
      obtain ⟨kd, fr, to_, tx, nm, wh⟩ := t
      have HBL := Lib.hid hbl
      clear hcell1 hcell2 ht hbl
      generalize strOfNums tx = T at *
      generalize strOfNums nm = M at *
      have qT : (T.toList == T.toList) = true := beq_self_eq_true _
      have qM : (M.toList == M.toList) = true := beq_self_eq_true _
      go_wp2
      go_region
      go_wp2
      go_roundw
      case rel => exact ⟨k + 1, by go_num, by omega, HBL.out.drew⟩
      case measure => simp [intOf]; omega
    · have hlt' : ¬ (k : Int) < (n : Int) := by omega
      go_wp2
      go_ret
      exact ⟨rfl, hbl⟩

set_option maxRecDepth 100000 in
set_option maxHeartbeats 8000000 in
theorem lawTokenReads_any (a : Option Addr) (c n : Nat) (zs : List Int) (w : World) (hT : TkW w) (hn : zs.length = n) (hr : Reads w .u8 a c zs) (hz : U8 zs) :
    Calls Tryz.prog 3 #[.slice a n c] w (Told (.bool true) w) := by
  subst hn
  have cS := speaks3_any w hT
  by_cases hbig : 3000 < zs.length
  · have q : (3000 : Int) < (zs.length : Int) := by omega
    clear hT hr hz
    go_enter Tryz.func3, Tryz.ntmps3
    go_wp2_with fail
    refine cS.mono ?_
    rintro e w1 ⟨rfl, hb1⟩
    go_wp2
    go_ret
    exact ⟨rfl, hb1⟩
  have q : ¬ (3000 : Int) < (zs.length : Int) := by omega
  have hcl := chars_len zs
  have hci := chars_i64 zs hz
  have hpl : (prepF (charsF zs)).length ≤ (charsF zs).length := prepTo_len _ _
  have hpp := prep_pre (charsF zs)
  have hch := chain_toks zs
  have htl := toks_len zs
  have k1 := fun w' (hb : Below w.heap.size w w') => tread_any a zs.length c zs w' rfl (hr.later hb) hz (by omega) (hT.later hb)
  have k2 := fun w' (hb : Below w.heap.size w w') => rread_any a zs.length c zs w' rfl (hr.later hb) hz (by omega)
  have k4 := fun w' (hb : Below w.heap.size w w') => refChars_any a c zs w' (hr.later hb) hz (by omega)
  have k5 := fun a5 d5 w' (h : Reads w' .i64 a5 d5 (charsF zs)) => refPrepare_any a5 d5 (charsF zs).length (charsF zs) w' rfl h hci (by omega)
  have k6 := fun a6 d6 w' (h : Reads w' .i64 a6 d6 (prepF (charsF zs))) (hT : TkW w') => all_any (a := a6) (cap := d6) (⟨h, rfl, hpp, by omega⟩ : Src w' a6 (prepF (charsF zs)).length d6 (prepF (charsF zs))) hT
  unfold CharsPost at k4
  unfold NewPost at k5
  rw [show allF (prepF (charsF zs)) = toksF zs from rfl] at k6
  have K4 := Lib.hid k4
  have K5 := Lib.hid k5
  have K6 := Lib.hid k6
  have HT := Lib.hid hT
  clear k4 k5 k6 hcl hci hpl hpp hT hr
  generalize toksF zs = ts at *
  have hml : ts.length ≤ 3001 := by omega
  have HCH := Lib.hid hch
  clear hch htl hz
  go_enter Tryz.func3, Tryz.ntmps3
  go_wp2_with fail
  refine cS.mono ?_
  rintro e w1 ⟨rfl, hb1⟩
  go_wp2_with fail
  refine (k1 w1 hb1).mono ?_
  rintro e w2 ⟨a2, d2, rfl, hr2, hb2⟩
  have hb12 := below_trans hb1 hb2
  go_wp2_with fail
  refine (k2 w2 hb12).mono ?_
  rintro e w3 ⟨a3, d3, rfl, hr3, hb3⟩
  have hb13 := below_trans hb12 hb3
  have hr23 := hr2.later hb3
  go_wp2_with fail
  refine (rsameT_any a2 a3 ts.length d2 d3 ts w3 rfl hr23 hr3 (by omega)).mono ?_
  rintro e w4 ⟨rfl, hb4⟩
  have hb14 := below_trans hb13 hb4
  have hr24 := Lib.hid (hr23.later hb4)
  clear k1 k2 hr2 hr3 hr23 cS hb2 hb3 hb4 hb1 hb12 hb13
  have HB14 := Lib.hid hb14
  have k4 := K4.out w4 hb14
  clear hb14
  go_wp2_with (first
    | (go_at_call 13; (with_reducible refine k4.mono ?_); rintro e w5 ⟨a5, d5, rfl, hr5, hb5, _⟩; have k5 := K5.out a5 d5 w5 hr5; clear hr5)
    | (go_at_call 12; (with_reducible refine k5.mono ?_); rintro e w6 ⟨a6, d6, rfl, hr6, hb6, _⟩; have k6 := K6.out a6 d6 w6 hr6 (HT.out.later (below_trans (below_trans HB14.out hb5) hb6)); clear hr6)
    | (go_at_call 11; (with_reducible refine k6.mono ?_); rintro e w7 ⟨a7, d7, rfl, hr7, hb7⟩; have k7 := rsameT_any a2 a7 ts.length d2 d7 ts w7 rfl (hr24.out.later (below_trans (below_trans hb5 hb6) hb7)) hr7 (by omega); clear hr7)
    | (go_at_call 9; (with_reducible refine k7.mono ?_); rintro e w8 ⟨rfl, hb8⟩))
  have hb48 := below_trans (below_trans (below_trans hb5 hb6) hb7) hb8
  have hb18 := below_trans HB14.out hb48
  have hr28 := Lib.hid (hr24.out.later hb48)
  clear k4 k5 k6 k7 hb5 hb6 hb7 hb8 hr24 hb48 K4 K5 K6 HB14 HT
  have HB18 := Lib.hid hb18
  clear hb18
  go_loopw [4, 5, 6, 7, 31] (fun av _ _ _ iv wr => ∃ k : Nat, iv = .int .i64 k ∧ k ≤ ts.length ∧ av = .int .i64 (endAt 0 ts k : Nat) ∧ Hid (Below w8.heap.size w8 wr)) (fun _ _ _ _ iv _ => ts.length - (intOf iv).toNat)
  case atStart => exact ⟨0, rfl, by omega, rfl, Lib.hid (Below.refl _ _)⟩
  case round =>
    obtain ⟨k, rfl, hk, rfl, hbl⟩ := hrel
    by_cases hlt : k < ts.length
    · have hlt' : (k : Int) < (ts.length : Int) := by omega
      obtain ⟨t, ht⟩ : ∃ t, ts[k]? = some t := ⟨_, List.getElem?_eq_getElem hlt⟩
      obtain ⟨g1, g2⟩ := chain_at ts 0 k t HCH.out ht
      have HS := Lib.hid (endAt_succ ts 0 k t ht)
      obtain ⟨hq1, hq2, _⟩ := id hr28.out
      unfold maxLen at hq2
      obtain ⟨b1, rfl, hb1, hcell1⟩ := (hr28.out.later hbl.out).cellAt
      have x0 : wr.cell? ⟨b1, k * 6, none⟩ = some (.int .i64 t.kind) := hcell1 k 0 t _ ht (by decide) rfl
      have x1 := hcell1 k 1 t _ ht (by decide) rfl
      have x2 := hcell1 k 2 t _ ht (by decide) rfl
      have x3 := hcell1 k 3 t _ ht (by decide) rfl
      have x4 := hcell1 k 4 t _ ht (by decide) rfl
      have x5 := hcell1 k 5 t _ ht (by decide) rfl
      obtain ⟨kd, fr, to_, tx, nm, wh⟩ := t
      generalize hE : endAt 0 ts k = ea at *
      clear hcell1 ht hE
      have hbn : Below w8.heap.size w8 (wr.alloc (.cells #[.int .i64 kd, .int .i64 fr, .int .i64 to_, .string (strOfNums tx), .string (strOfNums nm), .bool wh] 32)) := hbl.out.alloc hbl.out.size _
      have HBN := Lib.hid hbn
      clear hbn
      generalize strOfNums tx = T at *
      generalize strOfNums nm = M at *
      have g1' : ¬ ((fr : Int) < (ea : Int)) := by show ¬ ((fr : Int) < (ea : Int)); have : ea ≤ fr := g1; omega
      rcases g2 with ⟨h1, h2⟩ | ⟨h1, h2, h3⟩
      · have h2' : kd = 0 := h2
        subst h2'
        have e1 : ((k : Int) == (ts.length : Int) - 1) = true := beq_iff_eq.2 (by omega)
        clear h2 g1
        go_wp2
        go_roundw
        case rel => exact ⟨k + 1, by go_num, by omega, by rw [HS.out], HBN⟩
        case measure => simp [intOf]; omega
      · have h2' : (kd == 0) = false := beq_eq_false_iff_ne.2 h2
        have h3' : ¬ ((to_ : Int) ≤ (fr : Int)) := by have : fr < to_ := h3; omega
        have e1 : ((k : Int) == (ts.length : Int) - 1) = false := beq_eq_false_iff_ne.2 (by omega)
        clear h2 g1 h3
        go_wp2
        go_roundw
        case rel => exact ⟨k + 1, by go_num, by omega, by rw [HS.out], HBN⟩
        case measure => simp [intOf]; omega
    · have hlt' : ¬ (k : Int) < (ts.length : Int) := by omega
      have hpos : 0 < ts.length := by
        have := HCH.out
        match ts, this with
        | t :: ts, _ => simp
      have hp' : (0 : Int) < (ts.length : Int) := by omega
      go_wp2
      go_ret
      exact ⟨rfl, below_trans HB18.out hbl.out⟩
end
end Go.Proofs.YtickcbmfboajiaaGreatDoor
