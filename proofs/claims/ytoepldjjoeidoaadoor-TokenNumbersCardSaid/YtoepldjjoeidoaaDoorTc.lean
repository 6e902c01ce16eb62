/- TokenComments: the law's walk. -/
import Derived.Test.YtoepldjjoeidoaaDoorTm1
import Derived.Test.YtoepldjjoeidoaaDoorTl1
namespace Go.Proofs.YtoepldjjoeidoaaDoor
open Go.RowKit Go.Shelf
set_option linter.unusedVariables false
set_option linter.unusedSimpArgs false

/-- A text's bytes in new memory. -/
theorem conv_reads (s : ByteArray) (w : World) (hs : s.size ≤ 1000000) : ∃ cap w', (convert 9 24 (.string s)).run Tryd.prog w = .ok (.slice (some ⟨w.heap.size, 0, none⟩) s.size cap) w' ∧ Below w.heap.size w w' ∧ Reads w' .u8 (some ⟨w.heap.size, 0, none⟩) cap (ascI s) ∧ (ascI s).length = s.size := by
  have hl : (ascI s).length = s.size := by unfold ascI; rw [List.length_map, strB_len]
  have hh := heap_alloc_new w.drew (.cells (bytesRow s (grownCap w s.size 0 5)) 5 ((bytesRow s (grownCap w s.size 0 5)).size, (bytesRow s (grownCap w s.size 0 5)).size + 1))
  refine ⟨_, _, run_bytes_of_string w 9 24 5 s Tryd.underlying9 Tryd.underlying24 Tryd.underlying5, ((Below.refl _ w).drew).alloc (Nat.le_refl _) _, ⟨by rw [hl]; exact grownCap_ge _ _ _ _, grownCap_le_maxLen _ _ _ _ (by unfold maxLen; omega), .inr ⟨_, _, rfl, by simp, fun j hj => ?_⟩⟩, hl⟩
  rw [hl] at hj
  rw [Nat.zero_add]
  have hjs : j < s.data.size := hj
  have hv : (bytesRow s (grownCap w s.size 0 5))[j]? = some (Value.int .u8 ((ascI s)[j]?.getD 0)) := by
    unfold bytesRow
    rw [Array.getElem?_append_left (by simpa using hjs), Array.getElem?_map, Array.getElem?_eq_getElem hjs]
    have : (ascI s)[j]? = some (((s.data[j]'hjs).toNat : Nat) : Int) := by
      unfold ascI
      rw [List.getElem?_map]
      have : (strB s)[j]? = some (s.data[j]'hjs) := by unfold strB; rw [List.getElem?_eq_getElem (by simpa using hjs)]; simp
      rw [this]; rfl
    rw [this]; rfl
  show World.cell? _ ⟨w.drew.heap.size, j, none⟩ = _
  simp only [World.cell?, hh]
  simpa using hv
theorem flat_at : ∀ (ts : List Tk) (i f : Nat) (t : Tk), ts[i]? = some t → f < 6 → (ts.flatMap tkCells)[i * 6 + f]? = (tkCells t)[f]?
  | [], i, f, t, h, _ => by simp at h
  | t0 :: ts, 0, f, t, h, hf => by
    simp at h; subst h
    rw [List.flatMap_cons, Nat.zero_mul, Nat.zero_add, List.getElem?_append_left (by show f < 6; exact hf)]
  | t0 :: ts, i + 1, f, t, h, hf => by
    rw [List.flatMap_cons, List.getElem?_append_right (by show 6 ≤ _; omega)]
    have e : (i + 1) * 6 + f - (tkCells t0).length = i * 6 + f := by show (i + 1) * 6 + f - 6 = _; omega
    rw [e]
    exact flat_at ts i f t (by simpa using h) hf
theorem ascI_app (a b : ByteArray) : ascI (a ++ b) = ascI a ++ ascI b := by
  unfold ascI
  have : strB (a ++ b) = strB a ++ strB b := by unfold strB; simp
  rw [this, List.map_append]
def sgL : List Int := [40, 41, 44, 58, 59, 123, 125, 61, 126, 124, 33, 36]
def sgS (k : Nat) : ByteArray := ⟨#[UInt8.ofNat (sgL.getD k 0).toNat]⟩
theorem sgS_at (k : Nat) (h : k < 12) : ascI (sgS k) = [sgL.getD k 0] ∧ sgB (sgL.getD k 0) = true ∧ (sgS k).size = 1 := by
  have : ∀ k, k < 12 → ascI (sgS k) = [sgL.getD k 0] ∧ sgB (sgL.getD k 0) = true ∧ (sgS k).size = 1 := by decide +kernel
  exact this k h
def sgArr : Array Value := #[.string ⟨#[40]⟩, .string ⟨#[41]⟩, .string ⟨#[44]⟩, .string ⟨#[58]⟩, .string ⟨#[59]⟩, .string ⟨#[123]⟩, .string ⟨#[125]⟩, .string ⟨#[61]⟩, .string ⟨#[126]⟩, .string ⟨#[124]⟩, .string ⟨#[33]⟩, .string ⟨#[36]⟩]
theorem sgArr_at (k : Nat) (h : k < 12) : sgArr[k]? = some (.string (sgS k)) := by
  have : k = 0 ∨ k = 1 ∨ k = 2 ∨ k = 3 ∨ k = 4 ∨ k = 5 ∨ k = 6 ∨ k = 7 ∨ k = 8 ∨ k = 9 ∨ k = 10 ∨ k = 11 := by omega
  rcases this with rfl | rfl | rfl | rfl | rfl | rfl | rfl | rfl | rfl | rfl | rfl | rfl <;> rfl
/-- The sign that a number stands for. -/
def sgOf (x : Int) : Int := sgL.getD (x % 12).toNat 0

theorem cat_size {a b : ByteArray} : (a ++ b).size = a.size + b.size := ByteArray.size_append
/-- How the two texts grow. -/
theorem grow_signs {A B I : ByteArray} {cs : List Int} {k : Nat} (hk : k < 12) (hA : ascI A = cs) (hB : ascI B = cs.flatMap (fun c => c :: comF (ascI I))) :
    ascI (A ++ sgS k) = cs ++ [sgL.getD k 0] ∧ ascI (B ++ (sgS k ++ ⟨#[47, 42]⟩ ++ I ++ ⟨#[42, 47]⟩)) = (cs ++ [sgL.getD k 0]).flatMap (fun c => c :: comF (ascI I)) := by
  have hs := (sgS_at k hk).1
  refine ⟨by rw [ascI_app, hA, hs], ?_⟩
  rw [ascI_app, ascI_app, ascI_app, ascI_app, hB, hs, List.flatMap_append]
  have e1 : ascI ⟨#[47, 42]⟩ = [47, 42] := by decide
  have e2 : ascI ⟨#[42, 47]⟩ = [42, 47] := by decide
  rw [e1, e2]
  unfold comF
  simp

theorem ascI_u8 (s : ByteArray) : U8 (ascI s) := fun z hz => by
  unfold ascI at hz
  obtain ⟨b, _, rfl⟩ := List.mem_map.1 hz
  have := b.toNat_lt
  omega
theorem sgOf_ok {xs : List Int} (h : U8 xs) : ∀ c ∈ xs.map sgOf, sgB c = true := fun c hc => by
  obtain ⟨x, hx, rfl⟩ := List.mem_map.1 hc
  have := h x hx
  exact (sgS_at (x % 12).toNat (by omega)).2.1
theorem kt_at {X Y : List Tk} {L : List (Int × List Int)} (hX : X.map kt = L) (hY : Y.map kt = L) {i : Nat} (hi : i < L.length) :
    ∃ s t, X[i]? = some s ∧ Y[i]? = some t ∧ s.kind = t.kind ∧ s.text = t.text := by
  have h1 : i < X.length := by rw [← hX, List.length_map] at hi; exact hi
  have h2 : i < Y.length := by rw [← hY, List.length_map] at hi; exact hi
  refine ⟨_, _, List.getElem?_eq_getElem h1, List.getElem?_eq_getElem h2, ?_⟩
  have e : (X.map kt)[i]? = (Y.map kt)[i]? := by rw [hX, hY]
  rw [List.getElem?_map, List.getElem?_map, List.getElem?_eq_getElem h1, List.getElem?_eq_getElem h2] at e
  simp only [Option.map_some, Option.some.injEq] at e
  unfold kt at e
  exact ⟨(Prod.mk.inj e).1, (Prod.mk.inj e).2⟩

set_option maxRecDepth 100000 in
set_option maxHeartbeats 4000000 in
theorem lawTokComments_any (a : Option Addr) (cap n : Nat) (xs : List Int) (I : ByteArray) (w : World) (hT : TkW w) (hn : xs.length = n) (hr : Reads w .u8 a cap xs) (hz : U8 xs) (hI : I.size ≤ maxLen) :
    Calls Tryd.prog 5 #[.slice a n cap, .string I] w (Told (.bool true) w) := by
  have cS := speaks3_any w hT
  have hI2 : I.size ≤ 9223372036854775807 := hI
  have hcap : n ≤ cap ∧ cap ≤ 9223372036854775807 := ⟨by have := hr.1; omega, hr.2.1⟩
  obtain ⟨hcap1, hcap2⟩ := hcap
  have HT := Lib.hid hT
  have HR := Lib.hid hr
  have HN := Lib.hid hn
  have HZ := Lib.hid hz
  clear hT hr hn hz
  go_enter Tryd.func5, Tryd.ntmps5
  go_wp2_with fail
  refine cS.mono ?_
  rintro e w1 ⟨rfl, hb1⟩
  clear cS
  by_cases h1 : 200 < n
  · have q : decide ((200 : Int) < (n : Int)) = true := decide_eq_true (by omega)
    clear h1
    go_wp2
    go_ret
    exact ⟨rfl, hb1⟩
  have q : decide ((200 : Int) < (n : Int)) = false := decide_eq_false (by omega)
  by_cases h2 : 200 < I.size
  · have q2 : decide ((200 : Int) < (I.size : Int)) = true := decide_eq_true (by omega)
    clear h1 h2
    go_wp2
    go_ret
    exact ⟨rfl, hb1⟩
  have q2 : decide ((200 : Int) < (I.size : Int)) = false := decide_eq_false (by omega)
  have hn200 : n ≤ 200 := by omega
  have hI200 : I.size ≤ 200 := by omega
  have HB1 := Lib.hid hb1
  clear h1 h2 hb1
  go_wp2_with fail
  go_loopw [5, 6] (fun i _ wr => ∃ k : Nat, k ≤ I.size ∧ i = .int .i64 k ∧ Hid (∀ c ∈ (ascI I).take k, 97 ≤ c ∧ c ≤ 122) ∧ wr = w1) (fun i _ _ => I.size - (intOf i).toNat)
  case atStart => exact ⟨0, Nat.zero_le _, rfl, Lib.hid (by simp), by first | rfl | trivial⟩
  case round =>
    obtain ⟨k, hk, rfl, hL, rfl⟩ := hrel
    by_cases hlt : k < I.size
    · have hlt' : (k : Int) < (I.size : Int) := by omega
      have hb8 := (I[k]'hlt).toNat_lt
      by_cases hc : 97 ≤ (I[k]'hlt).toNat ∧ (I[k]'hlt).toNat ≤ 122
      · have m1 : decide ((((I[k]'hlt).toNat : Nat) : Int) < 97) = false := decide_eq_false (by omega)
        have m2 : decide ((122 : Int) < (((I[k]'hlt).toNat : Nat) : Int)) = false := decide_eq_false (by omega)
        have HL2 := Lib.hid (show ∀ c ∈ (ascI I).take (k + 1), 97 ≤ c ∧ c ≤ 122 from by
          have hd := ascI_at I k hlt
          intro c hcm
          rw [List.take_add_one] at hcm
          rcases List.mem_append.1 hcm with h | h
          · exact hL.out c h
          · have : (ascI I)[k]? = some (((I[k]'hlt).toNat : Nat) : Int) := by rw [← List.head?_drop, hd]; rfl
            rw [this] at h
            simp at h
            subst h; omega)
        clear hc hL
        go_wp2
        go_roundw
        case rel => exact ⟨k + 1, by omega, by go_num, HL2, by first | rfl | trivial⟩
        case measure => simp [intOf]; omega
      · rcases (show (I[k]'hlt).toNat < 97 ∨ (97 ≤ (I[k]'hlt).toNat ∧ 122 < (I[k]'hlt).toNat) by omega) with h | ⟨h, h'⟩
        · have m1 : decide ((((I[k]'hlt).toNat : Nat) : Int) < 97) = true := decide_eq_true (by omega)
          clear hc h hL
          go_wp2
          go_ret
          exact ⟨rfl, HB1.out⟩
        · have m1 : decide ((((I[k]'hlt).toNat : Nat) : Int) < 97) = false := decide_eq_false (by omega)
          have m2 : decide ((122 : Int) < (((I[k]'hlt).toNat : Nat) : Int)) = true := decide_eq_true (by omega)
          clear hc h h' hL
          go_wp2
          go_ret
          exact ⟨rfl, HB1.out⟩
    · have hlt' : ¬ (k : Int) < (I.size : Int) := by omega
      have HLI := Lib.hid (show ∀ c ∈ ascI I, 97 ≤ c ∧ c ≤ 122 from by
        have := hL.out
        have hl : (ascI I).length = I.size := by unfold ascI; rw [List.length_map, strB_len]
        rwa [List.take_of_length_le (by omega)] at this)
      clear hL hlt hk
      go_wp2_with fail
      go_loopw [7, 8, 10, 11, 42] (fun av bv _ _ i wr => ∃ (k : Nat) (A B : ByteArray), k ≤ n ∧ i = .int .i64 k ∧ av = .string A ∧ bv = .string B ∧ Hid (ascI A = (xs.take k).map sgOf) ∧ Hid (ascI B = ((xs.take k).map sgOf).flatMap (fun c => c :: comF (ascI I))) ∧ A.size ≤ k ∧ B.size ≤ k * 205 ∧ Below w.heap.size w wr) (fun _ _ _ _ i _ => n - (intOf i).toNat)
      case atStart => exact ⟨0, ⟨#[]⟩, ⟨#[]⟩, Nat.zero_le _, rfl, rfl, rfl, Lib.hid rfl, Lib.hid rfl, by decide, by decide, HB1.out⟩
      case round =>
        obtain ⟨k, A, B, hk, rfl, rfl, rfl, hA, hB, hAs, hBs, hbl⟩ := hrel
        by_cases hlt : k < n
        · have hlt2 : (k : Int) < (n : Int) := by omega
          have hne : xs ≠ [] := fun h => by have := HN.out; rw [h] at this; simp at this; omega
          obtain ⟨b, off, rfl, hat⟩ := HR.out.2.2.resolve_left hne
          have hcw := hat.2 k (by rw [HN.out]; exact hlt)
          have hcell : wr.cell? ⟨b, off + k, none⟩ = some (.int .u8 (xs[k]?.getD 0)) := (hbl.cell (p := ⟨b, off + k, none⟩) (World.block_lt_of_cell? w _ hcw)).trans hcw
          have hx8 := HZ.out.at k
          have htk : (xs.take (k + 1)).map sgOf = (xs.take k).map sgOf ++ [sgOf (xs[k]?.getD 0)] := by
            rw [List.take_add_one, List.map_append]
            have : xs[k]? = some (xs[k]'(by rw [HN.out]; exact hlt)) := List.getElem?_eq_getElem _
            rw [this]; rfl
          have HTK := Lib.hid htk
          clear htk hat hcw hne
          generalize xs[k]?.getD 0 = x at *
          obtain ⟨hx0, hx1⟩ := hx8
          obtain ⟨m, hm, hm12⟩ : ∃ m : Nat, x % 12 = (m : Int) ∧ m < 12 := ⟨(x % 12).toNat, by omega, by omega⟩
          have hm12' : (m : Int) < 12 := by omega
          have hsg : sgOf x = sgL.getD m 0 := by unfold sgOf; rw [hm]; rfl
          have hgr := grow_signs (A := A) (B := B) (I := I) hm12 hA.out hB.out
          rw [← hsg, ← HTK.out] at hgr
          have hsz := (sgS_at m hm12).2.2
          have hsl : (wr.alloc (.cells sgArr 9)).cell? ⟨wr.heap.size, m, none⟩ = some (.string (sgS m)) := by
            simp only [World.cell?, heap_alloc_new]
            simpa using sgArr_at m hm12
          have HG := Lib.hid hgr
          have HBL := Lib.hid (hbl.alloc hbl.size (.cells sgArr 9))
          clear hgr hsg hA hB hbl
          generalize sgS m = S at *
          have z1 : (S ++ (⟨#[47, 42]⟩ : ByteArray)).size = 3 := by rw [cat_size, hsz]; rfl
          have z2 : (S ++ (⟨#[47, 42]⟩ : ByteArray) ++ I).size = 3 + I.size := by rw [cat_size, z1]
          have z3 : (S ++ (⟨#[47, 42]⟩ : ByteArray) ++ I ++ (⟨#[42, 47]⟩ : ByteArray)).size = 3 + I.size + 2 := by rw [cat_size, z2]; rfl
          have y1 : ¬ 9223372036854775807 < A.size + S.size := by omega
          have y2 : ¬ 9223372036854775807 < S.size + (⟨#[47, 42]⟩ : ByteArray).size := by have : (⟨#[47, 42]⟩ : ByteArray).size = 2 := rfl; omega
          have y3 : ¬ 9223372036854775807 < (S ++ (⟨#[47, 42]⟩ : ByteArray)).size + I.size := by omega
          have y4 : ¬ 9223372036854775807 < (S ++ (⟨#[47, 42]⟩ : ByteArray) ++ I).size + (⟨#[42, 47]⟩ : ByteArray).size := by have : (⟨#[42, 47]⟩ : ByteArray).size = 2 := rfl; omega
          have y5 : ¬ 9223372036854775807 < B.size + (S ++ (⟨#[47, 42]⟩ : ByteArray) ++ I ++ (⟨#[42, 47]⟩ : ByteArray)).size := by omega
          have HZS := Lib.hid (show (A ++ S).size ≤ k + 1 ∧ (B ++ (S ++ (⟨#[47, 42]⟩ : ByteArray) ++ I ++ (⟨#[42, 47]⟩ : ByteArray))).size ≤ (k + 1) * 205 from by rw [cat_size, cat_size, z3]; omega)
          unfold sgArr at hsl HBL
          clear z1 z2 z3
          go_wp2
          go_roundw
          case rel => exact ⟨k + 1, _, _, by omega, by go_num, rfl, rfl, Lib.hid HG.out.1, Lib.hid HG.out.2, HZS.out.1, HZS.out.2, HBL.out⟩
          case measure => simp [intOf]; omega
        · obtain rfl : k = n := by omega
          have hlt2 : ¬ (k : Int) < (k : Int) := by omega
          have hcs := hA.out
          have hcb := hB.out
          rw [List.take_of_length_le (by rw [HN.out]; exact Nat.le_refl _)] at hcs hcb
          obtain ⟨hX, hY⟩ := toks_signs (sgOf_ok HZ.out) HLI.out
          have hLl : ((xs.map sgOf).map ktF ++ [((0 : Int), ([] : List Int))]).length = k + 1 := by rw [List.length_append, List.length_map, List.length_map, HN.out]; rfl
          generalize (xs.map sgOf).map ktF ++ [((0 : Int), ([] : List Int))] = L at hX hY hLl
          rw [← hcs] at hX
          rw [← hcb] at hY
          have hXl : (toksF (ascI A)).length = k + 1 := by rw [← List.length_map (f := kt), hX]; exact hLl
          have hYl : (toksF (ascI B)).length = k + 1 := by rw [← List.length_map (f := kt), hY]; exact hLl
          have hA1 := ascI_u8 A
          have hB1 := ascI_u8 B
          obtain ⟨cap1, w2, hcv1, hb2, hr2, hl2⟩ := conv_reads A wr (by omega)
          have cR1 := tread_any _ A.size cap1 (ascI A) w2 hl2 hr2 hA1 (by omega) ((HT.out.later hbl).later hb2)
          have HCV := Lib.hid (fun W => conv_reads B W (by omega))
          generalize toksF (ascI A) = X at *
          generalize hY0 : toksF (ascI B) = Y at *
          have HY0 := Lib.hid hY0
          clear hY0
          have HL := Lib.hid (And.intro hX (And.intro hY hLl))
          have HBL := Lib.hid (below_trans hbl hb2)
          have HBB := Lib.hid hB1
          clear hX hY hLl hr2 hl2 hA1 hB1 hcs hcb hA hB hbl hb2 hlt
          go_wp2_with fail
          refine cR1.mono ?_
          rintro e w3 ⟨a3, d3, rfl, hr3, hb3⟩
          rw [hXl]
          obtain ⟨cap2, w4, hcv2, hb4, hr4, hl4⟩ := HCV.out w3
          have hbl4 := below_trans (below_trans HBL.out hb3) hb4
          have cR2 := tread_any _ B.size cap2 (ascI B) w4 hl4 hr4 HBB.out (by omega) (HT.out.later hbl4)
          rw [HY0.out] at cR2
          have HR3 := Lib.hid (hr3.later hb4)
          have HBL4 := Lib.hid hbl4
          clear cR1 hcv1 hr3 hb3 hb4 hr4 hl4 hbl4
          go_wp2_with fail
          refine cR2.mono ?_
          rintro e w5 ⟨a5, d5, rfl, hr5, hb5⟩
          rw [hYl]
          have HR35 := Lib.hid (HR3.out.later hb5)
          have HR55 := Lib.hid hr5
          have HB5 := Lib.hid (below_trans HBL4.out hb5)
          have hq1 : ((((k + 1 : Nat) : Int)) != (((k + 1 : Nat) : Int))) = false := by simp
          have hq2 : ((((k + 1 : Nat) : Int)) != ((k : Int) + 1)) = false := by simp
          clear cR2 hcv2 hr5 hb5 HR3
          go_wp2_with fail
          go_loopw [14, 83] (fun _ i wr => ∃ j : Nat, j ≤ k + 1 ∧ i = .int .i64 j ∧ Below w5.heap.size w5 wr) (fun _ i _ => k + 1 - (intOf i).toNat)
          case atStart => exact ⟨0, Nat.zero_le _, rfl, Below.refl _ _⟩
          case round =>
            obtain ⟨j, hj, rfl, hbl⟩ := hrel
            by_cases hlt : j < k + 1
            · have hlt3 : (j : Int) < ((k + 1 : Nat) : Int) := by omega
              have hlt4 : (j : Int) < (k : Int) + 1 := by omega
              obtain ⟨s, t, hs, ht, e1, e2⟩ := kt_at HL.out.1 HL.out.2.1 (i := j) (by rw [HL.out.2.2]; exact hlt)
              obtain ⟨_, _, b3, rfl, hb3, hc3⟩ := HR35.out.later hbl
              obtain ⟨_, _, b5, rfl, hb5, hc5⟩ := HR55.out.later hbl
              have x0 : wr.cell? ⟨b3, j * 6, none⟩ = some (.int .i64 s.kind) := hc3 (j * 6) _ ((flat_at X j 0 s hs (by decide)).trans rfl)
              have x3 : wr.cell? ⟨b3, j * 6 + 3, none⟩ = some (.string (strOfNums s.text)) := hc3 (j * 6 + 3) _ ((flat_at X j 3 s hs (by decide)).trans rfl)
              have y0 : wr.cell? ⟨b5, j * 6, none⟩ = some (.int .i64 s.kind) := by rw [e1]; exact hc5 (j * 6) _ ((flat_at Y j 0 t ht (by decide)).trans rfl)
              have y3 : wr.cell? ⟨b5, j * 6 + 3, none⟩ = some (.string (strOfNums s.text)) := by rw [e2]; exact hc5 (j * 6 + 3) _ ((flat_at Y j 3 t ht (by decide)).trans rfl)
              generalize strOfNums s.text = T at *
              generalize s.kind = kd at *
              have hqk : (kd != kd) = false := by simp
              have hqT : (T.toList == T.toList) = true := beq_self_eq_true _
              clear hs ht e1 e2 hc3 hc5 hb3 hb5
              go_wp2
              go_region
              go_wp2
              go_roundw
              case rel => exact ⟨j + 1, by omega, by go_num, hbl.drew⟩
              case measure => simp [intOf]; omega
            · have hlt3 : ¬ (j : Int) < ((k + 1 : Nat) : Int) := by omega
              have hlt4 : ¬ (j : Int) < (k : Int) + 1 := by omega
              go_wp2
              go_ret
              exact ⟨rfl, below_trans HB5.out hbl⟩
end Go.Proofs.YtoepldjjoeidoaaDoor
