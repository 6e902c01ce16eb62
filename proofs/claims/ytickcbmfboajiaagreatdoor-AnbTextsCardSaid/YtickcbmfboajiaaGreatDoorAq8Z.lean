/- An An+B of any bytes: the document's Parse, and the law: walks. -/
import Derived.Test.YtickcbmfboajiaaGreatDoorFQ
import Derived.Test.YtickcbmfboajiaaGreatDoorFS
import Derived.Test.YtickcbmfboajiaaGreatDoorAq7Z
import Derived.Test.YtickcbmfboajiaaGreatDoorFT
namespace Go.Proofs.YtickcbmfboajiaaGreatDoor
open Go.RowKit Go.Shelf
set_option linter.unusedVariables false
set_option linter.unusedSimpArgs false

theorem rfind_any (ts : List Tk) (n cap : Nat) (a : Option Addr) (w : World) (h : ReadsT w a cap ts) (hn : ts.length = n) (hsm : n ≤ 1000000) (hS : ShortT ts) (hG : ∀ k, GoodT (tkAt ts k)) :
    Calls Tryz.prog 33 #[.slice a n cap] w (Told (rowV (cleanR (findP ts))) w) := by
  by_cases hq : blF ts 0 < n
  · by_cases h1 : (tkAt ts (blF ts 0)).kind = 1
    · exact rfind_ident ts n cap a w h hn hsm hS hG hq h1
    · exact rfind_other ts n cap a w h hn hsm hS hG hq h1
  · exact rfind_end ts n cap a w h hn hsm hS hG (by omega)

set_option maxRecDepth 100000 in
set_option maxHeartbeats 4000000 in
theorem rparse_any (ts : List Tk) (n cap : Nat) (a : Option Addr) (w : World) (h : ReadsT w a cap ts) (hn : ts.length = n) (hsm : n ≤ 1000000) (hS : ShortT ts) (hG : ∀ k, GoodT (tkAt ts k)) :
    Calls Tryz.prog 16 #[.slice a n cap] w (Told (.tuple #[.int .i64 (parseK (findP ts)).1.1, .int .i64 (parseK (findP ts)).1.2.1, .int .i64 ((parseK (findP ts)).1.2.2 : Nat), .int .i64 (parseK (findP ts)).2]) w) := by
  have fF := rfind_any ts n cap a w h hn hsm hS hG
  have hN := fun hb => findP_num (ts := ts) hS hb
  clear h hS hG
  generalize findP ts = F at *
  obtain ⟨⟨A, B, u⟩, ok⟩ := F
  rcases ok with _ | _
  · have hc : cleanR ((A, B, u), false) = ((⟨#[]⟩, ⟨#[]⟩, 0), false) := cleanR_no rfl
    have hK : parseK ((A, B, u), false) = ((0, 0, 0), 10) := by unfold parseK; rw [if_pos rfl]
    rw [hc] at fF
    rw [hK]
    unfold rowV at fF
    clear hN hK hc
    go_enter Tryz.func16, Tryz.ntmps16
    go_wp2_with fail
    refine fF.mono ?_
    rintro e w1 ⟨rfl, hb1⟩
    have hbA := hb1.alloc hb1.size (.cells [.string ⟨#[]⟩, .string ⟨#[]⟩, .int .i64 0].toArray 61)
    go_wp2
    refine bodyPost_ret (v := .tuple #[.int .i64 0, .int .i64 0, .int .i64 0, .int .i64 10]) (by simp [results, Tryz.results16, go_sem]) rfl ⟨rfl, hbA⟩
  have hc : cleanR ((A, B, u), true) = ((A, B, u), true) := by unfold cleanR; rw [if_pos rfl]
  rw [hc] at fF
  unfold rowV at fF
  dsimp only at fF hN
  obtain ⟨⟨hA, hAz⟩, hB, hBz⟩ := hN rfl
  have hA2 := wholeK_two hA
  have hB2 := wholeK_two hB
  have fA := fun w => rwhole_any A w (by omega)
  have fB := fun w => rwhole_any B w (by omega)
  have hK : Hid (parseK ((A, B, u), true) = if (wholeK A).2 ≠ 0 ∨ (wholeK B).2 ≠ 0 then ((0, 0, 0), 3) else (((wholeK A).1, (wholeK B).1, u), 0)) := Lib.hid (by unfold parseK; rw [if_neg (by simp)])
  clear hN hA hB hAz hBz hc
  generalize parseK ((A, B, u), true) = R at *
  generalize wholeK A = KA at *
  generalize wholeK B = KB at *
  obtain ⟨va, ka⟩ := KA
  obtain ⟨vb, kb⟩ := KB
  dsimp only at hA2 hB2 fA fB
  rcases hA2 with hka | hka <;> rcases hB2 with hkb | hkb
  all_goals
    have hka : ka = _ := hka
    have hkb : kb = _ := hkb
    subst hka
    subst hkb
    have hR : Hid (R = _) := Lib.hid hK.out
    clear hK
    go_enter Tryz.func16, Tryz.ntmps16
    go_wp2_with fail
    refine fF.mono ?_
    rintro e w1 ⟨rfl, hb1⟩
    have hbA := hb1.alloc hb1.size (.cells [.string A, .string B, .int .i64 u].toArray 61)
    go_wp2_with (go_at_call 34; first | ((with_reducible refine (fA _).mono ?_); rintro e wq ⟨rfl, hwq⟩; replace hwq := hwq.symm; subst hwq) | ((with_reducible refine (fB _).mono ?_); rintro e wq ⟨rfl, hwq⟩; replace hwq := hwq.symm; subst hwq))
    first
      | (refine bodyPost_ret (v := .tuple #[.int .i64 0, .int .i64 0, .int .i64 0, .int .i64 3]) (by simp [results, Tryz.results16, go_sem]) rfl ⟨by rw [hR.out]; simp, hbA⟩)
      | (go_quiet (fail); go_wp2; refine bodyPost_ret (v := .tuple #[.int .i64 va, .int .i64 vb, .int .i64 u, .int .i64 0]) (by simp [results, Tryz.results16, go_sem]) rfl ⟨by rw [hR.out]; simp, below_drewN hbA _⟩)

set_option maxRecDepth 100000 in
set_option maxHeartbeats 4000000 in
theorem lawAnbReads_any (a : Option Addr) (c n : Nat) (zs : List Int) (w : World) (hE : HasERv w) (hT : HasET w) (hn : zs.length = n) (hr : Reads w .u8 a c zs) (hz : U8 zs) :
    Calls Tryz.prog 4 #[.slice a n c] w (Told (.bool true) w) := by
  subst hn
  have hER : HasER w := by obtain ⟨p, _, hc⟩ := hE; exact ⟨_, p, hc⟩
  have hltT : 1 < w.heap.size := World.block_lt_of_cell? w _ hT
  have hS := speaks4_any w hER
  by_cases hbig : 500 < zs.length
  · have q : (500 : Int) < (zs.length : Int) := by omega
    clear hT hr hz hE
    go_enter Tryz.func4, Tryz.ntmps4
    go_wp2_with fail
    refine hS.mono ?_
    rintro e w1 ⟨rfl, hb1⟩
    go_wp2
    go_ret
    exact ⟨rfl, hb1⟩
  have q : ¬ (500 : Int) < (zs.length : Int) := by omega
  have HEV : Hid (∀ w' : World, Below w.heap.size w w' → HasERv w') := Lib.hid (fun w' hb => hE.later hb)
  have HTV : Hid (∀ w' : World, Below w.heap.size w w' → HasET w') := Lib.hid (fun w' hb => hT.below hb hltT)
  have k2 := fun w' (hb : Below w.heap.size w w') => rread_any a zs.length c zs w' rfl (hr.later hb) hz (by omega)
  have hgood := fun k => toks_good zs k
  have hshort : ShortT (toksF zs) := fun k => toks_short zs (by omega) k
  have htl := toks_len zs
  have HG := Lib.hid hgood
  have HS := Lib.hid hshort
  clear hgood hshort hE hT hr hz
  generalize toksF zs = ts at *
  have hml : ts.length ≤ 1000000 := by omega
  clear htl
  go_enter Tryz.func4, Tryz.ntmps4
  go_wp2_with fail
  refine hS.mono ?_
  rintro e w1 ⟨rfl, hb1⟩
  go_wp2_with fail
  refine (k2 w1 hb1).mono ?_
  rintro e w3 ⟨a3, d3, rfl, hr3, hb3⟩
  have hb13 := below_trans hb1 hb3
  have HR3 := Lib.hid hr3
  go_wp2_with fail
  refine (Parse_any ts ts.length d3 a3 w3 hr3 rfl hml HS.out (HEV.out w3 hb13)).mono ?_
  rintro q2 w4 ⟨hb4, hq⟩
  have hb14 := below_trans hb13 hb4
  have hp := rparse_any ts ts.length d3 a3 w4 (HR3.out.later hb4) rfl hml HS.out HG.out
  have kn := fun w => kind_nil w
  clear k2 hS hr3 hb1 hb3 hb13 hb4
  generalize parseK (findP ts) = K at *
  obtain ⟨⟨va, vb, u⟩, k⟩ := K
  dsimp only at hq hp
  rcases hq with ⟨hk, rfl⟩ | ⟨hv, hk, e, he, rfl, hB⟩
  · subst hk
    go_wp2_with fail
    refine hp.mono ?_
    rintro q3 w5 ⟨rfl, hb5⟩
    have hb15 := below_trans hb14 hb5
    go_wp2_with (go_at_call 17; refine (kn _).mono ?_; rintro q wq ⟨rfl, hwq⟩; replace hwq := hwq.symm; subst hwq)
    go_ret
    exact ⟨rfl, hb15⟩
  · obtain ⟨rfl, rfl, rfl⟩ : va = 0 ∧ vb = 0 ∧ u = 0 := by cases hv; exact ⟨rfl, rfl, rfl⟩
    go_wp2_with fail
    refine hp.mono ?_
    rintro q3 w5 ⟨rfl, hb5⟩
    have hb15 := below_trans hb14 hb5
    have B5 := hB.later hb5 hB.lt
    have hET := HTV.out w5 hb15
    have kh := kind_hit e k 0 .nilIface w5 B5 hET
    have kh2 : ∀ w', Below w5.heap.size w5 w' → Calls Tryz.prog 18 #[fltV e] w' fun r w'' => r = .returned (.int .i64 0) ∧ Below w'.heap.size w' w'' := fun w' hb => at_hit e k 0 .nilIface w' (B5.later hb B5.lt) (HTV.out w' (below_trans hb15 hb))
    clear hB B5 hv hk he
    unfold fltV at *
    go_wp2_with (first | (go_at_call 17; refine kh.mono ?_; rintro q w6 ⟨rfl, hb6⟩) | (go_at_call 18; refine (kh2 _ hb6).mono ?_; rintro q w7 ⟨rfl, hb7⟩))
    go_ret
    exact ⟨rfl, below_trans (below_trans hb15 hb6) hb7⟩
end Go.Proofs.YtickcbmfboajiaaGreatDoor
