/- TokenTexts: the law's walk. -/
import Derived.Test.YtoepldjjoeidoaaDoorTl1
namespace Go.Proofs.YtoepldjjoeidoaaDoor
open Go.RowKit Go.Shelf
set_option linter.unusedVariables false
set_option linter.unusedSimpArgs false

set_option maxRecDepth 100000 in
set_option maxHeartbeats 4000000 in
theorem lawTokTexts_any (a : Option Addr) (cap n : Nat) (l : List Int) (x y : Int) (w : World) (hT : TkW w) (hn : l.length = n) (hr : Reads w .i64 a cap l) (hz : I64 l) (hx : -9223372036854775808 ≤ x ∧ x ≤ 9223372036854775807) (hy : -9223372036854775808 ≤ y ∧ y ≤ 9223372036854775807) :
    Calls Tryd.prog 3 #[.slice a n cap, .int .i64 x, .int .i64 y] w (Told (.bool true) w) := by
  have cS := speaks3_any w hT
  obtain ⟨hx1, hx2⟩ := hx
  obtain ⟨hy1, hy2⟩ := hy
  have hcap : n ≤ cap ∧ cap ≤ 9223372036854775807 := ⟨by have := hr.1; omega, hr.2.1⟩
  obtain ⟨hcap1, hcap2⟩ := hcap
  by_cases hlong : 1000 < n
  · have q : (1000 : Int) < (n : Int) := by omega
    clear hr hn hz
    go_enter Tryd.func3, Tryd.ntmps3
    go_wp2_with fail
    refine cS.mono ?_
    rintro e w1 ⟨rfl, hb1⟩
    go_wp2
    go_ret
    exact ⟨rfl, hb1⟩
  have q : ¬ (1000 : Int) < (n : Int) := by omega
  have hcx := clampF_eq x n
  have hcy := clampF_eq y n
  have hpx := clampF_le x n
  have hpy := clampF_le y n
  have HR := Lib.hid hr
  have HN := Lib.hid hn
  clear hr hn hz hT
  have cT := fun w' hb => partText_any x y (Reads.later (w := w) (w' := w') HR.out hb) HN.out (by omega)
  generalize clampF x n = p at *
  generalize clampF y n = r at *
  have ex : min (max x 0) (n : Int) = (p : Int) := by omega
  have ey : min (max y 0) (n : Int) = (r : Int) := by omega
  clear hcx hcy
  by_cases hlt : p < r
  · have hlt' : (p : Int) < (r : Int) := by omega
    obtain ⟨b, off, rfl, hrd, hlen⟩ := HR.out.part HN.out p r hlt hpy
    have cR := fun w' hb => refText_any (some ⟨b, off + p, none⟩) (cap - p) (r - p) (sliceF l p r) w' hlen (Reads.later (w := w) (w' := w') hrd hb) (by omega)
    have hk1 : (r : Int) ≤ (n : Int) := by omega
    have hkp : (p : Int) ≤ (r : Int) := by omega
    generalize sliceF l p r = zs at *
    clear hrd
    have CR := Lib.hid cR
    clear cR
    go_enter Tryd.func3, Tryd.ntmps3
    go_wp2_with fail
    refine cS.mono ?_
    rintro e w1 ⟨rfl, hb1⟩
    have c1 := CR.out w1 hb1
    go_wp2_with fail
    refine c1.mono ?_
    rintro e w2 ⟨a1, d1, rfl, hr1, hb2, _, _⟩
    have hb12 := below_trans hb1 hb2
    have cv := conv3_any w2 24 5 9 Tryd.underlying24 Tryd.underlying5 Tryd.underlying9 a1 (textF zs).length d1 (textF zs) rfl hr1
    have c2 := cT w2 hb12
    generalize strOfNums (textF zs) = S at *
    have qS : (S.toList == S.toList) = true := beq_self_eq_true _
    clear c1 hr1
    go_wp2_with fail
    refine c2.mono ?_
    rintro e w3 ⟨rfl, hb3⟩
    go_wp2
    go_ret
    exact ⟨rfl, below_trans hb12 hb3⟩
  · have hlt' : ¬ (p : Int) < (r : Int) := by omega
    have e0 : sliceF l p r = [] := by unfold sliceF; rw [show r - p = 0 by omega]; rfl
    have e1 : strOfNums (textF []) = ⟨#[]⟩ := rfl
    rw [e0] at cT
    simp only [e1] at cT
    clear e0 e1
    go_enter Tryd.func3, Tryd.ntmps3
    go_wp2_with fail
    refine cS.mono ?_
    rintro e w1 ⟨rfl, hb1⟩
    have c2 := cT w1 hb1
    go_wp2_with fail
    refine c2.mono ?_
    rintro e w3 ⟨rfl, hb3⟩
    go_wp2
    go_ret
    exact ⟨rfl, below_trans hb1 hb3⟩
end Go.Proofs.YtoepldjjoeidoaaDoor
