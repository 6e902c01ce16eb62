/- A number's digits of base 16, by the library; an escape. -/
import Derived.Test.YtdopmkiogmejaaaDoorFmt
namespace Go.Proofs.YtdopmkiogmejaaaDoor
open Go.RowKit

theorem Hexes.lo {u : Int} (h : Hexes u) : 0 ≤ u := h.1
theorem Hexes.hi {u : Int} (h : Hexes u) : u < 65536 := by have := h.1; have := h.2; omega

/-- An escape's bytes. -/
def escF (u : Int) : List Int := [92] ++ hexF u ++ [32]
theorem hexF_len (u : Int) : (hexF u).length ≤ 4 := by unfold hexF; (repeat' split) <;> simp
theorem hexD_u8 (d : Int) (h0 : 0 ≤ d) (h1 : d < 16) : 0 ≤ hexD d ∧ hexD d ≤ 255 := by unfold hexD; split <;> omega
theorem hexF_u8 (u : Int) (hu : Hexes u) : U8 (hexF u) := by
  obtain ⟨h0, h1⟩ := hu
  have q : ∀ d : Int, 0 ≤ d → d < 16 → ∀ x ∈ [hexD d], 0 ≤ x ∧ x ≤ 255 := by
    intro d a b x hx; rw [List.mem_singleton.1 hx]; exact hexD_u8 d a b
  unfold hexF
  intro x hx
  split at hx
  · exact q _ (by omega) (by omega) x hx
  · split at hx
    · rcases List.mem_cons.1 hx with rfl | hx
      · exact hexD_u8 _ (by omega) (by omega)
      · exact q _ (by omega) (by omega) x hx
    · rcases List.mem_cons.1 hx with rfl | hx
      · exact hexD_u8 _ (by omega) (by omega)
      · rcases List.mem_cons.1 hx with rfl | hx
        · exact hexD_u8 _ (by omega) (by omega)
        · rcases List.mem_cons.1 hx with rfl | hx
          · exact hexD_u8 _ (by omega) (by omega)
          · exact q _ (by omega) (by omega) x hx

theorem strI_append (a b : ByteArray) : strI (a ++ b) = strI a ++ strI b := by
  unfold strI
  rw [show (a ++ b).data = a.data ++ b.data from ByteArray.data_append, Array.toList_append, List.map_append]
theorem strI_nums (xs : List Int) (h : U8 xs) : strI (strOfNums xs) = xs := by
  unfold strI
  rw [strOfNums_data, List.map_map]
  conv => rhs; rw [← List.map_id xs]
  refine List.map_congr_left fun x hx => ?_
  have := h x hx
  simp only [Function.comp, id]
  rw [UInt8.toNat_ofNat']
  omega

end Go.Proofs.YtdopmkiogmejaaaDoor
