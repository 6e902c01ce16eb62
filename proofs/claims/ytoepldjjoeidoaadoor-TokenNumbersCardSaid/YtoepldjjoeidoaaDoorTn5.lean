/- Tokens, the program's side: texts of characters, names: walks over any characters. -/
import Derived.Test.YtoepldjjoeidoaaDoorTn4
import Derived.Test.YtoepldjjoeidoaaDoorRep
import Derived.Test.YtoepldjjoeidoaaDoorRaw
import Derived.Test.YtoepldjjoeidoaaDoorShelf
namespace Go.Proofs.YtoepldjjoeidoaaDoor
open Go.RowKit Go.Shelf
set_option linter.unusedVariables false
set_option linter.unusedSimpArgs false

def u8 (z : Int) : UInt8 := UInt8.ofNat z.toNat
theorem u8_zero {z : Int} (h0 : 0 ≤ z) (h1 : z ≤ 255) : u8 z = 0 ↔ z = 0 := by
  unfold u8
  constructor
  · intro h
    have h2 := congrArg UInt8.toNat h
    rw [UInt8.toNat_ofNat'] at h2
    have h3 : (0 : UInt8).toNat = 0 := rfl
    omega
  · rintro rfl; rfl
theorem putF_nz {d : Int} (h : 1 ≤ d) (h2 : d < 1114112) : ∀ z ∈ putF d, 1 ≤ z ∧ z ≤ 255 := by
  intro z hz
  unfold putF at hz
  split at hz
  · simp at hz; omega
  · split at hz
    · simp at hz; omega
    · split at hz
      · simp at hz; omega
      · simp at hz; omega
theorem clean_char (c : Int) : (c = 0 ∧ charOf c = 0 ∧ charOf (cleanF c) = 65533) ∨ (charOf c ≠ 0 ∧ charOf (cleanF c) = charOf c) := by
  by_cases h : c = 0
  · subst h; exact .inl ⟨rfl, by decide, by decide⟩
  · refine .inr ⟨?_, ?_⟩
    · unfold charOf
      split
      · exact h
      · decide
    · unfold cleanF
      rw [if_neg h]
      have := charOf_right c
      generalize charOf c = d at *
      unfold charOf
      rw [if_pos this]
def rep0 (b : UInt8) : List UInt8 := if b = 0 then [239, 191, 189] else [b]
theorem rep_char (c : Int) : ((putF (charOf c)).map u8).flatMap rep0 = (putF (charOf (cleanF c))).map u8 := by
  rcases clean_char c with ⟨_, h1, h2⟩ | ⟨h1, h2⟩
  · rw [h1, h2]; decide
  · rw [h2]
    have hr := right_bd (charOf_right c)
    have hn := putF_nz (d := charOf c) (by omega) hr.2
    generalize putF (charOf c) = zs at *
    induction zs with
    | nil => rfl
    | cons z zs ih =>
      have hz := hn z (List.mem_cons_self ..)
      rw [List.map_cons, List.flatMap_cons, ih (fun y hy => hn y (List.mem_cons_of_mem _ hy))]
      unfold rep0
      rw [if_neg (fun h => by have := (u8_zero (by omega) hz.2).1 h; omega)]; rfl
theorem rep_text (zs : List Int) : Lib.replaceAll ((textF zs).map u8) [0] [239, 191, 189] = (bytesF zs).map u8 := by
  rw [replaceAll_one 0 [239, 191, 189] (by decide)]
  show List.flatMap rep0 _ = _
  unfold bytesF textF
  induction zs with
  | nil => rfl
  | cons c zs ih =>
    rw [List.flatMap_cons, List.map_cons, List.flatMap_cons, List.map_append, List.map_append, List.flatMap_append, rep_char, ih]

/-- A cell of the library that bounds what it searches. -/
def MxW (w : World) : Prop := ∃ m, w.cell? ⟨1, 0, none⟩ = some (.int .i64 m)
theorem MxW.lt {w : World} (h : MxW w) : 1 < w.heap.size := let ⟨_, h⟩ := h; World.block_lt_of_cell? w _ h
theorem MxW.later {w w' : World} (h : MxW w) (hb : Below w.heap.size w w') : MxW w' := let ⟨m, h'⟩ := h; ⟨m, (hb.cell (p := ⟨1, 0, none⟩) h.lt).trans h'⟩

set_option maxRecDepth 100000 in
set_option maxHeartbeats 1000000 in
theorem tokText_any (a : Option Addr) (cap n : Nat) (zs : List Int) (w : World) (hn : zs.length = n) (hr : Reads w .i64 a cap zs) (hsm : n ≤ 100000) (hM : MxW w) :
    Calls Tryd.prog 57 #[.slice a n cap] w (Told (.string (strOfNums (bytesF zs))) w) := by
  have cT := text_any a cap n zs w hn hr hsm
  have hlen := textF_len zs
  have hd : (strOfNums (textF zs)).data.toList = (textF zs).map u8 := strOfNums_data _
  have hd2 : (⟨((bytesF zs).map u8).toArray⟩ : ByteArray) = strOfNums (bytesF zs) := rfl
  have hrep := rep_text zs
  have cR : ∀ w', MxW w' → Calls Tryd.prog 67 #[.string (strOfNums (textF zs)), .string ⟨#[0]⟩, .string ⟨#[239, 191, 189]⟩] w' (Told (.string (strOfNums (bytesF zs))) w') := fun w' ⟨m, hm⟩ => by
    have hsz : (strOfNums (textF zs)).size ≤ 400000 := by rw [strOfNums_size]; omega
    have hc := Lib.countB_le ⟨#[0]⟩ (by decide) _ (strOfNums (textF zs)) (Nat.le_refl _)
    refine (Tryd.strings_ReplaceAll (strOfNums (textF zs)) ⟨#[0]⟩ ⟨#[239, 191, 189]⟩ m w' (by omega) hm (by decide) (by have : (⟨#[239, 191, 189]⟩ : ByteArray).size = 3 := rfl; rw [this]; omega)).mono ?_
    rintro e w2 ⟨rfl, hb⟩
    refine ⟨?_, hb⟩
    rw [hd]
    show Ending.returned (.string ⟨(Lib.replaceAll ((textF zs).map u8) [0] [239, 191, 189]).toArray⟩) = _
    rw [hrep, hd2]
  have HM := Lib.hid hM
  have HR := Lib.hid cR
  clear cR hd hd2 hrep hM
  go_enter Tryd.func57, Tryd.ntmps57
  go_wp2_with fail
  refine cT.mono ?_
  rintro e w1 ⟨a1, c1, rfl, hr1, hb1, _, _⟩
  have cv := conv3_any w1 24 5 9 Tryd.underlying24 Tryd.underlying5 Tryd.underlying9 a1 (textF zs).length c1 (textF zs) rfl hr1
  have c2 := HR.out w1 (HM.out.later hb1)
  clear hr1 cT HR
  generalize strOfNums (textF zs) = S at *
  generalize strOfNums (bytesF zs) = B at *
  go_wp2_with (go_at_call 67; refine c2.mono ?_; rintro e w2 ⟨rfl, hb2⟩)
  go_ret
  exact ⟨rfl, below_trans hb1 hb2⟩
end Go.Proofs.YtoepldjjoeidoaaDoor
