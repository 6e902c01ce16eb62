/- Several texts of mine in one. -/
import Derived.Test.YtickcbmfboajiaaGreatDoorFJ
import Derived.Test.YtickcbmfboajiaaGreatDoorFB
import Derived.Test.YtickcbmfboajiaaGreatDoorShelf
namespace Go.Proofs.YtickcbmfboajiaaGreatDoor
section
open Go.RowKit Go.Shelf
set_option linter.unusedVariables false
set_option linter.unusedSimpArgs false

def u8 (z : Int) : UInt8 := UInt8.ofNat z.toNat
theorem u8_zero {z : Int} (h0 : 0 ≤ z) (h1 : z ≤ 255) : u8 z = 0 ↔ z = 0 := by
  unfold u8
  constructor
  · intro h
    have h2 := congrArg UInt8.toNat h
    rw [UInt8.toNat_ofNat'] at h2
    have h3 : (0 : UInt8).toNat = 0 := rfl
    omega
  · rintro rfl; rfl
theorem putF_nz {d : Int} (h : 1 ≤ d) (h2 : d < 1114112) : ∀ z ∈ putF d, 1 ≤ z ∧ z ≤ 255 := by
  intro z hz
  unfold putF at hz
  split at hz
  · simp at hz; omega
  · split at hz
    · simp at hz; omega
    · split at hz
      · simp at hz; omega
      · simp at hz; omega
theorem clean_char (c : Int) : (c = 0 ∧ charOf c = 0 ∧ charOf (cleanF c) = 65533) ∨ (charOf c ≠ 0 ∧ charOf (cleanF c) = charOf c) := by
  by_cases h : c = 0
  · subst h; exact .inl ⟨rfl, by decide, by decide⟩
  · refine .inr ⟨?_, ?_⟩
    · unfold charOf
      split
      · exact h
      · decide
    · unfold cleanF
      rw [if_neg h]
      have := charOf_right c
      generalize charOf c = d at *
      unfold charOf
      rw [if_pos this]
def rep0 (b : UInt8) : List UInt8 := if b = 0 then [239, 191, 189] else [b]
theorem rep_char (c : Int) : ((putF (charOf c)).map u8).flatMap rep0 = (putF (charOf (cleanF c))).map u8 := by
  rcases clean_char c with ⟨_, h1, h2⟩ | ⟨h1, h2⟩
  · rw [h1, h2]; decide
  · rw [h2]
    have hr := right_bd (charOf_right c)
    have hn := putF_nz (d := charOf c) (by omega) hr.2
    generalize putF (charOf c) = zs at *
    induction zs with
    | nil => rfl
    | cons z zs ih =>
      have hz := hn z (List.mem_cons_self ..)
      rw [List.map_cons, List.flatMap_cons, ih (fun y hy => hn y (List.mem_cons_of_mem _ hy))]
      unfold rep0
      rw [if_neg (fun h => by have := (u8_zero (by omega) hz.2).1 h; omega)]; rfl
theorem rep_text (zs : List Int) : Lib.replaceAll ((textF zs).map u8) [0] [239, 191, 189] = (bytesF zs).map u8 := by
  rw [replaceAll_one 0 [239, 191, 189] (by decide)]
  show List.flatMap rep0 _ = _
  unfold bytesF textF
  induction zs with
  | nil => rfl
  | cons c zs ih =>
    rw [List.flatMap_cons, List.map_cons, List.flatMap_cons, List.map_append, List.map_append, List.flatMap_append, rep_char, ih]

/-- A cell of the library that bounds what it searches. -/
def MxW (w : World) : Prop := ∃ m, w.cell? ⟨7, 0, none⟩ = some (.int .i64 m)
theorem MxW.lt {w : World} (h : MxW w) : 7 < w.heap.size := let ⟨_, h⟩ := h; World.block_lt_of_cell? w _ h
theorem MxW.later {w w' : World} (h : MxW w) (hb : Below w.heap.size w w') : MxW w' := let ⟨m, h'⟩ := h; ⟨m, (hb.cell (p := ⟨7, 0, none⟩) h.lt).trans h'⟩

set_option maxRecDepth 100000 in
set_option maxHeartbeats 1000000 in
theorem tokText_any (a : Option Addr) (cap n : Nat) (zs : List Int) (w : World) (hn : zs.length = n) (hr : Reads w .i64 a cap zs) (hsm : n ≤ 100000) (hM : MxW w) :
    Calls Tryz.prog 122 #[.slice a n cap] w (Told (.string (strOfNums (bytesF zs))) w) := by
  have cT := text_any a cap n zs w hn hr hsm
  have hlen := textF_len zs
  have hd : (strOfNums (textF zs)).data.toList = (textF zs).map u8 := strOfNums_data _
  have hd2 : (⟨((bytesF zs).map u8).toArray⟩ : ByteArray) = strOfNums (bytesF zs) := rfl
  have hrep := rep_text zs
  have cR : ∀ w', MxW w' → Calls Tryz.prog 146 #[.string (strOfNums (textF zs)), .string ⟨#[0]⟩, .string ⟨#[239, 191, 189]⟩] w' (Told (.string (strOfNums (bytesF zs))) w') := fun w' ⟨m, hm⟩ => by
    have hsz : (strOfNums (textF zs)).size ≤ 400000 := by rw [strOfNums_size]; omega
    have hc := Lib.countB_le ⟨#[0]⟩ (by decide) _ (strOfNums (textF zs)) (Nat.le_refl _)
    refine (Tryz.strings_ReplaceAll (strOfNums (textF zs)) ⟨#[0]⟩ ⟨#[239, 191, 189]⟩ m w' (by omega) hm (by decide) (by have : (⟨#[239, 191, 189]⟩ : ByteArray).size = 3 := rfl; rw [this]; omega)).mono ?_
    rintro e w2 ⟨rfl, hb⟩
    refine ⟨?_, hb⟩
    rw [hd]
    show Ending.returned (.string ⟨(Lib.replaceAll ((textF zs).map u8) [0] [239, 191, 189]).toArray⟩) = _
    rw [hrep, hd2]
  have HM := Lib.hid hM
  have HR := Lib.hid cR
  clear cR hd hd2 hrep hM
  go_enter Tryz.func122, Tryz.ntmps122
  go_wp2_with fail
  refine cT.mono ?_
  rintro e w1 ⟨a1, c1, rfl, hr1, hb1, _, _⟩
  have cv := conv3_any w1 22 5 9 Tryz.underlying22 Tryz.underlying5 Tryz.underlying9 a1 (textF zs).length c1 (textF zs) rfl hr1
  have c2 := HR.out w1 (HM.out.later hb1)
  clear hr1 cT HR
  generalize strOfNums (textF zs) = S at *
  generalize strOfNums (bytesF zs) = B at *
  go_wp2_with (go_at_call 146; refine c2.mono ?_; rintro e w2 ⟨rfl, hb2⟩)
  go_ret
  exact ⟨rfl, below_trans hb1 hb2⟩
end

section
open Go.RowKit Go.Shelf
set_option linter.unusedVariables false
set_option linter.unusedSimpArgs false

theorem nm_esc {l : List Int} {j : Nat} (h : nmB l j = true) : escB l j = false := by
  unfold escB
  rcases hq : isB l j 92 with _ | _
  · rfl
  · unfold nmB at h
    rw [isB_iff.1 hq] at h
    exact absurd h (by decide)
theorem map_snoc2 {f : Int → Int} {xs ys : List Int} {x y : Int} (h : xs.map f = ys.map f) (h2 : f x = f y) : (xs ++ [x]).map f = (ys ++ [y]).map f := by
  rw [List.map_append, List.map_append, h, List.map_cons, List.map_cons, h2]
theorem bytesF_same {xs ys : List Int} (h : xs.map cleanF = ys.map cleanF) : bytesF xs = bytesF ys := by unfold bytesF; rw [h]
theorem ret_si {k : IntKind} {a b : ByteArray} {c d : Int} (h : a = b) (h2 : c = d) : Ending.returned (.tuple #[.string a, .int k c]) = .returned (.tuple #[.string b, .int k d]) := by rw [h, h2]

set_option maxRecDepth 100000 in
set_option maxHeartbeats 4000000 in
theorem readName_any {a : Option Addr} {n cap : Nat} {l : List Int} {w : World} (i : Int) (k : Nat) (h : Src w a n cap l) (hM : MxW w) (hi : i = (k : Int)) (hk : k ≤ n) :
    Calls Tryz.prog 91 #[.slice a n cap, .int .i64 i] w (Told (.tuple #[.string (strOfNums (bytesF (namesF l k).1)), .int .i64 ((namesF l k).2 : Nat)]) w) := by
  subst hi
  obtain ⟨i0, hi, hz0, hz1, hz2⟩ := info_parts Tryz.info3
  have hlen := h.len
  have hsm := h.small
  have own0 := World.ownsRow_nil w w.heap.size 3 1
  generalize hR : namesF l k = R
  unfold namesF at hR
  rw [hlen] at hR
  have HR := Lib.hid hR; clear hR
  have HL := Lib.hid hlen; clear hlen
  have HP := Lib.hid h; clear h
  have HM := Lib.hid hM; clear hM
  go_enter Tryz.func91, Tryz.ntmps91
  go_wp2_with fail
  go_loopw [1, 6, 7, 8] (fun at_ v _ _ wr => ∃ (f j : Nat) (acc acc' : List Int), at_ = .int .i64 j ∧ wr.ownsRow w.heap.size 3 1 v acc.length (acc.map (Value.int .i64)) ∧ Hid (namesGo f l j acc' = R) ∧ Hid (acc.map cleanF = acc'.map cleanF) ∧ n < j + f ∧ j ≤ n ∧ acc.length ≤ j ∧ Below w.heap.size w wr)
    (fun at_ _ _ _ _ => n - (intOf at_).toNat)
  case atStart => exact ⟨n + 1, k, [], [], rfl, own0, HR, Lib.hid rfl, by omega, hk, by simp, Below.refl _ _⟩
  case round =>
    obtain ⟨f, j, acc, acc', rfl, hown, hG, hE, hf, hj, hal, hbl⟩ := hrel
    have hS := Lib.hid (HP.out.later hbl)
    have hsz := hbl.size
    obtain ⟨f, rfl⟩ : ∃ g, f = g + 1 := ⟨f - 1, by omega⟩
    have f0 := hasName_any (j : Int) j hS.out rfl (by omega)
    have f1 := isEscape_any (j : Int) j hS.out rfl (by omega)
    rcases hnm : nmB l j with _ | _
    · rw [hnm] at f0
      rcases hes : escB l j with _ | _
      · have hEE : R = (acc', j) := by rw [← hG.out, namesGo, if_neg (by rw [hnm]; decide), if_neg (by rw [hes]; decide)]
        rw [hes] at f0
        obtain ⟨a2, c2, hv, hrd⟩ := Reads.of_owns hown
        subst hv
        have cT := tokText_any a2 c2 acc.length acc wr rfl hrd (by omega) (HM.out.later hbl)
        have HQ := Lib.hid hEE
        clear hG hnm hes hown f1 hEE
        go_wp2_with ((go_at_call 92; (with_reducible refine f0.mono ?_)); rintro e w1 ⟨rfl, hw1⟩; replace hw1 := hw1.symm; subst hw1)
        refine cT.mono ?_
        rintro e w2 ⟨rfl, hb2⟩
        go_wp2
        go_ret2
        exact ⟨by rw [HQ.out]; exact ret_si (by rw [bytesF_same hE.out]) rfl, hbl.trans (hb2.mono hbl.size)⟩
      · have hjn : j < n := by have := lt_of_escB hes; rw [HL.out] at this; exact this
        obtain ⟨hv1, hv2⟩ := valueF_bd (l := l) (j := j) (by rw [HL.out]; exact hjn)
        rw [HL.out] at hv2
        have hvv := valC_value (l := l) (j := j) HP.out.pre
        have hG2 : Hid (namesGo f l (valueF l j).2 (acc' ++ [(valueF l j).1]) = R) := Lib.hid (by rw [← hG.out]; conv => rhs; rw [namesGo, if_neg (by rw [hnm]; decide), if_pos hes])
        have hE2 := Lib.hid (map_snoc2 hE.out hvv.2)
        rw [hes] at f0 f1
        have f2 := readEscape_any (j : Int) j hS.out rfl hjn
        rw [hvv.1] at f2
        obtain ⟨b, off, rfl, hc⟩ := hS.out.cell j hjn
        clear hG hnm hes hvv
        generalize (valueF l j).2 = j2 at *
        generalize (valueF l j).1 = c' at *
        generalize (valC l j).1 = c at *
        generalize chA l j = z at *
        go_wp2_with (first
          | (go_at_call 92; (with_reducible refine f0.mono ?_); rintro e w1 ⟨rfl, hw1⟩; replace hw1 := hw1.symm; subst hw1)
          | (go_at_call 120; (with_reducible refine f1.mono ?_); rintro e w1 ⟨rfl, hw1⟩; replace hw1 := hw1.symm; subst hw1)
          | (go_at_call 121; (with_reducible refine f2.mono ?_); rintro e w1 ⟨rfl, hw1⟩; replace hw1 := hw1.symm; subst hw1)
          | (at_builtin; refine wpList_append_reads rfl _ _ 28 rfl w.heap.size 3 i0 .i64 8 Tryz.underlying28 hi hz0 hz1 hz2 _ acc.length acc rfl (hown.alloc _) rfl (some ⟨wr.heap.size, 0, none⟩) 1 1 [c] rfl rfl (reads_new wr .i64 _ 3 1 rfl (by unfold maxLen; omega)) (fun h => by cases h) (by unfold maxLen; omega) (by omega) (by simp <;> omega) ?_; intro v' w3 hown3 hgrow3))
        have hbl3 : Below w.heap.size w w3 := (hbl.alloc hsz _).grown hgrow3 (by simp <;> omega) (fun j hj => (hown.lt j hj).1)
        go_roundw
        case rel => exact ⟨f, j2, acc ++ [c], acc' ++ [c'], by go_num, hown3, hG2, hE2, by omega, by omega, by rw [List.length_append]; simp; omega, hbl3⟩
        case measure => simp [intOf]; omega
    · have hjn : j < n := by have := lt_of_nmB hnm; rw [HL.out] at this; exact this
      have hG2 : Hid (namesGo f l (j + 1) (acc' ++ [chA l j]) = R) := Lib.hid (by rw [← hG.out]; conv => rhs; rw [namesGo, if_pos hnm])
      have hE2 := Lib.hid (map_snoc2 hE.out (rfl : cleanF (chA l j) = cleanF (chA l j)))
      obtain ⟨b, off, rfl, hc⟩ := hS.out.cell j hjn
      rw [nm_esc hnm] at f1
      rw [hnm] at f0
      clear hG hnm
      generalize escB l j = q at *
      generalize chA l j = c at *
      go_wp2_with (first
        | (go_at_call 92; (with_reducible refine f0.mono ?_); rintro e w1 ⟨rfl, hw1⟩; replace hw1 := hw1.symm; subst hw1)
        | (go_at_call 120; (with_reducible refine f1.mono ?_); rintro e w1 ⟨rfl, hw1⟩; replace hw1 := hw1.symm; subst hw1)
        | (at_builtin; refine wpList_append_reads rfl _ _ 28 rfl w.heap.size 3 i0 .i64 8 Tryz.underlying28 hi hz0 hz1 hz2 _ acc.length acc rfl (hown.alloc _) rfl (some ⟨wr.heap.size, 0, none⟩) 1 1 [c] rfl rfl (reads_new wr .i64 _ 3 1 rfl (by unfold maxLen; omega)) (fun h => by cases h) (by unfold maxLen; omega) (by omega) (by simp <;> omega) ?_; intro v' w3 hown3 hgrow3))
      have hbl3 : Below w.heap.size w w3 := (hbl.alloc hsz _).grown hgrow3 (by simp <;> omega) (fun j hj => (hown.lt j hj).1)
      go_roundw
      case rel => exact ⟨f, j + 1, acc ++ [c], acc' ++ [c], by go_num, hown3, hG2, hE2, by omega, by omega, by rw [List.length_append]; simp; omega, hbl3⟩
      case measure => simp [intOf]; omega
end

section
open Go.RowKit Go.Shelf
set_option linter.unusedVariables false
set_option linter.unusedSimpArgs false

/-- A token whose place is not told yet. -/
def tkZ (t : Tk) : Tk := { t with frm := 0 }
theorem below_set6 {B p : Nat} {w wr : World} (h : Below B w wr) (hp : B ≤ p) (v0 v1 v2 v3 v4 v5 : Value) :
    Below B w ((((((wr.setCell ⟨p, 0, none⟩ v0).setCell ⟨p, 1, none⟩ v1).setCell ⟨p, 2, none⟩ v2).setCell ⟨p, 3, none⟩ v3).setCell ⟨p, 4, none⟩ v4).setCell ⟨p, 5, none⟩ v5) :=
  (((((h.setCell (p := ⟨p, 0, none⟩) hp _).setCell (p := ⟨p, 1, none⟩) hp _).setCell (p := ⟨p, 2, none⟩) hp _).setCell (p := ⟨p, 3, none⟩) hp _).setCell (p := ⟨p, 4, none⟩) hp _).setCell (p := ⟨p, 5, none⟩) hp _
def zeroTk : List Value := [.int .i64 0, .int .i64 0, .int .i64 0, .string ⟨#[]⟩, .string ⟨#[]⟩, .bool false]

theorem Reads.part {w : World} {a : Option Addr} {n cap : Nat} {l : List Int} (h : Reads w .i64 a cap l) (hn : l.length = n) (i j : Nat) (hij : i < j) (hj : j ≤ n) :
    ∃ b off, a = some ⟨b, off, none⟩ ∧ Reads w .i64 (some ⟨b, off + i, none⟩) (cap - i) (sliceF l i j) ∧ (sliceF l i j).length = j - i := by
  obtain ⟨h1, h2, h3⟩ := h
  have hl : (sliceF l i j).length = j - i := by unfold sliceF; rw [List.length_take, List.length_drop, hn]; omega
  rcases h3 with h3 | ⟨b, off, rfl, hat⟩
  · rw [h3] at hn; simp at hn; omega
  · exact ⟨b, off, rfl, ⟨by rw [hl]; omega, by omega, .inr ⟨_, _, rfl, (hat.drop i).take (j - i)⟩⟩, hl⟩
/-- A place as one of so many. -/
def clampF (x : Int) (n : Nat) : Nat := (max 0 (min x (n : Int))).toNat
theorem clampF_eq (x : Int) (n : Nat) : ((clampF x n : Nat) : Int) = max 0 (min x (n : Int)) := by unfold clampF; omega
theorem clampF_le (x : Int) (n : Nat) : clampF x n ≤ n := by unfold clampF; omega
theorem clampF_nat (k n : Nat) (h : k ≤ n) : clampF (k : Int) n = k := by unfold clampF; omega
set_option maxRecDepth 100000 in
theorem within_int {a : Option Addr} {n cap : Nat} {w : World} (x : Int) : Calls Tryz.prog 42 #[.slice a n cap, .int .i64 x] w (Tells (.int .i64 ((clampF x n : Nat) : Int)) w) := by
  rw [clampF_eq]
  go_enter Tryz.func42, Tryz.ntmps42
  go_wp2
  all_goals
    go_ret
    exact ⟨ret_int (by omega), rfl⟩

set_option maxRecDepth 100000 in
set_option maxHeartbeats 1000000 in
theorem partText_any {a : Option Addr} {n cap : Nat} {l : List Int} {w : World} (x y : Int) (hr : Reads w .i64 a cap l) (hn : l.length = n) (hsm : n ≤ 100000) :
    Calls Tryz.prog 126 #[.slice a n cap, .int .i64 x, .int .i64 y] w (Told (.string (strOfNums (textF (sliceF l (clampF x n) (clampF y n))))) w) := by
  have c1 := within_int (a := a) (n := n) (cap := cap) (w := w) x
  have c2 := within_int (a := a) (n := n) (cap := cap) (w := w) y
  have hp := clampF_le x n
  have hq := clampF_le y n
  generalize clampF x n = p at *
  generalize clampF y n = q at *
  have hcap : n ≤ cap ∧ cap ≤ 9223372036854775807 := ⟨by have := hr.1; omega, hr.2.1⟩
  obtain ⟨hcap1, hcap2⟩ := hcap
  by_cases hlt : p < q
  · obtain ⟨b, off, rfl, hrd, hlen⟩ := hr.part hn p q hlt hq
    have cT := text_any (some ⟨b, off + p, none⟩) (cap - p) (q - p) (sliceF l p q) w hlen hrd (by omega)
    have hg : ¬ (p : Int) ≥ (q : Int) := by omega
    generalize sliceF l p q = zs at *
    clear hr
    go_enter Tryz.func126, Tryz.ntmps126
    go_wp2_with (go_at_call 42; first | ((with_reducible refine c1.mono ?_); rintro e w' ⟨rfl, rfl⟩) | ((with_reducible refine c2.mono ?_); rintro e w' ⟨rfl, rfl⟩))
    refine cT.mono ?_
    rintro e w1 ⟨a1, c1, rfl, hr1, hb1, _, _⟩
    have cv := conv3_any w1 22 5 9 Tryz.underlying22 Tryz.underlying5 Tryz.underlying9 a1 (textF zs).length c1 (textF zs) rfl hr1
    clear hr1
    go_wp2
    go_ret
    exact ⟨rfl, hb1⟩
  · have hg : (p : Int) ≥ (q : Int) := by omega
    have e : sliceF l p q = [] := by unfold sliceF; rw [show q - p = 0 by omega]; rfl
    rw [e]
    clear hr e
    go_enter Tryz.func126, Tryz.ntmps126
    go_wp2_with (go_at_call 42; first | ((with_reducible refine c1.mono ?_); rintro e w' ⟨rfl, rfl⟩) | ((with_reducible refine c2.mono ?_); rintro e w' ⟨rfl, rfl⟩))
    go_ret
    exact ⟨rfl, Below.refl _ _⟩
theorem text_pre {zs : List Int} (h : Pre zs) : textF zs = bytesF zs := by
  unfold bytesF textF
  rw [List.flatMap_map]
  induction zs with
  | nil => rfl
  | cons c zs ih =>
    rw [List.flatMap_cons, List.flatMap_cons, ih (fun y hy => h y (List.mem_cons_of_mem _ hy))]
    have hc := h c (List.mem_cons_self ..)
    rcases clean_char c with ⟨h0, _, _⟩ | ⟨_, h2⟩
    · omega
    · rw [h2]
theorem pre_slice {l : List Int} (h : Pre l) (i j : Nat) : Pre (sliceF l i j) := fun c hc => h c (List.mem_of_mem_drop (List.mem_of_mem_take hc))

/-- The rest of a url that isn't right. -/
theorem restGo_frm (l : List Int) (frm : Nat) : ∀ (f i : Nat), tkZ (restGo f l frm i) = restGo f l 0 i
  | 0, i => rfl
  | f + 1, i => by
    rw [restGo, restGo]
    split
    · rfl
    · split
      · rfl
      · split
        · exact restGo_frm l frm f _
        · exact restGo_frm l frm f _
theorem restGo_fuel (l : List Int) : ∀ (f g i : Nat), l.length < i + f → l.length < i + g → restGo f l 0 i = restGo g l 0 i
  | f, g, i, hf, hg => by
    by_cases h1 : l.length ≤ i
    · have : ∀ f, restGo f l 0 i = ⟨8, 0, l.length, [], [], false⟩ := fun f => by cases f with | zero => rfl | succ f => rw [restGo, if_pos h1]
      rw [this, this]
    · obtain ⟨f, rfl⟩ : ∃ f', f = f' + 1 := ⟨f - 1, by omega⟩
      obtain ⟨g, rfl⟩ : ∃ g', g = g' + 1 := ⟨g - 1, by omega⟩
      rw [restGo, restGo, if_neg h1, if_neg h1]
      by_cases h2 : isB l i 41 = true
      · rw [if_pos h2, if_pos h2]
      · rw [if_neg h2, if_neg h2]
        by_cases h3 : escB l i = true
        · rw [if_pos h3, if_pos h3]
          have := (valueF_bd (lt_of_escB h3)).1
          exact restGo_fuel l f g _ (by omega) (by omega)
        · rw [if_neg h3, if_neg h3]
          exact restGo_fuel l f g _ (by omega) (by omega)
theorem restF_end {l : List Int} {i : Nat} (h : l.length ≤ i) : restF l 0 i = ⟨8, 0, l.length, [], [], false⟩ := by unfold restF; rw [restGo, if_pos h]
theorem restF_close {l : List Int} {i : Nat} (h : i < l.length) (h2 : isB l i 41 = true) : restF l 0 i = ⟨8, 0, i + 1, [], [], false⟩ := by unfold restF; rw [restGo, if_neg (by omega), if_pos h2]
theorem restF_esc {l : List Int} {i : Nat} (h2 : isB l i 41 = false) (h3 : escB l i = true) : restF l 0 i = restF l 0 (valueF l i).2 := by
  have h := lt_of_escB h3
  unfold restF
  rw [restGo, if_neg (by omega), if_neg (by rw [h2]; decide), if_pos h3]
  have := (valueF_bd h).1
  exact restGo_fuel l _ _ _ (by omega) (by omega)
theorem restF_other {l : List Int} {i : Nat} (h : i < l.length) (h2 : isB l i 41 = false) (h3 : escB l i = false) : restF l 0 i = restF l 0 (i + 1) := by
  unfold restF
  rw [restGo, if_neg (by omega), if_neg (by rw [h2]; decide), if_neg (by rw [h3]; decide)]
  exact restGo_fuel l _ _ _ (by omega) (by omega)

set_option maxRecDepth 100000 in
set_option maxHeartbeats 4000000 in
theorem badURL_any {a : Option Addr} {n cap : Nat} {l : List Int} {w : World} (i : Int) (k : Nat) (h : Src w a n cap l) (hi : i = (k : Int)) (hk : k ≤ n) :
    Calls Tryz.prog 150 #[.slice a n cap, .int .i64 i] w (Told (tkV (restF l 0 k)) w) := by
  subst hi
  have hsm := h.small
  have HL := Lib.hid h.len
  generalize hR : restF l 0 k = R
  have HR := Lib.hid hR
  have HP := Lib.hid h
  clear h hR
  have HB0 := Lib.hid (Blk.alloc (w := w) zeroTk 32)
  go_enter Tryz.func150, Tryz.ntmps150
  go_wp2_with fail
  go_loopw [1] (fun v wr => ∃ j : Nat, v = .int .i64 j ∧ j ≤ n ∧ Hid (restF l 0 j = R) ∧ Hid (Blk wr w.heap.size zeroTk 32) ∧ Below w.heap.size w wr) (fun v _ => n - (intOf v).toNat)
  case atStart => exact ⟨k, rfl, hk, HR, HB0, (Below.refl _ _).alloc (Nat.le_refl _) _⟩
  case round =>
    obtain ⟨j, rfl, hj, hG, hB, hbl⟩ := hrel
    have hS := Lib.hid (HP.out.later hbl)
    have HBL := Lib.hid hbl
    clear hbl
    have c3 := fun w => within_any (a := a) (n := n) (cap := cap) (w := w) ((j : Int) + 1) (j + 1) (by omega) (by omega) (by omega)
    by_cases hlt : j < n
    · have hlt' : (j : Int) < (n : Int) := by omega
      have f1 := isEscape_any (j : Int) j hS.out rfl (by omega)
      obtain ⟨b, off, rfl, hc⟩ := hS.out.cell j hlt
      have hq : (chA l j != 41) = !isB l j 41 := by unfold isB; rfl
      rcases h41 : isB l j 41 with _ | _
      · rw [h41] at hq
        rcases hes : escB l j with _ | _
        · have e := Lib.hid ((restF_other (by rw [HL.out]; exact hlt) h41 hes).symm.trans hG.out)
          rw [hes] at f1
          clear hes h41 hG c3
          generalize chA l j = z at *
          go_wp2_with (go_at_call 120; (with_reducible refine f1.mono ?_); rintro e w' ⟨rfl, rfl⟩)
          go_roundw
          case rel => exact ⟨j + 1, by go_num, by omega, e, hB, HBL.out⟩
          case measure => simp [intOf]; omega
        · have e := Lib.hid ((restF_esc h41 hes).symm.trans hG.out)
          have hbd := valueF_bd (l := l) (j := j) (by rw [HL.out]; exact hlt)
          rw [HL.out] at hbd
          have f2 := readEscape_any (j : Int) j hS.out rfl hlt
          rw [(valC_value (l := l) (j := j) HP.out.pre).1] at f2
          rw [hes] at f1
          clear hes h41 hG c3
          generalize (valueF l j).2 = j2 at *
          generalize (valC l j).1 = c at *
          generalize chA l j = z at *
          go_wp2_with (first
            | (go_at_call 120; (with_reducible refine f1.mono ?_); rintro e w' ⟨rfl, rfl⟩)
            | (go_at_call 121; (with_reducible refine f2.mono ?_); rintro e w' ⟨rfl, rfl⟩))
          go_roundw
          case rel => exact ⟨j2, by go_num, by omega, e, hB, HBL.out⟩
          case measure => simp [intOf]; omega
      · have e := Lib.hid ((restF_close (by rw [HL.out]; exact hlt) h41).symm.trans hG.out)
        rw [h41] at hq
        rw [Nat.min_eq_left (by omega : j + 1 ≤ n)] at c3
        have r0 := hB.out.cell 0 _ rfl
        have r1 := hB.out.cell 1 _ rfl
        have r2 := hB.out.cell 2 _ rfl
        have r3 := hB.out.cell 3 _ rfl
        have r4 := hB.out.cell 4 _ rfl
        have r5 := hB.out.cell 5 _ rfl
        have q0 := hB.out.frozen 0
        have q1 := hB.out.frozen 1
        have q2 := hB.out.frozen 2
        have q3 := hB.out.frozen 3
        have q4 := hB.out.frozen 4
        have q5 := hB.out.frozen 5
        clear h41 hG f1
        generalize chA l j = z at *
        go_wp2_with (go_at_call 42; (with_reducible refine (c3 _).mono ?_); rintro e w' ⟨rfl, rfl⟩)
        refine bodyPost_ret (v := .agg #[.int .i64 8, .int .i64 0, .int .i64 (j + 1 : Nat), .string ⟨#[]⟩, .string ⟨#[]⟩, .bool false]) (by simp [results, Tryz.results150, go_sem, r0, r1, r2, r3, r4, r5]) rfl ⟨by rw [← e.out]; rfl, ?_⟩
        exact below_set6 HBL.out (Nat.le_refl _) _ _ _ _ _ _
    · obtain rfl : j = n := by omega
      have hlt' : ¬ (j : Int) < (j : Int) := by omega
      have e := Lib.hid ((restF_end (by rw [HL.out]; exact Nat.le_refl _)).symm.trans hG.out)
      rw [Nat.min_eq_right (by omega : j ≤ j + 1)] at c3
      have r0 := hB.out.cell 0 _ rfl
      have r1 := hB.out.cell 1 _ rfl
      have r2 := hB.out.cell 2 _ rfl
      have r3 := hB.out.cell 3 _ rfl
      have r4 := hB.out.cell 4 _ rfl
      have r5 := hB.out.cell 5 _ rfl
      have q0 := hB.out.frozen 0
      have q1 := hB.out.frozen 1
      have q2 := hB.out.frozen 2
      have q3 := hB.out.frozen 3
      have q4 := hB.out.frozen 4
      have q5 := hB.out.frozen 5
      clear hG hlt
      go_wp2_with (go_at_call 42; (with_reducible refine (c3 _).mono ?_); rintro e w' ⟨rfl, rfl⟩)
      refine bodyPost_ret (v := .agg #[.int .i64 8, .int .i64 0, .int .i64 (j : Nat), .string ⟨#[]⟩, .string ⟨#[]⟩, .bool false]) (by simp [results, Tryz.results150, go_sem, r0, r1, r2, r3, r4, r5]) rfl ⟨by rw [← e.out, HL.out]; rfl, ?_⟩
      exact below_set6 HBL.out (Nat.le_refl _) _ _ _ _ _ _
end

section
open Go.RowKit Go.Shelf
set_option linter.unusedVariables false
set_option linter.unusedSimpArgs false

theorem numericF_frm (l : List Int) (k : Nat) : tkZ (numericF l k) = if nameAt l (numberF l k).1 then ⟨12, 0, (namesF l (numberF l k).1).2, bytesF (namesF l (numberF l k).1).1, bytesF (sliceF l k (numberF l k).1), (numberF l k).2⟩
    else if isB l (numberF l k).1 37 then ⟨11, 0, (numberF l k).1 + 1, [], bytesF (sliceF l k (numberF l k).1), (numberF l k).2⟩
    else ⟨10, 0, (numberF l k).1, [], bytesF (sliceF l k (numberF l k).1), (numberF l k).2⟩ := by
  unfold numericF
  split
  · rfl
  · split <;> rfl

set_option maxRecDepth 100000 in
set_option maxHeartbeats 4000000 in
theorem numericC_any {b off n cap : Nat} {l : List Int} {w : World} (i : Int) (k : Nat) (h : Src w (some ⟨b, off, none⟩) n cap l) (hM : MxW w) (hi : i = (k : Int)) (hk : k < n) :
    Calls Tryz.prog 88 #[.slice (some ⟨b, off, none⟩) n cap, .int .i64 i] w (Told (tkV (tkZ (numericF l k))) w) := by
  subst hi
  have hlen := h.len
  have hsm := h.small
  obtain ⟨hcap1, hcap2⟩ := h.cap
  obtain ⟨hn1, hn2⟩ := numberF_le l k
  have hn2 := hn2 (by omega)
  rw [hlen] at hn2
  have hN : Hid (tkZ (numericF l k) = if nameAt l (numberF l k).1 then ⟨12, 0, (namesF l (numberF l k).1).2, bytesF (namesF l (numberF l k).1).1, bytesF (sliceF l k (numberF l k).1), (numberF l k).2⟩
    else if isB l (numberF l k).1 37 then ⟨11, 0, (numberF l k).1 + 1, [], bytesF (sliceF l k (numberF l k).1), (numberF l k).2⟩
    else ⟨10, 0, (numberF l k).1, [], bytesF (sliceF l k (numberF l k).1), (numberF l k).2⟩) := Lib.hid (numericF_frm l k)
  have HP := Lib.hid h

  have hS1 : ∀ o, Src (w.alloc o) (some ⟨b, off, none⟩) n cap l := fun o => h.later ((Below.refl _ w).alloc (Nat.le_refl _) _)
  have f0 := fun o => passNumber_any (k : Int) k (hS1 o) rfl hk
  have HMx := Lib.hid hM
  clear hM
  have hkc : clampF (k : Int) n = k := clampF_nat k n (by omega)
  have hmc : clampF (((numberF l k).1 : Nat) : Int) n = (numberF l k).1 := clampF_nat _ n hn2
  generalize tkZ (numericF l k) = T at *
  generalize (numberF l k).1 = m at *
  generalize (numberF l k).2 = wh at *
  clear h hlen
  go_enter Tryz.func88, Tryz.ntmps88
  go_wp2_with fail
  refine (f0 _).mono ?_
  rintro e w2 ⟨rfl, rfl⟩
  go_wp2_with fail
  generalize hW1 : w.alloc (.cells #[.int .i64 0, .int .i64 0, .int .i64 0, .string ⟨#[]⟩, .string ⟨#[]⟩, .bool false] 32) = w1 at *
  have hz1 : w1.heap.size = w.heap.size + 1 := by rw [← hW1]; simp
  have hb1 : Below w.heap.size w w1 := by rw [← hW1]; exact (Below.refl _ w).alloc (Nat.le_refl _) _
  have B1 : Blk w1 w.heap.size [.int .i64 0, .int .i64 0, .int .i64 0, .string ⟨#[]⟩, .string ⟨#[]⟩, .bool false] 32 := by rw [← hW1]; exact Blk.alloc _ _
  have hS := HP.out.later hb1
  clear hW1 f0 hS1
  have cT := partText_any (k : Int) (m : Int) hS.rd hS.len hsm
  rw [hkc, hmc, text_pre (pre_slice hS.pre k m)] at cT
  have hMx1 := Lib.hid (HMx.out.later hb1)
  clear hkc hmc
  refine cT.mono ?_
  rintro e w2 ⟨rfl, hb2⟩
  have hS2 := hS.later hb2
  have B2 := B1.later hb2 (by omega)
  have hz2 := hb2.size
  have hbw2 := hb1.trans (hb2.mono (by omega))
  generalize bytesF (sliceF l k m) = num at *
  clear cT B1 hb1 hb2 hS
  go_wp2_with fail
  have hS3 := hS2.later ((Below.refl _ w2).alloc (Nat.le_refl _) (.cells [.int .i64 10, .int .i64 0, .int .i64 m, .string ⟨#[]⟩, .string (strOfNums num), .bool wh].toArray 32))
  have B3 : Blk (w2.alloc (.cells [.int .i64 10, .int .i64 0, .int .i64 m, .string ⟨#[]⟩, .string (strOfNums num), .bool wh].toArray 32)) w2.heap.size [.int .i64 10, .int .i64 0, .int .i64 m, .string ⟨#[]⟩, .string (strOfNums num), .bool wh] 32 := Blk.alloc _ _
  have B3r := B2.alloc_old (.cells [.int .i64 10, .int .i64 0, .int .i64 m, .string ⟨#[]⟩, .string (strOfNums num), .bool wh].toArray 32)
  have hbw3 := hbw2.alloc hbw2.size (.cells [.int .i64 10, .int .i64 0, .int .i64 m, .string ⟨#[]⟩, .string (strOfNums num), .bool wh].toArray 32)
  generalize hW3 : w2.alloc (.cells [.int .i64 10, .int .i64 0, .int .i64 m, .string ⟨#[]⟩, .string (strOfNums num), .bool wh].toArray 32) = w3 at *
  have hz3 : w3.heap.size = w2.heap.size + 1 := by rw [← hW3]; simp
  have hpq : w.heap.size < w2.heap.size := by omega
  generalize w2.heap.size = p at *
  clear hW3 hS2 B2 hbw2
  have f1 := startsName_any (m : Int) m hS3 rfl (by omega)
  rcases hna : nameAt l m with _ | _
  · rw [hna] at f1
    have f2 := stands_any (m : Int) m 37 hS3 rfl (by decide)
    rcases hpc : isB l m 37 with _ | _
    · have hT : T = ⟨10, 0, m, [], num, wh⟩ := by rw [hN.out, if_neg (by rw [hna]; decide), if_neg (by rw [hpc]; decide)]
      rw [hpc] at f2
      have c0 := B3.cell 0 _ rfl
      have c1 := B3.cell 1 _ rfl
      have c2 := B3.cell 2 _ rfl
      have c3 := B3.cell 3 _ rfl
      have c4 := B3.cell 4 _ rfl
      have c5 := B3.cell 5 _ rfl
      refine f1.mono ?_
      rintro e w4 ⟨rfl, hw4⟩; replace hw4 := hw4.symm; subst hw4
      go_wp2_with fail
      refine f2.mono ?_
      rintro e w4 ⟨rfl, hw4⟩; replace hw4 := hw4.symm; subst hw4
      have r0 := B3r.cell 0 _ rfl
      have r1 := B3r.cell 1 _ rfl
      have r2 := B3r.cell 2 _ rfl
      have r3 := B3r.cell 3 _ rfl
      have r4 := B3r.cell 4 _ rfl
      have r5 := B3r.cell 5 _ rfl
      have q0 := B3r.frozen 0
      have q1 := B3r.frozen 1
      have q2 := B3r.frozen 2
      have q3 := B3r.frozen 3
      have q4 := B3r.frozen 4
      have q5 := B3r.frozen 5
      go_wp2
      refine bodyPost_ret (v := .agg #[.int .i64 10, .int .i64 0, .int .i64 m, .string ⟨#[]⟩, .string (strOfNums num), .bool wh]) (by simp [results, Tryz.results88, go_sem, r0, r1, r2, r3, r4, r5]) rfl ⟨by rw [hT]; rfl, ?_⟩
      exact (((((hbw3.setCell (p := ⟨w.heap.size, 0, none⟩) (Nat.le_refl _) _).setCell (p := ⟨w.heap.size, 1, none⟩) (Nat.le_refl _) _).setCell (p := ⟨w.heap.size, 2, none⟩) (Nat.le_refl _) _).setCell (p := ⟨w.heap.size, 3, none⟩) (Nat.le_refl _) _).setCell (p := ⟨w.heap.size, 4, none⟩) (Nat.le_refl _) _).setCell (p := ⟨w.heap.size, 5, none⟩) (Nat.le_refl _) _
    · have hT : T = ⟨11, 0, m + 1, [], num, wh⟩ := by rw [hN.out, if_neg (by rw [hna]; decide), if_pos hpc]
      rw [hpc] at f2
      have hne1 : ¬ w.heap.size = p := by omega
      have hne2 : ¬ p = w.heap.size := by omega
      have c0 := B3.cell 0 _ rfl
      have c1 := B3.cell 1 _ rfl
      have c2 := B3.cell 2 _ rfl
      have c3 := B3.cell 3 _ rfl
      have c4 := B3.cell 4 _ rfl
      have c5 := B3.cell 5 _ rfl
      have zc0 := B3.frozen 0
      have zc1 := B3.frozen 1
      have zc2 := B3.frozen 2
      have zc3 := B3.frozen 3
      have zc4 := B3.frozen 4
      have zc5 := B3.frozen 5
      have r0 := B3r.cell 0 _ rfl
      have r1 := B3r.cell 1 _ rfl
      have r2 := B3r.cell 2 _ rfl
      have r3 := B3r.cell 3 _ rfl
      have r4 := B3r.cell 4 _ rfl
      have r5 := B3r.cell 5 _ rfl
      have zr0 := B3r.frozen 0
      have zr1 := B3r.frozen 1
      have zr2 := B3r.frozen 2
      have zr3 := B3r.frozen 3
      have zr4 := B3r.frozen 4
      have zr5 := B3r.frozen 5
      refine f1.mono ?_
      rintro e w4 ⟨rfl, hw4⟩; replace hw4 := hw4.symm; subst hw4
      go_wp2_with fail
      refine f2.mono ?_
      rintro e w4 ⟨rfl, hw4⟩; replace hw4 := hw4.symm; subst hw4
      go_wp2
      refine bodyPost_ret (v := .agg #[.int .i64 11, .int .i64 0, .int .i64 (m + 1), .string ⟨#[]⟩, .string (strOfNums num), .bool wh]) (by simp [results, Tryz.results88, go_sem, r0, r1, r2, r3, r4, r5]) rfl ⟨by rw [hT]; rfl, ?_⟩
      exact (((((((hbw3.setCell (p := ⟨p, 0, none⟩) (by show w.heap.size ≤ p; omega) _).setCell (p := ⟨p, 2, none⟩) (by show w.heap.size ≤ p; omega) _).setCell (p := ⟨w.heap.size, 0, none⟩) (Nat.le_refl _) _).setCell (p := ⟨w.heap.size, 1, none⟩) (Nat.le_refl _) _).setCell (p := ⟨w.heap.size, 2, none⟩) (Nat.le_refl _) _).setCell (p := ⟨w.heap.size, 3, none⟩) (Nat.le_refl _) _).setCell (p := ⟨w.heap.size, 4, none⟩) (Nat.le_refl _) _).setCell (p := ⟨w.heap.size, 5, none⟩) (Nat.le_refl _) _
  · have hT : T = ⟨12, 0, (namesF l m).2, bytesF (namesF l m).1, num, wh⟩ := by rw [hN.out, if_pos hna]
    rw [hna] at f1
    have hne1 : ¬ w.heap.size = p := by omega
    have hne2 : ¬ p = w.heap.size := by omega
    have c0 := B3.cell 0 _ rfl
    have c1 := B3.cell 1 _ rfl
    have c2 := B3.cell 2 _ rfl
    have c3 := B3.cell 3 _ rfl
    have c4 := B3.cell 4 _ rfl
    have c5 := B3.cell 5 _ rfl
    have zc0 := B3.frozen 0
    have zc1 := B3.frozen 1
    have zc2 := B3.frozen 2
    have zc3 := B3.frozen 3
    have zc4 := B3.frozen 4
    have zc5 := B3.frozen 5
    refine f1.mono ?_
    rintro e w4 ⟨rfl, hw4⟩; replace hw4 := hw4.symm; subst hw4
    have B4 := B3.setCell 0 (.int .i64 12)
    have B4r : Blk (w3.setCell ⟨p, 0, none⟩ (.int .i64 12)) w.heap.size [.int .i64 0, .int .i64 0, .int .i64 0, .string ⟨#[]⟩, .string ⟨#[]⟩, .bool false] 32 := B3r.kept (grown_setCell w3 p 0 _) (by simpa using hne2)
    have hbw4 := hbw3.setCell (p := ⟨p, 0, none⟩) (by show w.heap.size ≤ p; omega) (.int .i64 12)
    have hz4 : (w3.setCell ⟨p, 0, none⟩ (.int .i64 12)).heap.size = w3.heap.size := by simp
    go_wp2_with fail
    clear c0 c1 c2 c3 c4 c5 zc0 zc1 zc2 zc3 zc4 zc5 f1
    generalize w3.setCell ⟨p, 0, none⟩ (.int .i64 12) = w4 at *
    have hS4 := HP.out.later hbw4
    refine (readName_any (m : Int) m hS4 (HMx.out.later hbw4) rfl hn2).mono ?_
    rintro e w5 ⟨rfl, hb5⟩
    have B5 := B4.later hb5 (by omega)
    have B5r := B4r.later hb5 (by omega)
    have hbw5 := hbw4.trans (hb5.mono (by omega))
    clear B4 B4r hb5 hS4 hbw4 B3 B3r hS3 hbw3 hN
    generalize bytesF (namesF l m).1 = txt at *
    generalize (namesF l m).2 = m2 at *
    have c0 := B5.cell 0 _ rfl
    have c1 := B5.cell 1 _ rfl
    have c2 := B5.cell 2 _ rfl
    have c3 := B5.cell 3 _ rfl
    have c4 := B5.cell 4 _ rfl
    have c5 := B5.cell 5 _ rfl
    have zc0 := B5.frozen 0
    have zc1 := B5.frozen 1
    have zc2 := B5.frozen 2
    have zc3 := B5.frozen 3
    have zc4 := B5.frozen 4
    have zc5 := B5.frozen 5
    have r0 := B5r.cell 0 _ rfl
    have r1 := B5r.cell 1 _ rfl
    have r2 := B5r.cell 2 _ rfl
    have r3 := B5r.cell 3 _ rfl
    have r4 := B5r.cell 4 _ rfl
    have r5 := B5r.cell 5 _ rfl
    have zr0 := B5r.frozen 0
    have zr1 := B5r.frozen 1
    have zr2 := B5r.frozen 2
    have zr3 := B5r.frozen 3
    have zr4 := B5r.frozen 4
    have zr5 := B5r.frozen 5
    go_wp2
    refine bodyPost_ret (v := .agg #[.int .i64 12, .int .i64 0, .int .i64 m2, .string (strOfNums txt), .string (strOfNums num), .bool wh]) (by simp [results, Tryz.results88, go_sem, r0, r1, r2, r3, r4, r5]) rfl ⟨by rw [hT]; rfl, ?_⟩
    exact (((((((hbw5.setCell (p := ⟨p, 3, none⟩) (by show w.heap.size ≤ p; omega) _).setCell (p := ⟨p, 2, none⟩) (by show w.heap.size ≤ p; omega) _).setCell (p := ⟨w.heap.size, 0, none⟩) (Nat.le_refl _) _).setCell (p := ⟨w.heap.size, 1, none⟩) (Nat.le_refl _) _).setCell (p := ⟨w.heap.size, 2, none⟩) (Nat.le_refl _) _).setCell (p := ⟨w.heap.size, 3, none⟩) (Nat.le_refl _) _).setCell (p := ⟨w.heap.size, 4, none⟩) (Nat.le_refl _) _).setCell (p := ⟨w.heap.size, 5, none⟩) (Nat.le_refl _) _
end

section
open Go.RowKit Go.Shelf
set_option linter.unusedVariables false
set_option linter.unusedSimpArgs false

theorem quotedGo_frm (l : List Int) (mark : Int) (frm : Nat) : ∀ (f i : Nat) (out : List Int), tkZ (quotedGo f l mark frm i out) = quotedGo f l mark 0 i out
  | 0, i, out => rfl
  | f + 1, i, out => by
    rw [quotedGo, quotedGo]
    split
    · rfl
    · split
      · rfl
      · split
        · rfl
        · split
          · exact quotedGo_frm l mark frm f _ _
          · split
            · exact quotedGo_frm l mark frm f _ _
            · split
              · exact quotedGo_frm l mark frm f _ _
              · exact quotedGo_frm l mark frm f _ _
theorem quotedGo_fuel (l : List Int) (mark : Int) : ∀ (f g i : Nat) (out : List Int), i ≤ l.length → l.length < i + f → l.length < i + g → quotedGo f l mark 0 i out = quotedGo g l mark 0 i out
  | f, g, i, out, hi, hf, hg => by
    obtain ⟨f, rfl⟩ : ∃ f', f = f' + 1 := ⟨f - 1, by omega⟩
    obtain ⟨g, rfl⟩ : ∃ g', g = g' + 1 := ⟨g - 1, by omega⟩
    rw [quotedGo, quotedGo]
    by_cases h1 : l.length ≤ i
    · rw [if_pos h1, if_pos h1]
    · rw [if_neg h1, if_neg h1]
      by_cases h2 : isB l i mark = true
      · rw [if_pos h2, if_pos h2]
      · rw [if_neg h2, if_neg h2]
        by_cases h3 : isB l i 10 = true
        · rw [if_pos h3, if_pos h3]
        · rw [if_neg h3, if_neg h3]
          by_cases h4 : (!isB l i 92) = true
          · rw [if_pos h4, if_pos h4]; exact quotedGo_fuel l mark f g _ _ (by omega) (by omega) (by omega)
          · rw [if_neg h4, if_neg h4]
            by_cases h5 : l.length ≤ i + 1
            · rw [if_pos h5, if_pos h5]; exact quotedGo_fuel l mark f g _ _ (by omega) (by omega) (by omega)
            · rw [if_neg h5, if_neg h5]
              by_cases h6 : isB l (i + 1) 10 = true
              · rw [if_pos h6, if_pos h6]; exact quotedGo_fuel l mark f g _ _ (by omega) (by omega) (by omega)
              · rw [if_neg h6, if_neg h6]
                have := valueF_bd (l := l) (j := i) (by omega)
                exact quotedGo_fuel l mark f g _ _ (by omega) (by omega) (by omega)
def quoF (l : List Int) (mark : Int) (i : Nat) (out : List Int) : Tk := quotedGo (l.length + 1) l mark 0 i out
section
variable {l : List Int} {mark : Int} {i : Nat} {out : List Int}
theorem quoF_end (h : l.length ≤ i) : quoF l mark i out = ⟨5, 0, i, bytesF out, [], false⟩ := by unfold quoF; rw [quotedGo, if_pos h]
theorem quoF_mark (h : i < l.length) (h2 : isB l i mark = true) : quoF l mark i out = ⟨5, 0, i + 1, bytesF out, [], false⟩ := by unfold quoF; rw [quotedGo, if_neg (by omega), if_pos h2]
theorem quoF_bad (h : i < l.length) (h2 : isB l i mark = false) (h3 : isB l i 10 = true) : quoF l mark i out = ⟨6, 0, i, [], [], false⟩ := by
  unfold quoF; rw [quotedGo, if_neg (by omega), if_neg (by rw [h2]; decide), if_pos h3]
theorem quoF_char (h : i < l.length) (h2 : isB l i mark = false) (h3 : isB l i 10 = false) (h4 : isB l i 92 = false) : quoF l mark i out = quoF l mark (i + 1) (out ++ [chA l i]) := by
  unfold quoF
  rw [quotedGo, if_neg (by omega), if_neg (by rw [h2]; decide), if_neg (by rw [h3]; decide), if_pos (by rw [h4]; rfl)]
  exact quotedGo_fuel l mark _ _ _ _ (by omega) (by omega) (by omega)
theorem quoF_last (h : i < l.length) (h2 : isB l i mark = false) (h3 : isB l i 10 = false) (h4 : isB l i 92 = true) (h5 : l.length ≤ i + 1) : quoF l mark i out = quoF l mark (i + 1) out := by
  unfold quoF
  rw [quotedGo, if_neg (by omega), if_neg (by rw [h2]; decide), if_neg (by rw [h3]; decide), if_neg (by rw [h4]; decide), if_pos h5]
  exact quotedGo_fuel l mark _ _ _ _ (by omega) (by omega) (by omega)
theorem quoF_line (h : i + 1 < l.length) (h2 : isB l i mark = false) (h3 : isB l i 10 = false) (h4 : isB l i 92 = true) (h5 : isB l (i + 1) 10 = true) : quoF l mark i out = quoF l mark (i + 2) out := by
  unfold quoF
  rw [quotedGo, if_neg (by omega), if_neg (by rw [h2]; decide), if_neg (by rw [h3]; decide), if_neg (by rw [h4]; decide), if_neg (by omega), if_pos h5]
  exact quotedGo_fuel l mark _ _ _ _ (by omega) (by omega) (by omega)
theorem quoF_esc (h : i + 1 < l.length) (h2 : isB l i mark = false) (h3 : isB l i 10 = false) (h4 : isB l i 92 = true) (h5 : isB l (i + 1) 10 = false) : quoF l mark i out = quoF l mark (valueF l i).2 (out ++ [(valueF l i).1]) := by
  unfold quoF
  rw [quotedGo, if_neg (by omega), if_neg (by rw [h2]; decide), if_neg (by rw [h3]; decide), if_neg (by rw [h4]; decide), if_neg (by omega), if_neg (by rw [h5]; decide)]
  have := valueF_bd (l := l) (j := i) (by omega)
  exact quotedGo_fuel l mark _ _ _ _ (by omega) (by omega) (by omega)
end

set_option maxRecDepth 100000 in
set_option maxHeartbeats 4000000 in
theorem quotedC_any {a : Option Addr} {n cap : Nat} {l : List Int} {w : World} (i : Int) (k : Nat) (h : Src w a n cap l) (hM : MxW w) (hi : i = (k : Int)) (hk : k < n) :
    Calls Tryz.prog 86 #[.slice a n cap, .int .i64 i] w (Told (tkV (quoF l (chA l k) (k + 1) [])) w) := by
  subst hi
  obtain ⟨i0, hi, hz0, hz1, hz2⟩ := info_parts Tryz.info3
  have hsm := h.small
  have HL := Lib.hid h.len
  generalize hR : quoF l (chA l k) (k + 1) [] = R
  have HR := Lib.hid hR
  have HP := Lib.hid h
  have HM := Lib.hid hM
  obtain ⟨b, off, rfl, hc0⟩ := h.cell k hk
  have hc : ∀ o, (w.alloc o).cell? ⟨b, off + k, none⟩ = some (.int .i64 (chA l k)) := fun o => ((Below.refl _ w).alloc (Nat.le_refl _) o).cell (p := ⟨b, off + k, none⟩) (World.block_lt_of_cell? w _ hc0) |>.trans hc0
  clear h hR hM hc0
  generalize hmk : chA l k = mark at *
  have own0 := World.ownsRow_nil (w.alloc (.cells zeroTk.toArray 32)) (w.heap.size + 1) 3 1
  have HB0 := Lib.hid (Blk.alloc (w := w) zeroTk 32)
  have HMK := Lib.hid hmk
  clear hmk
  go_enter Tryz.func86, Tryz.ntmps86
  go_wp2_with fail
  go_loopw [1, 5, 7, 8] (fun v ov _ _ wr => ∃ (j : Nat) (out out' : List Int), v = .int .i64 j ∧ j ≤ n ∧ Hid (quoF l mark j out' = R) ∧ Hid (out.map cleanF = out'.map cleanF) ∧ out.length ≤ j ∧ wr.ownsRow (w.heap.size + 1) 3 1 ov out.length (out.map (Value.int .i64)) ∧ Hid (Blk wr w.heap.size zeroTk 32) ∧ Below w.heap.size w wr) (fun v _ _ _ _ => n - (intOf v).toNat)
  case atStart => exact ⟨k + 1, [], [], by go_num, by omega, HR, Lib.hid rfl, by simp, own0, HB0, (Below.refl _ _).alloc (Nat.le_refl _) _⟩
  case round =>
    obtain ⟨j, out, out', rfl, hj, hG, hE, hol, hown, hB, hbl⟩ := hrel
    have hS := Lib.hid (HP.out.later hbl)
    have HBL := Lib.hid hbl
    have hsz : w.heap.size + 1 ≤ wr.heap.size := hB.out.lt
    clear hbl hc
    have c3 := fun w => within_any (a := some ⟨b, off, none⟩) (n := n) (cap := cap) (w := w) ((j : Int) + 1) (j + 1) (by omega) (by omega) (by omega)
    by_cases hlt : j < n
    · have hlt' : (j : Int) < (n : Int) := by omega
      have hc : wr.cell? ⟨b, off + j, none⟩ = some (.int .i64 (chA l j)) := by
        obtain ⟨b', off', e, hc⟩ := hS.out.cell j hlt
        cases e; exact hc
      have hq : (chA l j != mark) = !isB l j mark := by unfold isB; rfl
      have hq10 : (chA l j == 10) = isB l j 10 := by unfold isB; rfl
      have hq92 : (chA l j != 92) = !isB l j 92 := by unfold isB; rfl
      rcases hm : isB l j mark with _ | _
      · rw [hm] at hq
        rcases h10 : isB l j 10 with _ | _
        · rw [h10] at hq10
          rcases h92 : isB l j 92 with _ | _
          · -- a character
            have e := Lib.hid ((quoF_char (by rw [HL.out]; exact hlt) hm h10 h92).symm.trans hG.out)
            rw [h92] at hq92
            have hE2 := Lib.hid (map_snoc2 hE.out (rfl : cleanF (chA l j) = cleanF (chA l j)))
            clear hm h10 h92 hG c3
            generalize chA l j = z at *
            go_wp2_with (at_builtin; refine wpList_append_reads rfl _ _ 28 rfl (w.heap.size + 1) 3 i0 .i64 8 Tryz.underlying28 hi hz0 hz1 hz2 _ out.length out rfl (hown.alloc _) rfl (some ⟨wr.heap.size, 0, none⟩) 1 1 [z] rfl rfl (reads_new wr .i64 _ 3 1 rfl (by unfold maxLen; omega)) (fun h => by cases h) (by unfold maxLen; omega) (by omega) (by simp <;> omega) ?_; intro v' w3 hown3 hgrow3)
            have hB3 : Blk w3 w.heap.size zeroTk 32 := (hB.out.alloc_old _).kept hgrow3 (fun e => by have := (hown.lt _ e).1; omega)
            have hbl3 : Below w.heap.size w w3 := (HBL.out.alloc (by omega) _).grown hgrow3 (by simp <;> omega) (fun q hq => by have := (hown.lt q hq).1; omega)
            go_roundw
            case rel => exact ⟨j + 1, out ++ [z], out' ++ [z], by go_num, by omega, e, hE2, by rw [List.length_append]; simp; omega, hown3, Lib.hid hB3, hbl3⟩
            case measure => simp [intOf]; omega
          · rw [h92] at hq92
            have f1 := isEscape_any (j : Int) j hS.out rfl (by omega)
            have c4 := fun w => within_any (a := some ⟨b, off, none⟩) (n := n) (cap := cap) (w := w) ((j : Int) + 2) (j + 2) (by omega) (by omega) (by omega)
            by_cases h5 : j + 1 < n
            · have h5' : (j : Int) + 1 < (n : Int) := by omega
              rcases h6 : isB l (j + 1) 10 with _ | _
              · -- an escape
                have e := Lib.hid ((quoF_esc (out := out') (by rw [HL.out]; exact h5) hm h10 h92 h6).symm.trans hG.out)
                have hes : escB l j = true := by unfold escB; rw [h92, h6]; rfl
                rw [hes] at f1
                have hvv := valC_value (l := l) (j := j) HP.out.pre
                have hbd := valueF_bd (l := l) (j := j) (by rw [HL.out]; exact hlt)
                rw [HL.out] at hbd
                have hE2 := Lib.hid (map_snoc2 hE.out hvv.2)
                have f2 := readEscape_any (j : Int) j hS.out rfl hlt
                rw [hvv.1] at f2
                clear hm h10 h92 h6 hes hG c3 c4 hvv
                generalize (valueF l j).2 = j2 at *
                generalize (valueF l j).1 = c' at *
                generalize (valC l j).1 = c at *
                generalize chA l j = z at *
                go_wp2_with (first
                  | (go_at_call 120; (with_reducible refine f1.mono ?_); rintro e w1 ⟨rfl, hw1⟩; replace hw1 := hw1.symm; subst hw1)
                  | (go_at_call 121; (with_reducible refine f2.mono ?_); rintro e w1 ⟨rfl, hw1⟩; replace hw1 := hw1.symm; subst hw1)
                  | (at_builtin; refine wpList_append_reads rfl _ _ 28 rfl (w.heap.size + 1) 3 i0 .i64 8 Tryz.underlying28 hi hz0 hz1 hz2 _ out.length out rfl (hown.alloc _) rfl (some ⟨wr.heap.size, 0, none⟩) 1 1 [c] rfl rfl (reads_new wr .i64 _ 3 1 rfl (by unfold maxLen; omega)) (fun h => by cases h) (by unfold maxLen; omega) (by omega) (by simp <;> omega) ?_; intro v' w3 hown3 hgrow3))
                have hB3 : Blk w3 w.heap.size zeroTk 32 := (hB.out.alloc_old _).kept hgrow3 (fun e => by have := (hown.lt _ e).1; omega)
                have hbl3 : Below w.heap.size w w3 := (HBL.out.alloc (by omega) _).grown hgrow3 (by simp <;> omega) (fun q hq => by have := (hown.lt q hq).1; omega)
                go_roundw
                case rel => exact ⟨j2, out ++ [c], out' ++ [c'], by go_num, by omega, e, hE2, by rw [List.length_append]; simp; omega, hown3, Lib.hid hB3, hbl3⟩
                case measure => simp [intOf]; omega
              · -- an end of a line behind it
                have e := Lib.hid ((quoF_line (out := out') (by rw [HL.out]; exact h5) hm h10 h92 h6).symm.trans hG.out)
                have hes : escB l j = false := by unfold escB; rw [h92, h6]; rfl
                rw [hes] at f1
                rw [Nat.min_eq_left (by omega : j + 2 ≤ n)] at c4
                clear hm h10 h92 h6 hes hG c3
                generalize chA l j = z at *
                go_wp2_with (first
                  | (go_at_call 120; (with_reducible refine f1.mono ?_); rintro e w1 ⟨rfl, hw1⟩; replace hw1 := hw1.symm; subst hw1)
                  | (go_at_call 42; (with_reducible refine (c4 _).mono ?_); rintro e w1 ⟨rfl, hw1⟩; replace hw1 := hw1.symm; subst hw1))
                go_roundw
                case rel => exact ⟨j + 2, out, out', by go_num, by omega, e, hE, by omega, hown, hB, HBL.out⟩
                case measure => simp [intOf]; omega
            · have h5' : ¬ (j : Int) + 1 < (n : Int) := by omega
              have e := Lib.hid ((quoF_last (out := out') (by rw [HL.out]; exact hlt) hm h10 h92 (by rw [HL.out]; omega)).symm.trans hG.out)
              have hj1 : min (j + 2) n = j + 1 := by omega
              rw [hj1] at c4
              clear hm h10 h92 hG c3 f1
              generalize chA l j = z at *
              go_wp2_with (go_at_call 42; (with_reducible refine (c4 _).mono ?_); rintro e w1 ⟨rfl, hw1⟩; replace hw1 := hw1.symm; subst hw1)
              go_roundw
              case rel => exact ⟨j + 1, out, out', by go_num, by omega, e, hE, by omega, hown, hB, HBL.out⟩
              case measure => simp [intOf]; omega
        · -- an end of a line
          rw [h10] at hq10
          have e := Lib.hid ((quoF_bad (out := out') (by rw [HL.out]; exact hlt) hm h10).symm.trans hG.out)
          have r0 := hB.out.cell 0 _ rfl
          have r1 := hB.out.cell 1 _ rfl
          have r2 := hB.out.cell 2 _ rfl
          have r3 := hB.out.cell 3 _ rfl
          have r4 := hB.out.cell 4 _ rfl
          have r5 := hB.out.cell 5 _ rfl
          have q0 := hB.out.frozen 0
          have q1 := hB.out.frozen 1
          have q2 := hB.out.frozen 2
          have q3 := hB.out.frozen 3
          have q4 := hB.out.frozen 4
          have q5 := hB.out.frozen 5
          clear hm h10 hG c3 hq92
          generalize chA l j = z at *
          go_wp2
          refine bodyPost_ret (v := .agg #[.int .i64 6, .int .i64 0, .int .i64 j, .string ⟨#[]⟩, .string ⟨#[]⟩, .bool false]) (by simp [results, Tryz.results86, go_sem, r0, r1, r2, r3, r4, r5]) rfl ⟨by rw [← e.out]; rfl, ?_⟩
          exact below_set6 HBL.out (Nat.le_refl _) _ _ _ _ _ _
      · -- the mark
        rw [hm] at hq
        have e := Lib.hid ((quoF_mark (out := out') (by rw [HL.out]; exact hlt) hm).symm.trans hG.out)
        rw [Nat.min_eq_left (by omega : j + 1 ≤ n)] at c3
        obtain ⟨a2, c2, hv, hrd⟩ := Reads.of_owns hown
        subst hv
        have cT := tokText_any a2 c2 out.length out wr rfl hrd (by omega) (HM.out.later HBL.out)
        clear hm hG hq10 hq92 hown
        generalize chA l j = z at *
        go_wp2_with (go_at_call 42; (with_reducible refine (c3 _).mono ?_); rintro e w1 ⟨rfl, hw1⟩; replace hw1 := hw1.symm; subst hw1)
        refine cT.mono ?_
        rintro e w2 ⟨rfl, hb2⟩
        have hB2 := hB.out.later hb2 (by omega)
        have hbl2 := HBL.out.trans (hb2.mono (by omega))
        have r0 := hB2.cell 0 _ rfl
        have r1 := hB2.cell 1 _ rfl
        have r2 := hB2.cell 2 _ rfl
        have r3 := hB2.cell 3 _ rfl
        have r4 := hB2.cell 4 _ rfl
        have r5 := hB2.cell 5 _ rfl
        have q0 := hB2.frozen 0
        have q1 := hB2.frozen 1
        have q2 := hB2.frozen 2
        have q3 := hB2.frozen 3
        have q4 := hB2.frozen 4
        have q5 := hB2.frozen 5
        clear cT hb2
        go_wp2
        refine bodyPost_ret (v := .agg #[.int .i64 5, .int .i64 0, .int .i64 (j + 1 : Nat), .string (strOfNums (bytesF out)), .string ⟨#[]⟩, .bool false]) (by simp [results, Tryz.results86, go_sem, r0, r1, r2, r3, r4, r5]) rfl ⟨by rw [← e.out, bytesF_same hE.out]; rfl, ?_⟩
        exact below_set6 hbl2 (Nat.le_refl _) _ _ _ _ _ _
    · obtain rfl : j = n := by omega
      have hlt' : ¬ (j : Int) < (j : Int) := by omega
      have e := Lib.hid ((quoF_end (out := out') (by rw [HL.out]; exact Nat.le_refl _)).symm.trans hG.out)
      rw [Nat.min_eq_right (by omega : j ≤ j + 1)] at c3
      obtain ⟨a2, c2, hv, hrd⟩ := Reads.of_owns hown
      subst hv
      have cT := tokText_any a2 c2 out.length out wr rfl hrd (by omega) (HM.out.later HBL.out)
      clear hG hown hlt
      go_wp2_with (go_at_call 42; (with_reducible refine (c3 _).mono ?_); rintro e w1 ⟨rfl, hw1⟩; replace hw1 := hw1.symm; subst hw1)
      refine cT.mono ?_
      rintro e w2 ⟨rfl, hb2⟩
      have hB2 := hB.out.later hb2 (by omega)
      have hbl2 := HBL.out.trans (hb2.mono (by omega))
      have r0 := hB2.cell 0 _ rfl
      have r1 := hB2.cell 1 _ rfl
      have r2 := hB2.cell 2 _ rfl
      have r3 := hB2.cell 3 _ rfl
      have r4 := hB2.cell 4 _ rfl
      have r5 := hB2.cell 5 _ rfl
      have q0 := hB2.frozen 0
      have q1 := hB2.frozen 1
      have q2 := hB2.frozen 2
      have q3 := hB2.frozen 3
      have q4 := hB2.frozen 4
      have q5 := hB2.frozen 5
      clear cT hb2
      go_wp2
      refine bodyPost_ret (v := .agg #[.int .i64 5, .int .i64 0, .int .i64 (j : Nat), .string (strOfNums (bytesF out)), .string ⟨#[]⟩, .bool false]) (by simp [results, Tryz.results86, go_sem, r0, r1, r2, r3, r4, r5]) rfl ⟨by rw [← e.out, bytesF_same hE.out]; rfl, ?_⟩
      exact below_set6 hbl2 (Nat.le_refl _) _ _ _ _ _ _
end
end Go.Proofs.YtickcbmfboajiaaGreatDoor
