/- Several texts of mine in one. -/
import Derived.Test.YtdopmkiogmejaaaDoorTn4
import Derived.Test.YtdopmkiogmejaaaDoorRep
import Derived.Test.YtdopmkiogmejaaaDoorRaw
import Derived.Test.YtdopmkiogmejaaaDoorShelf
import Derived.Test.YtdopmkiogmejaaaDoorAppend
import Derived.Test.YtdopmkiogmejaaaDoorTks
namespace Go.Proofs.YtdopmkiogmejaaaDoor
section
open Go.RowKit Go.Shelf
set_option linter.unusedVariables false
set_option linter.unusedSimpArgs false

def u8 (z : Int) : UInt8 := UInt8.ofNat z.toNat
theorem u8_zero {z : Int} (h0 : 0 ≤ z) (h1 : z ≤ 255) : u8 z = 0 ↔ z = 0 := by
  unfold u8
  constructor
  · intro h
    have h2 := congrArg UInt8.toNat h
    rw [UInt8.toNat_ofNat'] at h2
    have h3 : (0 : UInt8).toNat = 0 := rfl
    omega
  · rintro rfl; rfl
theorem putF_nz {d : Int} (h : 1 ≤ d) (h2 : d < 1114112) : ∀ z ∈ putF d, 1 ≤ z ∧ z ≤ 255 := by
  intro z hz
  unfold putF at hz
  split at hz
  · simp at hz; omega
  · split at hz
    · simp at hz; omega
    · split at hz
      · simp at hz; omega
      · simp at hz; omega
theorem clean_char (c : Int) : (c = 0 ∧ charOf c = 0 ∧ charOf (cleanF c) = 65533) ∨ (charOf c ≠ 0 ∧ charOf (cleanF c) = charOf c) := by
  by_cases h : c = 0
  · subst h; exact .inl ⟨rfl, by decide, by decide⟩
  · refine .inr ⟨?_, ?_⟩
    · unfold charOf
      split
      · exact h
      · decide
    · unfold cleanF
      rw [if_neg h]
      have := charOf_right c
      generalize charOf c = d at *
      unfold charOf
      rw [if_pos this]
def rep0 (b : UInt8) : List UInt8 := if b = 0 then [239, 191, 189] else [b]
theorem rep_char (c : Int) : ((putF (charOf c)).map u8).flatMap rep0 = (putF (charOf (cleanF c))).map u8 := by
  rcases clean_char c with ⟨_, h1, h2⟩ | ⟨h1, h2⟩
  · rw [h1, h2]; decide
  · rw [h2]
    have hr := right_bd (charOf_right c)
    have hn := putF_nz (d := charOf c) (by omega) hr.2
    generalize putF (charOf c) = zs at *
    induction zs with
    | nil => rfl
    | cons z zs ih =>
      have hz := hn z (List.mem_cons_self ..)
      rw [List.map_cons, List.flatMap_cons, ih (fun y hy => hn y (List.mem_cons_of_mem _ hy))]
      unfold rep0
      rw [if_neg (fun h => by have := (u8_zero (by omega) hz.2).1 h; omega)]; rfl
theorem rep_text (zs : List Int) : Lib.replaceAll ((textF zs).map u8) [0] [239, 191, 189] = (bytesF zs).map u8 := by
  rw [replaceAll_one 0 [239, 191, 189] (by decide)]
  show List.flatMap rep0 _ = _
  unfold bytesF textF
  induction zs with
  | nil => rfl
  | cons c zs ih =>
    rw [List.flatMap_cons, List.map_cons, List.flatMap_cons, List.map_append, List.map_append, List.flatMap_append, rep_char, ih]

/-- A cell of the library that bounds what it searches. -/
def MxW (w : World) : Prop := ∃ m, w.cell? ⟨1, 0, none⟩ = some (.int .i64 m)
theorem MxW.lt {w : World} (h : MxW w) : 1 < w.heap.size := let ⟨_, h⟩ := h; World.block_lt_of_cell? w _ h
theorem MxW.later {w w' : World} (h : MxW w) (hb : Below w.heap.size w w') : MxW w' := let ⟨m, h'⟩ := h; ⟨m, (hb.cell (p := ⟨1, 0, none⟩) h.lt).trans h'⟩

set_option maxRecDepth 100000 in
set_option maxHeartbeats 1000000 in
theorem tokText_any (a : Option Addr) (cap n : Nat) (zs : List Int) (w : World) (hn : zs.length = n) (hr : Reads w .i64 a cap zs) (hsm : n ≤ 100000) (hM : MxW w) :
    Calls Tryd.prog 49 #[.slice a n cap] w (Told (.string (strOfNums (bytesF zs))) w) := by
  have cT := text_any a cap n zs w hn hr hsm
  have hlen := textF_len zs
  have hd : (strOfNums (textF zs)).data.toList = (textF zs).map u8 := strOfNums_data _
  have hd2 : (⟨((bytesF zs).map u8).toArray⟩ : ByteArray) = strOfNums (bytesF zs) := rfl
  have hrep := rep_text zs
  have cR : ∀ w', MxW w' → Calls Tryd.prog 60 #[.string (strOfNums (textF zs)), .string ⟨#[0]⟩, .string ⟨#[239, 191, 189]⟩] w' (Told (.string (strOfNums (bytesF zs))) w') := fun w' ⟨m, hm⟩ => by
    have hsz : (strOfNums (textF zs)).size ≤ 400000 := by rw [strOfNums_size]; omega
    have hc := Lib.countB_le ⟨#[0]⟩ (by decide) _ (strOfNums (textF zs)) (Nat.le_refl _)
    refine (Tryd.strings_ReplaceAll (strOfNums (textF zs)) ⟨#[0]⟩ ⟨#[239, 191, 189]⟩ m w' (by omega) hm (by decide) (by have : (⟨#[239, 191, 189]⟩ : ByteArray).size = 3 := rfl; rw [this]; omega)).mono ?_
    rintro e w2 ⟨rfl, hb⟩
    refine ⟨?_, hb⟩
    rw [hd]
    show Ending.returned (.string ⟨(Lib.replaceAll ((textF zs).map u8) [0] [239, 191, 189]).toArray⟩) = _
    rw [hrep, hd2]
  have HM := Lib.hid hM
  have HR := Lib.hid cR
  clear cR hd hd2 hrep hM
  go_enter Tryd.func49, Tryd.ntmps49
  go_wp2_with fail
  refine cT.mono ?_
  rintro e w1 ⟨a1, c1, rfl, hr1, hb1, _, _⟩
  have cv := conv3_any w1 24 5 9 Tryd.underlying24 Tryd.underlying5 Tryd.underlying9 a1 (textF zs).length c1 (textF zs) rfl hr1
  have c2 := HR.out w1 (HM.out.later hb1)
  clear hr1 cT HR
  generalize strOfNums (textF zs) = S at *
  generalize strOfNums (bytesF zs) = B at *
  go_wp2_with (go_at_call 60; refine c2.mono ?_; rintro e w2 ⟨rfl, hb2⟩)
  go_ret
  exact ⟨rfl, below_trans hb1 hb2⟩
end

section
open Go.RowKit Go.Shelf
set_option linter.unusedVariables false
set_option linter.unusedSimpArgs false

theorem nm_esc {l : List Int} {j : Nat} (h : nmB l j = true) : escB l j = false := by
  unfold escB
  rcases hq : isB l j 92 with _ | _
  · rfl
  · unfold nmB at h
    rw [isB_iff.1 hq] at h
    exact absurd h (by decide)
theorem map_snoc2 {f : Int → Int} {xs ys : List Int} {x y : Int} (h : xs.map f = ys.map f) (h2 : f x = f y) : (xs ++ [x]).map f = (ys ++ [y]).map f := by
  rw [List.map_append, List.map_append, h, List.map_cons, List.map_cons, h2]
theorem bytesF_same {xs ys : List Int} (h : xs.map cleanF = ys.map cleanF) : bytesF xs = bytesF ys := by unfold bytesF; rw [h]
theorem ret_si {k : IntKind} {a b : ByteArray} {c d : Int} (h : a = b) (h2 : c = d) : Ending.returned (.tuple #[.string a, .int k c]) = .returned (.tuple #[.string b, .int k d]) := by rw [h, h2]

set_option maxRecDepth 100000 in
set_option maxHeartbeats 4000000 in
theorem readName_any {a : Option Addr} {n cap : Nat} {l : List Int} {w : World} (i : Int) (k : Nat) (h : Src w a n cap l) (hM : MxW w) (hi : i = (k : Int)) (hk : k ≤ n) :
    Calls Tryd.prog 42 #[.slice a n cap, .int .i64 i] w (Told (.tuple #[.string (strOfNums (bytesF (namesF l k).1)), .int .i64 ((namesF l k).2 : Nat)]) w) := by
  subst hi
  obtain ⟨i0, hi, hz0, hz1, hz2⟩ := info_parts Tryd.info3
  have hlen := h.len
  have hsm := h.small
  have own0 := World.ownsRow_nil w w.heap.size 3 1
  generalize hR : namesF l k = R
  unfold namesF at hR
  rw [hlen] at hR
  have HR := Lib.hid hR; clear hR
  have HL := Lib.hid hlen; clear hlen
  have HP := Lib.hid h; clear h
  have HM := Lib.hid hM; clear hM
  go_enter Tryd.func42, Tryd.ntmps42
  go_wp2_with fail
  go_loopw [1, 6, 7, 8] (fun at_ v _ _ wr => ∃ (f j : Nat) (acc acc' : List Int), at_ = .int .i64 j ∧ wr.ownsRow w.heap.size 3 1 v acc.length (acc.map (Value.int .i64)) ∧ Hid (namesGo f l j acc' = R) ∧ Hid (acc.map cleanF = acc'.map cleanF) ∧ n < j + f ∧ j ≤ n ∧ acc.length ≤ j ∧ Below w.heap.size w wr)
    (fun at_ _ _ _ _ => n - (intOf at_).toNat)
  case atStart => exact ⟨n + 1, k, [], [], rfl, own0, HR, Lib.hid rfl, by omega, hk, by simp, Below.refl _ _⟩
  case round =>
    obtain ⟨f, j, acc, acc', rfl, hown, hG, hE, hf, hj, hal, hbl⟩ := hrel
    have hS := Lib.hid (HP.out.later hbl)
    have hsz := hbl.size
    obtain ⟨f, rfl⟩ : ∃ g, f = g + 1 := ⟨f - 1, by omega⟩
    have f0 := hasName_any (j : Int) j hS.out rfl (by omega)
    have f1 := isEscape_any (j : Int) j hS.out rfl (by omega)
    rcases hnm : nmB l j with _ | _
    · rw [hnm] at f0
      rcases hes : escB l j with _ | _
      · have hEE : R = (acc', j) := by rw [← hG.out, namesGo, if_neg (by rw [hnm]; decide), if_neg (by rw [hes]; decide)]
        rw [hes] at f0
        obtain ⟨a2, c2, hv, hrd⟩ := Reads.of_owns hown
        subst hv
        have cT := tokText_any a2 c2 acc.length acc wr rfl hrd (by omega) (HM.out.later hbl)
        have HQ := Lib.hid hEE
        clear hG hnm hes hown f1 hEE
        go_wp2_with ((go_at_call 43; (with_reducible refine f0.mono ?_)); rintro e w1 ⟨rfl, hw1⟩; replace hw1 := hw1.symm; subst hw1)
        refine cT.mono ?_
        rintro e w2 ⟨rfl, hb2⟩
        go_wp2
        go_ret2
        exact ⟨by rw [HQ.out]; exact ret_si (by rw [bytesF_same hE.out]) rfl, hbl.trans (hb2.mono hbl.size)⟩
      · have hjn : j < n := by have := lt_of_escB hes; rw [HL.out] at this; exact this
        obtain ⟨hv1, hv2⟩ := valueF_bd (l := l) (j := j) (by rw [HL.out]; exact hjn)
        rw [HL.out] at hv2
        have hvv := valC_value (l := l) (j := j) HP.out.pre
        have hG2 : Hid (namesGo f l (valueF l j).2 (acc' ++ [(valueF l j).1]) = R) := Lib.hid (by rw [← hG.out]; conv => rhs; rw [namesGo, if_neg (by rw [hnm]; decide), if_pos hes])
        have hE2 := Lib.hid (map_snoc2 hE.out hvv.2)
        rw [hes] at f0 f1
        have f2 := readEscape_any (j : Int) j hS.out rfl hjn
        rw [hvv.1] at f2
        obtain ⟨b, off, rfl, hc⟩ := hS.out.cell j hjn
        clear hG hnm hes hvv
        generalize (valueF l j).2 = j2 at *
        generalize (valueF l j).1 = c' at *
        generalize (valC l j).1 = c at *
        generalize chA l j = z at *
        go_wp2_with (first
          | (go_at_call 43; (with_reducible refine f0.mono ?_); rintro e w1 ⟨rfl, hw1⟩; replace hw1 := hw1.symm; subst hw1)
          | (go_at_call 47; (with_reducible refine f1.mono ?_); rintro e w1 ⟨rfl, hw1⟩; replace hw1 := hw1.symm; subst hw1)
          | (go_at_call 48; (with_reducible refine f2.mono ?_); rintro e w1 ⟨rfl, hw1⟩; replace hw1 := hw1.symm; subst hw1)
          | (at_builtin; refine wpList_append_reads rfl _ _ 34 rfl w.heap.size 3 i0 .i64 8 Tryd.underlying34 hi hz0 hz1 hz2 _ acc.length acc rfl (hown.alloc _) rfl (some ⟨wr.heap.size, 0, none⟩) 1 1 [c] rfl rfl (reads_new wr .i64 _ 3 1 rfl (by unfold maxLen; omega)) (fun h => by cases h) (by unfold maxLen; omega) (by omega) (by simp <;> omega) ?_; intro v' w3 hown3 hgrow3))
        have hbl3 : Below w.heap.size w w3 := (hbl.alloc hsz _).grown hgrow3 (by simp <;> omega) (fun j hj => (hown.lt j hj).1)
        go_roundw
        case rel => exact ⟨f, j2, acc ++ [c], acc' ++ [c'], by go_num, hown3, hG2, hE2, by omega, by omega, by rw [List.length_append]; simp; omega, hbl3⟩
        case measure => simp [intOf]; omega
    · have hjn : j < n := by have := lt_of_nmB hnm; rw [HL.out] at this; exact this
      have hG2 : Hid (namesGo f l (j + 1) (acc' ++ [chA l j]) = R) := Lib.hid (by rw [← hG.out]; conv => rhs; rw [namesGo, if_pos hnm])
      have hE2 := Lib.hid (map_snoc2 hE.out (rfl : cleanF (chA l j) = cleanF (chA l j)))
      obtain ⟨b, off, rfl, hc⟩ := hS.out.cell j hjn
      rw [nm_esc hnm] at f1
      rw [hnm] at f0
      clear hG hnm
      generalize escB l j = q at *
      generalize chA l j = c at *
      go_wp2_with (first
        | (go_at_call 43; (with_reducible refine f0.mono ?_); rintro e w1 ⟨rfl, hw1⟩; replace hw1 := hw1.symm; subst hw1)
        | (go_at_call 47; (with_reducible refine f1.mono ?_); rintro e w1 ⟨rfl, hw1⟩; replace hw1 := hw1.symm; subst hw1)
        | (at_builtin; refine wpList_append_reads rfl _ _ 34 rfl w.heap.size 3 i0 .i64 8 Tryd.underlying34 hi hz0 hz1 hz2 _ acc.length acc rfl (hown.alloc _) rfl (some ⟨wr.heap.size, 0, none⟩) 1 1 [c] rfl rfl (reads_new wr .i64 _ 3 1 rfl (by unfold maxLen; omega)) (fun h => by cases h) (by unfold maxLen; omega) (by omega) (by simp <;> omega) ?_; intro v' w3 hown3 hgrow3))
      have hbl3 : Below w.heap.size w w3 := (hbl.alloc hsz _).grown hgrow3 (by simp <;> omega) (fun j hj => (hown.lt j hj).1)
      go_roundw
      case rel => exact ⟨f, j + 1, acc ++ [c], acc' ++ [c], by go_num, hown3, hG2, hE2, by omega, by omega, by rw [List.length_append]; simp; omega, hbl3⟩
      case measure => simp [intOf]; omega
end

section
open Go.RowKit Go.Shelf
set_option linter.unusedVariables false
set_option linter.unusedSimpArgs false

/-- A token whose place is not told yet. -/
def tkZ (t : Tk) : Tk := { t with frm := 0 }
theorem below_set6 {B p : Nat} {w wr : World} (h : Below B w wr) (hp : B ≤ p) (v0 v1 v2 v3 v4 v5 : Value) :
    Below B w ((((((wr.setCell ⟨p, 0, none⟩ v0).setCell ⟨p, 1, none⟩ v1).setCell ⟨p, 2, none⟩ v2).setCell ⟨p, 3, none⟩ v3).setCell ⟨p, 4, none⟩ v4).setCell ⟨p, 5, none⟩ v5) :=
  (((((h.setCell (p := ⟨p, 0, none⟩) hp _).setCell (p := ⟨p, 1, none⟩) hp _).setCell (p := ⟨p, 2, none⟩) hp _).setCell (p := ⟨p, 3, none⟩) hp _).setCell (p := ⟨p, 4, none⟩) hp _).setCell (p := ⟨p, 5, none⟩) hp _
def zeroTk : List Value := [.int .i64 0, .int .i64 0, .int .i64 0, .string ⟨#[]⟩, .string ⟨#[]⟩, .bool false]

theorem Reads.part {w : World} {a : Option Addr} {n cap : Nat} {l : List Int} (h : Reads w .i64 a cap l) (hn : l.length = n) (i j : Nat) (hij : i < j) (hj : j ≤ n) :
    ∃ b off, a = some ⟨b, off, none⟩ ∧ Reads w .i64 (some ⟨b, off + i, none⟩) (cap - i) (sliceF l i j) ∧ (sliceF l i j).length = j - i := by
  obtain ⟨h1, h2, h3⟩ := h
  have hl : (sliceF l i j).length = j - i := by unfold sliceF; rw [List.length_take, List.length_drop, hn]; omega
  rcases h3 with h3 | ⟨b, off, rfl, hat⟩
  · rw [h3] at hn; simp at hn; omega
  · exact ⟨b, off, rfl, ⟨by rw [hl]; omega, by omega, .inr ⟨_, _, rfl, (hat.drop i).take (j - i)⟩⟩, hl⟩
/-- A place as one of so many. -/
def clampF (x : Int) (n : Nat) : Nat := (max 0 (min x (n : Int))).toNat
theorem clampF_eq (x : Int) (n : Nat) : ((clampF x n : Nat) : Int) = max 0 (min x (n : Int)) := by unfold clampF; omega
theorem clampF_le (x : Int) (n : Nat) : clampF x n ≤ n := by unfold clampF; omega
theorem clampF_nat (k n : Nat) (h : k ≤ n) : clampF (k : Int) n = k := by unfold clampF; omega
set_option maxRecDepth 100000 in
theorem within_int {a : Option Addr} {n cap : Nat} {w : World} (x : Int) : Calls Tryd.prog 29 #[.slice a n cap, .int .i64 x] w (Tells (.int .i64 ((clampF x n : Nat) : Int)) w) := by
  rw [clampF_eq]
  go_enter Tryd.func29, Tryd.ntmps29
  go_wp2
  all_goals
    go_ret
    exact ⟨ret_int (by omega), rfl⟩

set_option maxRecDepth 100000 in
set_option maxHeartbeats 1000000 in
theorem partText_any {a : Option Addr} {n cap : Nat} {l : List Int} {w : World} (x y : Int) (hr : Reads w .i64 a cap l) (hn : l.length = n) (hsm : n ≤ 100000) :
    Calls Tryd.prog 54 #[.slice a n cap, .int .i64 x, .int .i64 y] w (Told (.string (strOfNums (textF (sliceF l (clampF x n) (clampF y n))))) w) := by
  have c1 := within_int (a := a) (n := n) (cap := cap) (w := w) x
  have c2 := within_int (a := a) (n := n) (cap := cap) (w := w) y
  have hp := clampF_le x n
  have hq := clampF_le y n
  generalize clampF x n = p at *
  generalize clampF y n = q at *
  have hcap : n ≤ cap ∧ cap ≤ 9223372036854775807 := ⟨by have := hr.1; omega, hr.2.1⟩
  obtain ⟨hcap1, hcap2⟩ := hcap
  by_cases hlt : p < q
  · obtain ⟨b, off, rfl, hrd, hlen⟩ := hr.part hn p q hlt hq
    have cT := text_any (some ⟨b, off + p, none⟩) (cap - p) (q - p) (sliceF l p q) w hlen hrd (by omega)
    have hg : ¬ (p : Int) ≥ (q : Int) := by omega
    generalize sliceF l p q = zs at *
    clear hr
    go_enter Tryd.func54, Tryd.ntmps54
    go_wp2_with (go_at_call 29; first | ((with_reducible refine c1.mono ?_); rintro e w' ⟨rfl, rfl⟩) | ((with_reducible refine c2.mono ?_); rintro e w' ⟨rfl, rfl⟩))
    refine cT.mono ?_
    rintro e w1 ⟨a1, c1, rfl, hr1, hb1, _, _⟩
    have cv := conv3_any w1 24 5 9 Tryd.underlying24 Tryd.underlying5 Tryd.underlying9 a1 (textF zs).length c1 (textF zs) rfl hr1
    clear hr1
    go_wp2
    go_ret
    exact ⟨rfl, hb1⟩
  · have hg : (p : Int) ≥ (q : Int) := by omega
    have e : sliceF l p q = [] := by unfold sliceF; rw [show q - p = 0 by omega]; rfl
    rw [e]
    clear hr e
    go_enter Tryd.func54, Tryd.ntmps54
    go_wp2_with (go_at_call 29; first | ((with_reducible refine c1.mono ?_); rintro e w' ⟨rfl, rfl⟩) | ((with_reducible refine c2.mono ?_); rintro e w' ⟨rfl, rfl⟩))
    go_ret
    exact ⟨rfl, Below.refl _ _⟩
theorem text_pre {zs : List Int} (h : Pre zs) : textF zs = bytesF zs := by
  unfold bytesF textF
  rw [List.flatMap_map]
  induction zs with
  | nil => rfl
  | cons c zs ih =>
    rw [List.flatMap_cons, List.flatMap_cons, ih (fun y hy => h y (List.mem_cons_of_mem _ hy))]
    have hc := h c (List.mem_cons_self ..)
    rcases clean_char c with ⟨h0, _, _⟩ | ⟨_, h2⟩
    · omega
    · rw [h2]
theorem pre_slice {l : List Int} (h : Pre l) (i j : Nat) : Pre (sliceF l i j) := fun c hc => h c (List.mem_of_mem_drop (List.mem_of_mem_take hc))

/-- The rest of a url that isn't right. -/
theorem restGo_frm (l : List Int) (frm : Nat) : ∀ (f i : Nat), tkZ (restGo f l frm i) = restGo f l 0 i
  | 0, i => rfl
  | f + 1, i => by
    rw [restGo, restGo]
    split
    · rfl
    · split
      · rfl
      · split
        · exact restGo_frm l frm f _
        · exact restGo_frm l frm f _
theorem restGo_fuel (l : List Int) : ∀ (f g i : Nat), l.length < i + f → l.length < i + g → restGo f l 0 i = restGo g l 0 i
  | f, g, i, hf, hg => by
    by_cases h1 : l.length ≤ i
    · have : ∀ f, restGo f l 0 i = ⟨8, 0, l.length, [], [], false⟩ := fun f => by cases f with | zero => rfl | succ f => rw [restGo, if_pos h1]
      rw [this, this]
    · obtain ⟨f, rfl⟩ : ∃ f', f = f' + 1 := ⟨f - 1, by omega⟩
      obtain ⟨g, rfl⟩ : ∃ g', g = g' + 1 := ⟨g - 1, by omega⟩
      rw [restGo, restGo, if_neg h1, if_neg h1]
      by_cases h2 : isB l i 41 = true
      · rw [if_pos h2, if_pos h2]
      · rw [if_neg h2, if_neg h2]
        by_cases h3 : escB l i = true
        · rw [if_pos h3, if_pos h3]
          have := (valueF_bd (lt_of_escB h3)).1
          exact restGo_fuel l f g _ (by omega) (by omega)
        · rw [if_neg h3, if_neg h3]
          exact restGo_fuel l f g _ (by omega) (by omega)
theorem restF_end {l : List Int} {i : Nat} (h : l.length ≤ i) : restF l 0 i = ⟨8, 0, l.length, [], [], false⟩ := by unfold restF; rw [restGo, if_pos h]
theorem restF_close {l : List Int} {i : Nat} (h : i < l.length) (h2 : isB l i 41 = true) : restF l 0 i = ⟨8, 0, i + 1, [], [], false⟩ := by unfold restF; rw [restGo, if_neg (by omega), if_pos h2]
theorem restF_esc {l : List Int} {i : Nat} (h2 : isB l i 41 = false) (h3 : escB l i = true) : restF l 0 i = restF l 0 (valueF l i).2 := by
  have h := lt_of_escB h3
  unfold restF
  rw [restGo, if_neg (by omega), if_neg (by rw [h2]; decide), if_pos h3]
  have := (valueF_bd h).1
  exact restGo_fuel l _ _ _ (by omega) (by omega)
theorem restF_other {l : List Int} {i : Nat} (h : i < l.length) (h2 : isB l i 41 = false) (h3 : escB l i = false) : restF l 0 i = restF l 0 (i + 1) := by
  unfold restF
  rw [restGo, if_neg (by omega), if_neg (by rw [h2]; decide), if_neg (by rw [h3]; decide)]
  exact restGo_fuel l _ _ _ (by omega) (by omega)

set_option maxRecDepth 100000 in
set_option maxHeartbeats 4000000 in
theorem badURL_any {a : Option Addr} {n cap : Nat} {l : List Int} {w : World} (i : Int) (k : Nat) (h : Src w a n cap l) (hi : i = (k : Int)) (hk : k ≤ n) :
    Calls Tryd.prog 65 #[.slice a n cap, .int .i64 i] w (Told (tkV (restF l 0 k)) w) := by
  subst hi
  have hsm := h.small
  have HL := Lib.hid h.len
  generalize hR : restF l 0 k = R
  have HR := Lib.hid hR
  have HP := Lib.hid h
  clear h hR
  have HB0 := Lib.hid (Blk.alloc (w := w) zeroTk 29)
  go_enter Tryd.func65, Tryd.ntmps65
  go_wp2_with fail
  go_loopw [1] (fun v wr => ∃ j : Nat, v = .int .i64 j ∧ j ≤ n ∧ Hid (restF l 0 j = R) ∧ Hid (Blk wr w.heap.size zeroTk 29) ∧ Below w.heap.size w wr) (fun v _ => n - (intOf v).toNat)
  case atStart => exact ⟨k, rfl, hk, HR, HB0, (Below.refl _ _).alloc (Nat.le_refl _) _⟩
  case round =>
    obtain ⟨j, rfl, hj, hG, hB, hbl⟩ := hrel
    have hS := Lib.hid (HP.out.later hbl)
    have HBL := Lib.hid hbl
    clear hbl
    have c3 := fun w => within_any (a := a) (n := n) (cap := cap) (w := w) ((j : Int) + 1) (j + 1) (by omega) (by omega) (by omega)
    by_cases hlt : j < n
    · have hlt' : (j : Int) < (n : Int) := by omega
      have f1 := isEscape_any (j : Int) j hS.out rfl (by omega)
      obtain ⟨b, off, rfl, hc⟩ := hS.out.cell j hlt
      have hq : (chA l j != 41) = !isB l j 41 := by unfold isB; rfl
      rcases h41 : isB l j 41 with _ | _
      · rw [h41] at hq
        rcases hes : escB l j with _ | _
        · have e := Lib.hid ((restF_other (by rw [HL.out]; exact hlt) h41 hes).symm.trans hG.out)
          rw [hes] at f1
          clear hes h41 hG c3
          generalize chA l j = z at *
          go_wp2_with (go_at_call 47; (with_reducible refine f1.mono ?_); rintro e w' ⟨rfl, rfl⟩)
          go_roundw
          case rel => exact ⟨j + 1, by go_num, by omega, e, hB, HBL.out⟩
          case measure => simp [intOf]; omega
        · have e := Lib.hid ((restF_esc h41 hes).symm.trans hG.out)
          have hbd := valueF_bd (l := l) (j := j) (by rw [HL.out]; exact hlt)
          rw [HL.out] at hbd
          have f2 := readEscape_any (j : Int) j hS.out rfl hlt
          rw [(valC_value (l := l) (j := j) HP.out.pre).1] at f2
          rw [hes] at f1
          clear hes h41 hG c3
          generalize (valueF l j).2 = j2 at *
          generalize (valC l j).1 = c at *
          generalize chA l j = z at *
          go_wp2_with (first
            | (go_at_call 47; (with_reducible refine f1.mono ?_); rintro e w' ⟨rfl, rfl⟩)
            | (go_at_call 48; (with_reducible refine f2.mono ?_); rintro e w' ⟨rfl, rfl⟩))
          go_roundw
          case rel => exact ⟨j2, by go_num, by omega, e, hB, HBL.out⟩
          case measure => simp [intOf]; omega
      · have e := Lib.hid ((restF_close (by rw [HL.out]; exact hlt) h41).symm.trans hG.out)
        rw [h41] at hq
        rw [Nat.min_eq_left (by omega : j + 1 ≤ n)] at c3
        have r0 := hB.out.cell 0 _ rfl
        have r1 := hB.out.cell 1 _ rfl
        have r2 := hB.out.cell 2 _ rfl
        have r3 := hB.out.cell 3 _ rfl
        have r4 := hB.out.cell 4 _ rfl
        have r5 := hB.out.cell 5 _ rfl
        have q0 := hB.out.frozen 0
        have q1 := hB.out.frozen 1
        have q2 := hB.out.frozen 2
        have q3 := hB.out.frozen 3
        have q4 := hB.out.frozen 4
        have q5 := hB.out.frozen 5
        clear h41 hG f1
        generalize chA l j = z at *
        go_wp2_with (go_at_call 29; (with_reducible refine (c3 _).mono ?_); rintro e w' ⟨rfl, rfl⟩)
        refine bodyPost_ret (v := .agg #[.int .i64 8, .int .i64 0, .int .i64 (j + 1 : Nat), .string ⟨#[]⟩, .string ⟨#[]⟩, .bool false]) (by simp [results, Tryd.results65, go_sem, r0, r1, r2, r3, r4, r5]) rfl ⟨by rw [← e.out]; rfl, ?_⟩
        exact below_set6 HBL.out (Nat.le_refl _) _ _ _ _ _ _
    · obtain rfl : j = n := by omega
      have hlt' : ¬ (j : Int) < (j : Int) := by omega
      have e := Lib.hid ((restF_end (by rw [HL.out]; exact Nat.le_refl _)).symm.trans hG.out)
      rw [Nat.min_eq_right (by omega : j ≤ j + 1)] at c3
      have r0 := hB.out.cell 0 _ rfl
      have r1 := hB.out.cell 1 _ rfl
      have r2 := hB.out.cell 2 _ rfl
      have r3 := hB.out.cell 3 _ rfl
      have r4 := hB.out.cell 4 _ rfl
      have r5 := hB.out.cell 5 _ rfl
      have q0 := hB.out.frozen 0
      have q1 := hB.out.frozen 1
      have q2 := hB.out.frozen 2
      have q3 := hB.out.frozen 3
      have q4 := hB.out.frozen 4
      have q5 := hB.out.frozen 5
      clear hG hlt
      go_wp2_with (go_at_call 29; (with_reducible refine (c3 _).mono ?_); rintro e w' ⟨rfl, rfl⟩)
      refine bodyPost_ret (v := .agg #[.int .i64 8, .int .i64 0, .int .i64 (j : Nat), .string ⟨#[]⟩, .string ⟨#[]⟩, .bool false]) (by simp [results, Tryd.results65, go_sem, r0, r1, r2, r3, r4, r5]) rfl ⟨by rw [← e.out, HL.out]; rfl, ?_⟩
      exact below_set6 HBL.out (Nat.le_refl _) _ _ _ _ _ _
end

section
open Go.RowKit Go.Shelf
set_option linter.unusedVariables false
set_option linter.unusedSimpArgs false

theorem numericF_frm (l : List Int) (k : Nat) : tkZ (numericF l k) = if nameAt l (numberF l k).1 then ⟨12, 0, (namesF l (numberF l k).1).2, bytesF (namesF l (numberF l k).1).1, bytesF (sliceF l k (numberF l k).1), (numberF l k).2⟩
    else if isB l (numberF l k).1 37 then ⟨11, 0, (numberF l k).1 + 1, [], bytesF (sliceF l k (numberF l k).1), (numberF l k).2⟩
    else ⟨10, 0, (numberF l k).1, [], bytesF (sliceF l k (numberF l k).1), (numberF l k).2⟩ := by
  unfold numericF
  split
  · rfl
  · split <;> rfl

set_option maxRecDepth 100000 in
set_option maxHeartbeats 4000000 in
theorem numericC_any {b off n cap : Nat} {l : List Int} {w : World} (i : Int) (k : Nat) (h : Src w (some ⟨b, off, none⟩) n cap l) (hM : MxW w) (hi : i = (k : Int)) (hk : k < n) :
    Calls Tryd.prog 39 #[.slice (some ⟨b, off, none⟩) n cap, .int .i64 i] w (Told (tkV (tkZ (numericF l k))) w) := by
  subst hi
  have hlen := h.len
  have hsm := h.small
  obtain ⟨hcap1, hcap2⟩ := h.cap
  obtain ⟨hn1, hn2⟩ := numberF_le l k
  have hn2 := hn2 (by omega)
  rw [hlen] at hn2
  have hN : Hid (tkZ (numericF l k) = if nameAt l (numberF l k).1 then ⟨12, 0, (namesF l (numberF l k).1).2, bytesF (namesF l (numberF l k).1).1, bytesF (sliceF l k (numberF l k).1), (numberF l k).2⟩
    else if isB l (numberF l k).1 37 then ⟨11, 0, (numberF l k).1 + 1, [], bytesF (sliceF l k (numberF l k).1), (numberF l k).2⟩
    else ⟨10, 0, (numberF l k).1, [], bytesF (sliceF l k (numberF l k).1), (numberF l k).2⟩) := Lib.hid (numericF_frm l k)
  have HP := Lib.hid h

  have hS1 : ∀ o, Src (w.alloc o) (some ⟨b, off, none⟩) n cap l := fun o => h.later ((Below.refl _ w).alloc (Nat.le_refl _) _)
  have f0 := fun o => passNumber_any (k : Int) k (hS1 o) rfl hk
  have HMx := Lib.hid hM
  clear hM
  have hkc : clampF (k : Int) n = k := clampF_nat k n (by omega)
  have hmc : clampF (((numberF l k).1 : Nat) : Int) n = (numberF l k).1 := clampF_nat _ n hn2
  generalize tkZ (numericF l k) = T at *
  generalize (numberF l k).1 = m at *
  generalize (numberF l k).2 = wh at *
  clear h hlen
  go_enter Tryd.func39, Tryd.ntmps39
  go_wp2_with fail
  refine (f0 _).mono ?_
  rintro e w2 ⟨rfl, rfl⟩
  go_wp2_with fail
  generalize hW1 : w.alloc (.cells #[.int .i64 0, .int .i64 0, .int .i64 0, .string ⟨#[]⟩, .string ⟨#[]⟩, .bool false] 29) = w1 at *
  have hz1 : w1.heap.size = w.heap.size + 1 := by rw [← hW1]; simp
  have hb1 : Below w.heap.size w w1 := by rw [← hW1]; exact (Below.refl _ w).alloc (Nat.le_refl _) _
  have B1 : Blk w1 w.heap.size [.int .i64 0, .int .i64 0, .int .i64 0, .string ⟨#[]⟩, .string ⟨#[]⟩, .bool false] 29 := by rw [← hW1]; exact Blk.alloc _ _
  have hS := HP.out.later hb1
  clear hW1 f0 hS1
  have cT := partText_any (k : Int) (m : Int) hS.rd hS.len hsm
  rw [hkc, hmc, text_pre (pre_slice hS.pre k m)] at cT
  have hMx1 := Lib.hid (HMx.out.later hb1)
  clear hkc hmc
  refine cT.mono ?_
  rintro e w2 ⟨rfl, hb2⟩
  have hS2 := hS.later hb2
  have B2 := B1.later hb2 (by omega)
  have hz2 := hb2.size
  have hbw2 := hb1.trans (hb2.mono (by omega))
  generalize bytesF (sliceF l k m) = num at *
  clear cT B1 hb1 hb2 hS
  go_wp2_with fail
  have hS3 := hS2.later ((Below.refl _ w2).alloc (Nat.le_refl _) (.cells [.int .i64 10, .int .i64 0, .int .i64 m, .string ⟨#[]⟩, .string (strOfNums num), .bool wh].toArray 29))
  have B3 : Blk (w2.alloc (.cells [.int .i64 10, .int .i64 0, .int .i64 m, .string ⟨#[]⟩, .string (strOfNums num), .bool wh].toArray 29)) w2.heap.size [.int .i64 10, .int .i64 0, .int .i64 m, .string ⟨#[]⟩, .string (strOfNums num), .bool wh] 29 := Blk.alloc _ _
  have B3r := B2.alloc_old (.cells [.int .i64 10, .int .i64 0, .int .i64 m, .string ⟨#[]⟩, .string (strOfNums num), .bool wh].toArray 29)
  have hbw3 := hbw2.alloc hbw2.size (.cells [.int .i64 10, .int .i64 0, .int .i64 m, .string ⟨#[]⟩, .string (strOfNums num), .bool wh].toArray 29)
  generalize hW3 : w2.alloc (.cells [.int .i64 10, .int .i64 0, .int .i64 m, .string ⟨#[]⟩, .string (strOfNums num), .bool wh].toArray 29) = w3 at *
  have hz3 : w3.heap.size = w2.heap.size + 1 := by rw [← hW3]; simp
  have hpq : w.heap.size < w2.heap.size := by omega
  generalize w2.heap.size = p at *
  clear hW3 hS2 B2 hbw2
  have f1 := startsName_any (m : Int) m hS3 rfl (by omega)
  rcases hna : nameAt l m with _ | _
  · rw [hna] at f1
    have f2 := stands_any (m : Int) m 37 hS3 rfl (by decide)
    rcases hpc : isB l m 37 with _ | _
    · have hT : T = ⟨10, 0, m, [], num, wh⟩ := by rw [hN.out, if_neg (by rw [hna]; decide), if_neg (by rw [hpc]; decide)]
      rw [hpc] at f2
      have c0 := B3.cell 0 _ rfl
      have c1 := B3.cell 1 _ rfl
      have c2 := B3.cell 2 _ rfl
      have c3 := B3.cell 3 _ rfl
      have c4 := B3.cell 4 _ rfl
      have c5 := B3.cell 5 _ rfl
      refine f1.mono ?_
      rintro e w4 ⟨rfl, hw4⟩; replace hw4 := hw4.symm; subst hw4
      go_wp2_with fail
      refine f2.mono ?_
      rintro e w4 ⟨rfl, hw4⟩; replace hw4 := hw4.symm; subst hw4
      have r0 := B3r.cell 0 _ rfl
      have r1 := B3r.cell 1 _ rfl
      have r2 := B3r.cell 2 _ rfl
      have r3 := B3r.cell 3 _ rfl
      have r4 := B3r.cell 4 _ rfl
      have r5 := B3r.cell 5 _ rfl
      have q0 := B3r.frozen 0
      have q1 := B3r.frozen 1
      have q2 := B3r.frozen 2
      have q3 := B3r.frozen 3
      have q4 := B3r.frozen 4
      have q5 := B3r.frozen 5
      go_wp2
      refine bodyPost_ret (v := .agg #[.int .i64 10, .int .i64 0, .int .i64 m, .string ⟨#[]⟩, .string (strOfNums num), .bool wh]) (by simp [results, Tryd.results39, go_sem, r0, r1, r2, r3, r4, r5]) rfl ⟨by rw [hT]; rfl, ?_⟩
      exact (((((hbw3.setCell (p := ⟨w.heap.size, 0, none⟩) (Nat.le_refl _) _).setCell (p := ⟨w.heap.size, 1, none⟩) (Nat.le_refl _) _).setCell (p := ⟨w.heap.size, 2, none⟩) (Nat.le_refl _) _).setCell (p := ⟨w.heap.size, 3, none⟩) (Nat.le_refl _) _).setCell (p := ⟨w.heap.size, 4, none⟩) (Nat.le_refl _) _).setCell (p := ⟨w.heap.size, 5, none⟩) (Nat.le_refl _) _
    · have hT : T = ⟨11, 0, m + 1, [], num, wh⟩ := by rw [hN.out, if_neg (by rw [hna]; decide), if_pos hpc]
      rw [hpc] at f2
      have hne1 : ¬ w.heap.size = p := by omega
      have hne2 : ¬ p = w.heap.size := by omega
      have c0 := B3.cell 0 _ rfl
      have c1 := B3.cell 1 _ rfl
      have c2 := B3.cell 2 _ rfl
      have c3 := B3.cell 3 _ rfl
      have c4 := B3.cell 4 _ rfl
      have c5 := B3.cell 5 _ rfl
      have zc0 := B3.frozen 0
      have zc1 := B3.frozen 1
      have zc2 := B3.frozen 2
      have zc3 := B3.frozen 3
      have zc4 := B3.frozen 4
      have zc5 := B3.frozen 5
      have r0 := B3r.cell 0 _ rfl
      have r1 := B3r.cell 1 _ rfl
      have r2 := B3r.cell 2 _ rfl
      have r3 := B3r.cell 3 _ rfl
      have r4 := B3r.cell 4 _ rfl
      have r5 := B3r.cell 5 _ rfl
      have zr0 := B3r.frozen 0
      have zr1 := B3r.frozen 1
      have zr2 := B3r.frozen 2
      have zr3 := B3r.frozen 3
      have zr4 := B3r.frozen 4
      have zr5 := B3r.frozen 5
      refine f1.mono ?_
      rintro e w4 ⟨rfl, hw4⟩; replace hw4 := hw4.symm; subst hw4
      go_wp2_with fail
      refine f2.mono ?_
      rintro e w4 ⟨rfl, hw4⟩; replace hw4 := hw4.symm; subst hw4
      go_wp2
      refine bodyPost_ret (v := .agg #[.int .i64 11, .int .i64 0, .int .i64 (m + 1), .string ⟨#[]⟩, .string (strOfNums num), .bool wh]) (by simp [results, Tryd.results39, go_sem, r0, r1, r2, r3, r4, r5]) rfl ⟨by rw [hT]; rfl, ?_⟩
      exact (((((((hbw3.setCell (p := ⟨p, 0, none⟩) (by show w.heap.size ≤ p; omega) _).setCell (p := ⟨p, 2, none⟩) (by show w.heap.size ≤ p; omega) _).setCell (p := ⟨w.heap.size, 0, none⟩) (Nat.le_refl _) _).setCell (p := ⟨w.heap.size, 1, none⟩) (Nat.le_refl _) _).setCell (p := ⟨w.heap.size, 2, none⟩) (Nat.le_refl _) _).setCell (p := ⟨w.heap.size, 3, none⟩) (Nat.le_refl _) _).setCell (p := ⟨w.heap.size, 4, none⟩) (Nat.le_refl _) _).setCell (p := ⟨w.heap.size, 5, none⟩) (Nat.le_refl _) _
  · have hT : T = ⟨12, 0, (namesF l m).2, bytesF (namesF l m).1, num, wh⟩ := by rw [hN.out, if_pos hna]
    rw [hna] at f1
    have hne1 : ¬ w.heap.size = p := by omega
    have hne2 : ¬ p = w.heap.size := by omega
    have c0 := B3.cell 0 _ rfl
    have c1 := B3.cell 1 _ rfl
    have c2 := B3.cell 2 _ rfl
    have c3 := B3.cell 3 _ rfl
    have c4 := B3.cell 4 _ rfl
    have c5 := B3.cell 5 _ rfl
    have zc0 := B3.frozen 0
    have zc1 := B3.frozen 1
    have zc2 := B3.frozen 2
    have zc3 := B3.frozen 3
    have zc4 := B3.frozen 4
    have zc5 := B3.frozen 5
    refine f1.mono ?_
    rintro e w4 ⟨rfl, hw4⟩; replace hw4 := hw4.symm; subst hw4
    have B4 := B3.setCell 0 (.int .i64 12)
    have B4r : Blk (w3.setCell ⟨p, 0, none⟩ (.int .i64 12)) w.heap.size [.int .i64 0, .int .i64 0, .int .i64 0, .string ⟨#[]⟩, .string ⟨#[]⟩, .bool false] 29 := B3r.kept (grown_setCell w3 p 0 _) (by simpa using hne2)
    have hbw4 := hbw3.setCell (p := ⟨p, 0, none⟩) (by show w.heap.size ≤ p; omega) (.int .i64 12)
    have hz4 : (w3.setCell ⟨p, 0, none⟩ (.int .i64 12)).heap.size = w3.heap.size := by simp
    go_wp2_with fail
    clear c0 c1 c2 c3 c4 c5 zc0 zc1 zc2 zc3 zc4 zc5 f1
    generalize w3.setCell ⟨p, 0, none⟩ (.int .i64 12) = w4 at *
    have hS4 := HP.out.later hbw4
    refine (readName_any (m : Int) m hS4 (HMx.out.later hbw4) rfl hn2).mono ?_
    rintro e w5 ⟨rfl, hb5⟩
    have B5 := B4.later hb5 (by omega)
    have B5r := B4r.later hb5 (by omega)
    have hbw5 := hbw4.trans (hb5.mono (by omega))
    clear B4 B4r hb5 hS4 hbw4 B3 B3r hS3 hbw3 hN
    generalize bytesF (namesF l m).1 = txt at *
    generalize (namesF l m).2 = m2 at *
    have c0 := B5.cell 0 _ rfl
    have c1 := B5.cell 1 _ rfl
    have c2 := B5.cell 2 _ rfl
    have c3 := B5.cell 3 _ rfl
    have c4 := B5.cell 4 _ rfl
    have c5 := B5.cell 5 _ rfl
    have zc0 := B5.frozen 0
    have zc1 := B5.frozen 1
    have zc2 := B5.frozen 2
    have zc3 := B5.frozen 3
    have zc4 := B5.frozen 4
    have zc5 := B5.frozen 5
    have r0 := B5r.cell 0 _ rfl
    have r1 := B5r.cell 1 _ rfl
    have r2 := B5r.cell 2 _ rfl
    have r3 := B5r.cell 3 _ rfl
    have r4 := B5r.cell 4 _ rfl
    have r5 := B5r.cell 5 _ rfl
    have zr0 := B5r.frozen 0
    have zr1 := B5r.frozen 1
    have zr2 := B5r.frozen 2
    have zr3 := B5r.frozen 3
    have zr4 := B5r.frozen 4
    have zr5 := B5r.frozen 5
    go_wp2
    refine bodyPost_ret (v := .agg #[.int .i64 12, .int .i64 0, .int .i64 m2, .string (strOfNums txt), .string (strOfNums num), .bool wh]) (by simp [results, Tryd.results39, go_sem, r0, r1, r2, r3, r4, r5]) rfl ⟨by rw [hT]; rfl, ?_⟩
    exact (((((((hbw5.setCell (p := ⟨p, 3, none⟩) (by show w.heap.size ≤ p; omega) _).setCell (p := ⟨p, 2, none⟩) (by show w.heap.size ≤ p; omega) _).setCell (p := ⟨w.heap.size, 0, none⟩) (Nat.le_refl _) _).setCell (p := ⟨w.heap.size, 1, none⟩) (Nat.le_refl _) _).setCell (p := ⟨w.heap.size, 2, none⟩) (Nat.le_refl _) _).setCell (p := ⟨w.heap.size, 3, none⟩) (Nat.le_refl _) _).setCell (p := ⟨w.heap.size, 4, none⟩) (Nat.le_refl _) _).setCell (p := ⟨w.heap.size, 5, none⟩) (Nat.le_refl _) _
end

section
open Go.RowKit Go.Shelf
set_option linter.unusedVariables false
set_option linter.unusedSimpArgs false

theorem quotedGo_frm (l : List Int) (mark : Int) (frm : Nat) : ∀ (f i : Nat) (out : List Int), tkZ (quotedGo f l mark frm i out) = quotedGo f l mark 0 i out
  | 0, i, out => rfl
  | f + 1, i, out => by
    rw [quotedGo, quotedGo]
    split
    · rfl
    · split
      · rfl
      · split
        · rfl
        · split
          · exact quotedGo_frm l mark frm f _ _
          · split
            · exact quotedGo_frm l mark frm f _ _
            · split
              · exact quotedGo_frm l mark frm f _ _
              · exact quotedGo_frm l mark frm f _ _
theorem quotedGo_fuel (l : List Int) (mark : Int) : ∀ (f g i : Nat) (out : List Int), i ≤ l.length → l.length < i + f → l.length < i + g → quotedGo f l mark 0 i out = quotedGo g l mark 0 i out
  | f, g, i, out, hi, hf, hg => by
    obtain ⟨f, rfl⟩ : ∃ f', f = f' + 1 := ⟨f - 1, by omega⟩
    obtain ⟨g, rfl⟩ : ∃ g', g = g' + 1 := ⟨g - 1, by omega⟩
    rw [quotedGo, quotedGo]
    by_cases h1 : l.length ≤ i
    · rw [if_pos h1, if_pos h1]
    · rw [if_neg h1, if_neg h1]
      by_cases h2 : isB l i mark = true
      · rw [if_pos h2, if_pos h2]
      · rw [if_neg h2, if_neg h2]
        by_cases h3 : isB l i 10 = true
        · rw [if_pos h3, if_pos h3]
        · rw [if_neg h3, if_neg h3]
          by_cases h4 : (!isB l i 92) = true
          · rw [if_pos h4, if_pos h4]; exact quotedGo_fuel l mark f g _ _ (by omega) (by omega) (by omega)
          · rw [if_neg h4, if_neg h4]
            by_cases h5 : l.length ≤ i + 1
            · rw [if_pos h5, if_pos h5]; exact quotedGo_fuel l mark f g _ _ (by omega) (by omega) (by omega)
            · rw [if_neg h5, if_neg h5]
              by_cases h6 : isB l (i + 1) 10 = true
              · rw [if_pos h6, if_pos h6]; exact quotedGo_fuel l mark f g _ _ (by omega) (by omega) (by omega)
              · rw [if_neg h6, if_neg h6]
                have := valueF_bd (l := l) (j := i) (by omega)
                exact quotedGo_fuel l mark f g _ _ (by omega) (by omega) (by omega)
def quoF (l : List Int) (mark : Int) (i : Nat) (out : List Int) : Tk := quotedGo (l.length + 1) l mark 0 i out
section
variable {l : List Int} {mark : Int} {i : Nat} {out : List Int}
theorem quoF_end (h : l.length ≤ i) : quoF l mark i out = ⟨5, 0, i, bytesF out, [], false⟩ := by unfold quoF; rw [quotedGo, if_pos h]
theorem quoF_mark (h : i < l.length) (h2 : isB l i mark = true) : quoF l mark i out = ⟨5, 0, i + 1, bytesF out, [], false⟩ := by unfold quoF; rw [quotedGo, if_neg (by omega), if_pos h2]
theorem quoF_bad (h : i < l.length) (h2 : isB l i mark = false) (h3 : isB l i 10 = true) : quoF l mark i out = ⟨6, 0, i, [], [], false⟩ := by
  unfold quoF; rw [quotedGo, if_neg (by omega), if_neg (by rw [h2]; decide), if_pos h3]
theorem quoF_char (h : i < l.length) (h2 : isB l i mark = false) (h3 : isB l i 10 = false) (h4 : isB l i 92 = false) : quoF l mark i out = quoF l mark (i + 1) (out ++ [chA l i]) := by
  unfold quoF
  rw [quotedGo, if_neg (by omega), if_neg (by rw [h2]; decide), if_neg (by rw [h3]; decide), if_pos (by rw [h4]; rfl)]
  exact quotedGo_fuel l mark _ _ _ _ (by omega) (by omega) (by omega)
theorem quoF_last (h : i < l.length) (h2 : isB l i mark = false) (h3 : isB l i 10 = false) (h4 : isB l i 92 = true) (h5 : l.length ≤ i + 1) : quoF l mark i out = quoF l mark (i + 1) out := by
  unfold quoF
  rw [quotedGo, if_neg (by omega), if_neg (by rw [h2]; decide), if_neg (by rw [h3]; decide), if_neg (by rw [h4]; decide), if_pos h5]
  exact quotedGo_fuel l mark _ _ _ _ (by omega) (by omega) (by omega)
theorem quoF_line (h : i + 1 < l.length) (h2 : isB l i mark = false) (h3 : isB l i 10 = false) (h4 : isB l i 92 = true) (h5 : isB l (i + 1) 10 = true) : quoF l mark i out = quoF l mark (i + 2) out := by
  unfold quoF
  rw [quotedGo, if_neg (by omega), if_neg (by rw [h2]; decide), if_neg (by rw [h3]; decide), if_neg (by rw [h4]; decide), if_neg (by omega), if_pos h5]
  exact quotedGo_fuel l mark _ _ _ _ (by omega) (by omega) (by omega)
theorem quoF_esc (h : i + 1 < l.length) (h2 : isB l i mark = false) (h3 : isB l i 10 = false) (h4 : isB l i 92 = true) (h5 : isB l (i + 1) 10 = false) : quoF l mark i out = quoF l mark (valueF l i).2 (out ++ [(valueF l i).1]) := by
  unfold quoF
  rw [quotedGo, if_neg (by omega), if_neg (by rw [h2]; decide), if_neg (by rw [h3]; decide), if_neg (by rw [h4]; decide), if_neg (by omega), if_neg (by rw [h5]; decide)]
  have := valueF_bd (l := l) (j := i) (by omega)
  exact quotedGo_fuel l mark _ _ _ _ (by omega) (by omega) (by omega)
end

set_option maxRecDepth 100000 in
set_option maxHeartbeats 4000000 in
theorem quotedC_any {a : Option Addr} {n cap : Nat} {l : List Int} {w : World} (i : Int) (k : Nat) (h : Src w a n cap l) (hM : MxW w) (hi : i = (k : Int)) (hk : k < n) :
    Calls Tryd.prog 37 #[.slice a n cap, .int .i64 i] w (Told (tkV (quoF l (chA l k) (k + 1) [])) w) := by
  subst hi
  obtain ⟨i0, hi, hz0, hz1, hz2⟩ := info_parts Tryd.info3
  have hsm := h.small
  have HL := Lib.hid h.len
  generalize hR : quoF l (chA l k) (k + 1) [] = R
  have HR := Lib.hid hR
  have HP := Lib.hid h
  have HM := Lib.hid hM
  obtain ⟨b, off, rfl, hc0⟩ := h.cell k hk
  have hc : ∀ o, (w.alloc o).cell? ⟨b, off + k, none⟩ = some (.int .i64 (chA l k)) := fun o => ((Below.refl _ w).alloc (Nat.le_refl _) o).cell (p := ⟨b, off + k, none⟩) (World.block_lt_of_cell? w _ hc0) |>.trans hc0
  clear h hR hM hc0
  generalize hmk : chA l k = mark at *
  have own0 := World.ownsRow_nil (w.alloc (.cells zeroTk.toArray 29)) (w.heap.size + 1) 3 1
  have HB0 := Lib.hid (Blk.alloc (w := w) zeroTk 29)
  have HMK := Lib.hid hmk
  clear hmk
  go_enter Tryd.func37, Tryd.ntmps37
  go_wp2_with fail
  go_loopw [1, 5, 7, 8] (fun v ov _ _ wr => ∃ (j : Nat) (out out' : List Int), v = .int .i64 j ∧ j ≤ n ∧ Hid (quoF l mark j out' = R) ∧ Hid (out.map cleanF = out'.map cleanF) ∧ out.length ≤ j ∧ wr.ownsRow (w.heap.size + 1) 3 1 ov out.length (out.map (Value.int .i64)) ∧ Hid (Blk wr w.heap.size zeroTk 29) ∧ Below w.heap.size w wr) (fun v _ _ _ _ => n - (intOf v).toNat)
  case atStart => exact ⟨k + 1, [], [], by go_num, by omega, HR, Lib.hid rfl, by simp, own0, HB0, (Below.refl _ _).alloc (Nat.le_refl _) _⟩
  case round =>
    obtain ⟨j, out, out', rfl, hj, hG, hE, hol, hown, hB, hbl⟩ := hrel
    have hS := Lib.hid (HP.out.later hbl)
    have HBL := Lib.hid hbl
    have hsz : w.heap.size + 1 ≤ wr.heap.size := hB.out.lt
    clear hbl hc
    have c3 := fun w => within_any (a := some ⟨b, off, none⟩) (n := n) (cap := cap) (w := w) ((j : Int) + 1) (j + 1) (by omega) (by omega) (by omega)
    by_cases hlt : j < n
    · have hlt' : (j : Int) < (n : Int) := by omega
      have hc : wr.cell? ⟨b, off + j, none⟩ = some (.int .i64 (chA l j)) := by
        obtain ⟨b', off', e, hc⟩ := hS.out.cell j hlt
        cases e; exact hc
      have hq : (chA l j != mark) = !isB l j mark := by unfold isB; rfl
      have hq10 : (chA l j == 10) = isB l j 10 := by unfold isB; rfl
      have hq92 : (chA l j != 92) = !isB l j 92 := by unfold isB; rfl
      rcases hm : isB l j mark with _ | _
      · rw [hm] at hq
        rcases h10 : isB l j 10 with _ | _
        · rw [h10] at hq10
          rcases h92 : isB l j 92 with _ | _
          · -- a character
            have e := Lib.hid ((quoF_char (by rw [HL.out]; exact hlt) hm h10 h92).symm.trans hG.out)
            rw [h92] at hq92
            have hE2 := Lib.hid (map_snoc2 hE.out (rfl : cleanF (chA l j) = cleanF (chA l j)))
            clear hm h10 h92 hG c3
            generalize chA l j = z at *
            go_wp2_with (at_builtin; refine wpList_append_reads rfl _ _ 34 rfl (w.heap.size + 1) 3 i0 .i64 8 Tryd.underlying34 hi hz0 hz1 hz2 _ out.length out rfl (hown.alloc _) rfl (some ⟨wr.heap.size, 0, none⟩) 1 1 [z] rfl rfl (reads_new wr .i64 _ 3 1 rfl (by unfold maxLen; omega)) (fun h => by cases h) (by unfold maxLen; omega) (by omega) (by simp <;> omega) ?_; intro v' w3 hown3 hgrow3)
            have hB3 : Blk w3 w.heap.size zeroTk 29 := (hB.out.alloc_old _).kept hgrow3 (fun e => by have := (hown.lt _ e).1; omega)
            have hbl3 : Below w.heap.size w w3 := (HBL.out.alloc (by omega) _).grown hgrow3 (by simp <;> omega) (fun q hq => by have := (hown.lt q hq).1; omega)
            go_roundw
            case rel => exact ⟨j + 1, out ++ [z], out' ++ [z], by go_num, by omega, e, hE2, by rw [List.length_append]; simp; omega, hown3, Lib.hid hB3, hbl3⟩
            case measure => simp [intOf]; omega
          · rw [h92] at hq92
            have f1 := isEscape_any (j : Int) j hS.out rfl (by omega)
            have c4 := fun w => within_any (a := some ⟨b, off, none⟩) (n := n) (cap := cap) (w := w) ((j : Int) + 2) (j + 2) (by omega) (by omega) (by omega)
            by_cases h5 : j + 1 < n
            · have h5' : (j : Int) + 1 < (n : Int) := by omega
              rcases h6 : isB l (j + 1) 10 with _ | _
              · -- an escape
                have e := Lib.hid ((quoF_esc (out := out') (by rw [HL.out]; exact h5) hm h10 h92 h6).symm.trans hG.out)
                have hes : escB l j = true := by unfold escB; rw [h92, h6]; rfl
                rw [hes] at f1
                have hvv := valC_value (l := l) (j := j) HP.out.pre
                have hbd := valueF_bd (l := l) (j := j) (by rw [HL.out]; exact hlt)
                rw [HL.out] at hbd
                have hE2 := Lib.hid (map_snoc2 hE.out hvv.2)
                have f2 := readEscape_any (j : Int) j hS.out rfl hlt
                rw [hvv.1] at f2
                clear hm h10 h92 h6 hes hG c3 c4 hvv
                generalize (valueF l j).2 = j2 at *
                generalize (valueF l j).1 = c' at *
                generalize (valC l j).1 = c at *
                generalize chA l j = z at *
                go_wp2_with (first
                  | (go_at_call 47; (with_reducible refine f1.mono ?_); rintro e w1 ⟨rfl, hw1⟩; replace hw1 := hw1.symm; subst hw1)
                  | (go_at_call 48; (with_reducible refine f2.mono ?_); rintro e w1 ⟨rfl, hw1⟩; replace hw1 := hw1.symm; subst hw1)
                  | (at_builtin; refine wpList_append_reads rfl _ _ 34 rfl (w.heap.size + 1) 3 i0 .i64 8 Tryd.underlying34 hi hz0 hz1 hz2 _ out.length out rfl (hown.alloc _) rfl (some ⟨wr.heap.size, 0, none⟩) 1 1 [c] rfl rfl (reads_new wr .i64 _ 3 1 rfl (by unfold maxLen; omega)) (fun h => by cases h) (by unfold maxLen; omega) (by omega) (by simp <;> omega) ?_; intro v' w3 hown3 hgrow3))
                have hB3 : Blk w3 w.heap.size zeroTk 29 := (hB.out.alloc_old _).kept hgrow3 (fun e => by have := (hown.lt _ e).1; omega)
                have hbl3 : Below w.heap.size w w3 := (HBL.out.alloc (by omega) _).grown hgrow3 (by simp <;> omega) (fun q hq => by have := (hown.lt q hq).1; omega)
                go_roundw
                case rel => exact ⟨j2, out ++ [c], out' ++ [c'], by go_num, by omega, e, hE2, by rw [List.length_append]; simp; omega, hown3, Lib.hid hB3, hbl3⟩
                case measure => simp [intOf]; omega
              · -- an end of a line behind it
                have e := Lib.hid ((quoF_line (out := out') (by rw [HL.out]; exact h5) hm h10 h92 h6).symm.trans hG.out)
                have hes : escB l j = false := by unfold escB; rw [h92, h6]; rfl
                rw [hes] at f1
                rw [Nat.min_eq_left (by omega : j + 2 ≤ n)] at c4
                clear hm h10 h92 h6 hes hG c3
                generalize chA l j = z at *
                go_wp2_with (first
                  | (go_at_call 47; (with_reducible refine f1.mono ?_); rintro e w1 ⟨rfl, hw1⟩; replace hw1 := hw1.symm; subst hw1)
                  | (go_at_call 29; (with_reducible refine (c4 _).mono ?_); rintro e w1 ⟨rfl, hw1⟩; replace hw1 := hw1.symm; subst hw1))
                go_roundw
                case rel => exact ⟨j + 2, out, out', by go_num, by omega, e, hE, by omega, hown, hB, HBL.out⟩
                case measure => simp [intOf]; omega
            · have h5' : ¬ (j : Int) + 1 < (n : Int) := by omega
              have e := Lib.hid ((quoF_last (out := out') (by rw [HL.out]; exact hlt) hm h10 h92 (by rw [HL.out]; omega)).symm.trans hG.out)
              have hj1 : min (j + 2) n = j + 1 := by omega
              rw [hj1] at c4
              clear hm h10 h92 hG c3 f1
              generalize chA l j = z at *
              go_wp2_with (go_at_call 29; (with_reducible refine (c4 _).mono ?_); rintro e w1 ⟨rfl, hw1⟩; replace hw1 := hw1.symm; subst hw1)
              go_roundw
              case rel => exact ⟨j + 1, out, out', by go_num, by omega, e, hE, by omega, hown, hB, HBL.out⟩
              case measure => simp [intOf]; omega
        · -- an end of a line
          rw [h10] at hq10
          have e := Lib.hid ((quoF_bad (out := out') (by rw [HL.out]; exact hlt) hm h10).symm.trans hG.out)
          have r0 := hB.out.cell 0 _ rfl
          have r1 := hB.out.cell 1 _ rfl
          have r2 := hB.out.cell 2 _ rfl
          have r3 := hB.out.cell 3 _ rfl
          have r4 := hB.out.cell 4 _ rfl
          have r5 := hB.out.cell 5 _ rfl
          have q0 := hB.out.frozen 0
          have q1 := hB.out.frozen 1
          have q2 := hB.out.frozen 2
          have q3 := hB.out.frozen 3
          have q4 := hB.out.frozen 4
          have q5 := hB.out.frozen 5
          clear hm h10 hG c3 hq92
          generalize chA l j = z at *
          go_wp2
          refine bodyPost_ret (v := .agg #[.int .i64 6, .int .i64 0, .int .i64 j, .string ⟨#[]⟩, .string ⟨#[]⟩, .bool false]) (by simp [results, Tryd.results37, go_sem, r0, r1, r2, r3, r4, r5]) rfl ⟨by rw [← e.out]; rfl, ?_⟩
          exact below_set6 HBL.out (Nat.le_refl _) _ _ _ _ _ _
      · -- the mark
        rw [hm] at hq
        have e := Lib.hid ((quoF_mark (out := out') (by rw [HL.out]; exact hlt) hm).symm.trans hG.out)
        rw [Nat.min_eq_left (by omega : j + 1 ≤ n)] at c3
        obtain ⟨a2, c2, hv, hrd⟩ := Reads.of_owns hown
        subst hv
        have cT := tokText_any a2 c2 out.length out wr rfl hrd (by omega) (HM.out.later HBL.out)
        clear hm hG hq10 hq92 hown
        generalize chA l j = z at *
        go_wp2_with (go_at_call 29; (with_reducible refine (c3 _).mono ?_); rintro e w1 ⟨rfl, hw1⟩; replace hw1 := hw1.symm; subst hw1)
        refine cT.mono ?_
        rintro e w2 ⟨rfl, hb2⟩
        have hB2 := hB.out.later hb2 (by omega)
        have hbl2 := HBL.out.trans (hb2.mono (by omega))
        have r0 := hB2.cell 0 _ rfl
        have r1 := hB2.cell 1 _ rfl
        have r2 := hB2.cell 2 _ rfl
        have r3 := hB2.cell 3 _ rfl
        have r4 := hB2.cell 4 _ rfl
        have r5 := hB2.cell 5 _ rfl
        have q0 := hB2.frozen 0
        have q1 := hB2.frozen 1
        have q2 := hB2.frozen 2
        have q3 := hB2.frozen 3
        have q4 := hB2.frozen 4
        have q5 := hB2.frozen 5
        clear cT hb2
        go_wp2
        refine bodyPost_ret (v := .agg #[.int .i64 5, .int .i64 0, .int .i64 (j + 1 : Nat), .string (strOfNums (bytesF out)), .string ⟨#[]⟩, .bool false]) (by simp [results, Tryd.results37, go_sem, r0, r1, r2, r3, r4, r5]) rfl ⟨by rw [← e.out, bytesF_same hE.out]; rfl, ?_⟩
        exact below_set6 hbl2 (Nat.le_refl _) _ _ _ _ _ _
    · obtain rfl : j = n := by omega
      have hlt' : ¬ (j : Int) < (j : Int) := by omega
      have e := Lib.hid ((quoF_end (out := out') (by rw [HL.out]; exact Nat.le_refl _)).symm.trans hG.out)
      rw [Nat.min_eq_right (by omega : j ≤ j + 1)] at c3
      obtain ⟨a2, c2, hv, hrd⟩ := Reads.of_owns hown
      subst hv
      have cT := tokText_any a2 c2 out.length out wr rfl hrd (by omega) (HM.out.later HBL.out)
      clear hG hown hlt
      go_wp2_with (go_at_call 29; (with_reducible refine (c3 _).mono ?_); rintro e w1 ⟨rfl, hw1⟩; replace hw1 := hw1.symm; subst hw1)
      refine cT.mono ?_
      rintro e w2 ⟨rfl, hb2⟩
      have hB2 := hB.out.later hb2 (by omega)
      have hbl2 := HBL.out.trans (hb2.mono (by omega))
      have r0 := hB2.cell 0 _ rfl
      have r1 := hB2.cell 1 _ rfl
      have r2 := hB2.cell 2 _ rfl
      have r3 := hB2.cell 3 _ rfl
      have r4 := hB2.cell 4 _ rfl
      have r5 := hB2.cell 5 _ rfl
      have q0 := hB2.frozen 0
      have q1 := hB2.frozen 1
      have q2 := hB2.frozen 2
      have q3 := hB2.frozen 3
      have q4 := hB2.frozen 4
      have q5 := hB2.frozen 5
      clear cT hb2
      go_wp2
      refine bodyPost_ret (v := .agg #[.int .i64 5, .int .i64 0, .int .i64 (j : Nat), .string (strOfNums (bytesF out)), .string ⟨#[]⟩, .bool false]) (by simp [results, Tryd.results37, go_sem, r0, r1, r2, r3, r4, r5]) rfl ⟨by rw [← e.out, bytesF_same hE.out]; rfl, ?_⟩
      exact below_set6 hbl2 (Nat.le_refl _) _ _ _ _ _ _
end

section
open Go.RowKit Go.Shelf
set_option linter.unusedVariables false
set_option linter.unusedSimpArgs false

/-- A character that a url may not have, unless as an escape. -/
def wrongB (c : Int) : Bool := decide (c = 34 ∨ c = 39 ∨ c = 40 ∨ c = 92 ∨ c = 11 ∨ c = 127 ∨ c < 9 ∨ (14 ≤ c ∧ c ≤ 31))
set_option maxRecDepth 100000 in
theorem isWrong_any (c : Int) (w : World) (hc : Ch c) : Calls Tryd.prog 66 #[.int .i64 c] w (Tells (.bool (wrongB c)) w) := by
  obtain ⟨h0, h1⟩ := hc
  by_cases h : c = 34 ∨ c = 39 ∨ c = 40 ∨ c = 92 ∨ c = 11 ∨ c = 127
  · rw [show wrongB c = true from decide_eq_true (by omega)]
    rcases h with rfl | rfl | rfl | rfl | rfl | rfl
    all_goals
      go_enter Tryd.func66, Tryd.ntmps66
      go_wp2
      go_ret
      exact ⟨rfl, rfl⟩
  · have n1 : (c == 34) = false := beq_eq_false_iff_ne.2 (by omega)
    have n2 : (c == 39) = false := beq_eq_false_iff_ne.2 (by omega)
    have n3 : (c == 40) = false := beq_eq_false_iff_ne.2 (by omega)
    have n4 : (c == 92) = false := beq_eq_false_iff_ne.2 (by omega)
    have n5 : (c == 11) = false := beq_eq_false_iff_ne.2 (by omega)
    have n6 : (c == 127) = false := beq_eq_false_iff_ne.2 (by omega)
    rcases (show c < 9 ∨ (9 ≤ c ∧ c < 14) ∨ (14 ≤ c ∧ c ≤ 31) ∨ (14 ≤ c ∧ 31 < c) by omega) with q | ⟨q, q'⟩ | ⟨q, q'⟩ | ⟨q, q'⟩
    · rw [show wrongB c = true from decide_eq_true (by omega)]
      have m1 : decide (c < 9) = true := decide_eq_true q
      clear h q
      go_enter Tryd.func66, Tryd.ntmps66
      go_wp2
      go_ret
      exact ⟨rfl, rfl⟩
    · rw [show wrongB c = false from decide_eq_false (by omega)]
      have m1 : decide (c < 9) = false := decide_eq_false (by omega)
      have m2 : decide ((14 : Int) ≤ c) = false := decide_eq_false (by omega)
      clear h q q'
      go_enter Tryd.func66, Tryd.ntmps66
      go_wp2
      go_ret
      exact ⟨rfl, rfl⟩
    · rw [show wrongB c = true from decide_eq_true (by omega)]
      have m1 : decide (c < 9) = false := decide_eq_false (by omega)
      have m2 : decide ((14 : Int) ≤ c) = true := decide_eq_true (by omega)
      have m3 : decide (c ≤ 31) = true := decide_eq_true (by omega)
      clear h q q'
      go_enter Tryd.func66, Tryd.ntmps66
      go_wp2
      go_ret
      exact ⟨rfl, rfl⟩
    · rw [show wrongB c = false from decide_eq_false (by omega)]
      have m1 : decide (c < 9) = false := decide_eq_false (by omega)
      have m2 : decide ((14 : Int) ≤ c) = true := decide_eq_true (by omega)
      have m3 : decide (c ≤ 31) = false := decide_eq_false (by omega)
      clear h q q'
      go_enter Tryd.func66, Tryd.ntmps66
      go_wp2
      go_ret
      exact ⟨rfl, rfl⟩

theorem urlGo_frm (l : List Int) (frm : Nat) : ∀ (f i : Nat) (out : List Int), tkZ (urlGo f l frm i out) = urlGo f l 0 i out
  | 0, i, out => rfl
  | f + 1, i, out => by
    rw [urlGo, urlGo]
    split
    · rfl
    · split
      · rfl
      · split
        · exact restGo_frm l frm _ _
        · split
          · exact restGo_frm l frm _ _
          · split
            · exact urlGo_frm l frm f _ _
            · exact urlGo_frm l frm f _ _
theorem urlGo_fuel (l : List Int) : ∀ (f g i : Nat) (out : List Int), i ≤ l.length → l.length < i + f → l.length < i + g → urlGo f l 0 i out = urlGo g l 0 i out
  | f, g, i, out, hi, hf, hg => by
    obtain ⟨f, rfl⟩ : ∃ f', f = f' + 1 := ⟨f - 1, by omega⟩
    obtain ⟨g, rfl⟩ : ∃ g', g = g' + 1 := ⟨g - 1, by omega⟩
    rw [urlGo, urlGo]
    by_cases h1 : l.length ≤ spacesF l i
    · rw [if_pos h1, if_pos h1]
    · rw [if_neg h1, if_neg h1]
      by_cases h2 : isB l (spacesF l i) 41 = true
      · rw [if_pos h2, if_pos h2]
      · rw [if_neg h2, if_neg h2]
        by_cases h3 : i < spacesF l i
        · rw [if_pos h3, if_pos h3]
        · rw [if_neg h3, if_neg h3]
          by_cases h4 : urlBad l i = true
          · rw [if_pos h4, if_pos h4]
          · rw [if_neg h4, if_neg h4]
            have hii : i < l.length := by
              rcases Nat.lt_or_ge i l.length with h | h
              · exact h
              · exact absurd (Nat.le_trans h (spacesGo_le l (l.length + 1) i).1) h1
            by_cases h5 : isB l i 92 = true
            · rw [if_pos h5, if_pos h5]
              have := valueF_bd (l := l) (j := i) hii
              exact urlGo_fuel l f g _ _ (by omega) (by omega) (by omega)
            · rw [if_neg h5, if_neg h5]
              exact urlGo_fuel l f g _ _ (by omega) (by omega) (by omega)
def urlS (l : List Int) (i : Nat) (out : List Int) : Tk := urlGo (l.length + 1) l 0 i out
section
variable {l : List Int} {i : Nat} {out : List Int}
theorem urlS_end (h : l.length ≤ spacesF l i) : urlS l i out = ⟨7, 0, l.length, bytesF out, [], false⟩ := by unfold urlS; rw [urlGo, if_pos h]
theorem urlS_close (h : spacesF l i < l.length) (h2 : isB l (spacesF l i) 41 = true) : urlS l i out = ⟨7, 0, spacesF l i + 1, bytesF out, [], false⟩ := by unfold urlS; rw [urlGo, if_neg (by omega), if_pos h2]
theorem urlS_rest (h : spacesF l i < l.length) (h2 : isB l (spacesF l i) 41 = false) (h3 : i < spacesF l i) : urlS l i out = restF l 0 (spacesF l i) := by unfold urlS; rw [urlGo, if_neg (by omega), if_neg (by rw [h2]; decide), if_pos h3]
theorem urlS_bad (h : i < l.length) (hs : spB l i = false) (h2 : isB l i 41 = false) (h4 : urlBad l i = true) : urlS l i out = restF l 0 i := by
  unfold urlS; rw [urlGo, spacesF_stop hs, if_neg (by omega), if_neg (by rw [h2]; decide), if_neg (by omega), if_pos h4]
theorem urlS_esc (h : i < l.length) (hs : spB l i = false) (h2 : isB l i 41 = false) (h4 : urlBad l i = false) (h5 : isB l i 92 = true) : urlS l i out = urlS l (valueF l i).2 (out ++ [(valueF l i).1]) := by
  unfold urlS
  rw [urlGo, spacesF_stop hs, if_neg (by omega), if_neg (by rw [h2]; decide), if_neg (by omega), if_neg (by rw [h4]; decide), if_pos h5]
  have := valueF_bd (l := l) (j := i) h
  exact urlGo_fuel l _ _ _ _ (by omega) (by omega) (by omega)
theorem urlS_char (h : i < l.length) (hs : spB l i = false) (h2 : isB l i 41 = false) (h4 : urlBad l i = false) (h5 : isB l i 92 = false) : urlS l i out = urlS l (i + 1) (out ++ [chA l i]) := by
  unfold urlS
  rw [urlGo, spacesF_stop hs, if_neg (by omega), if_neg (by rw [h2]; decide), if_neg (by omega), if_neg (by rw [h4]; decide), if_neg (by rw [h5]; decide)]
  exact urlGo_fuel l _ _ _ _ (by omega) (by omega) (by omega)
theorem spacesF_again (l : List Int) (i : Nat) : spacesF l (spacesF l i) = spacesF l i := by
  have : ∀ f i, l.length < i + f → spB l (spacesGo f l i) = false := by
    intro f
    induction f with
    | zero =>
      intro i h
      rcases hq : spB l i with _ | _
      · exact hq
      · have := lt_of_spB hq; omega
    | succ f ih =>
      intro i h
      rw [spacesGo]
      by_cases hq : spB l i = true
      · rw [if_pos hq]; exact ih (i + 1) (by omega)
      · rw [if_neg hq]; simpa using hq
  exact spacesF_stop (this _ i (by omega))
theorem urlS_skip (h : l.length ≤ spacesF l i ∨ isB l (spacesF l i) 41 = true) : urlS l i out = urlS l (spacesF l i) out := by
  by_cases h1 : l.length ≤ spacesF l i
  · rw [urlS_end h1, urlS_end (by rw [spacesF_again]; exact h1)]
  · have h2 := h.resolve_left h1
    rw [urlS_close (by omega) h2, urlS_close (by rw [spacesF_again]; omega) (by rw [spacesF_again]; exact h2), spacesF_again]
theorem urlBad_esc (h : escB l i = true) : isB l i 92 = true ∧ urlBad l i = false := by
  have h92 : isB l i 92 = true := by unfold escB at h; rw [Bool.and_eq_true] at h; exact h.1
  refine ⟨h92, ?_⟩
  have e := isB_iff.1 h92
  unfold urlBad
  rw [h]
  unfold isB
  rw [e]; decide
theorem urlBad_wrong (h : escB l i = false) (hs : spB l i = false) : urlBad l i = wrongB (chA l i) := by
  unfold urlBad
  rw [h]
  unfold isB wrongB hiddenB
  unfold spB spaceB at hs
  have hs' := of_decide_eq_false hs
  generalize chA l i = c at *
  apply Bool.eq_iff_iff.2
  simp only [Bool.or_eq_true, Bool.and_eq_true, decide_eq_true_eq, Bool.not_false, and_true]
  omega
end
end

section
open Go.RowKit Go.Shelf
set_option linter.unusedVariables false
set_option linter.unusedSimpArgs false

theorem urlS_cases (l : List Int) (i : Nat) (out : List Int) : (∃ t, urlS l i out = t) := ⟨_, rfl⟩

set_option maxRecDepth 100000 in
set_option maxHeartbeats 8000000 in
theorem urlC_any {a : Option Addr} {n cap : Nat} {l : List Int} {w : World} (i : Int) (k : Nat) (h : Src w a n cap l) (hM : MxW w) (hi : i = (k : Int)) (hk : k ≤ n) :
    Calls Tryd.prog 57 #[.slice a n cap, .int .i64 i] w (Told (tkV (urlS l k [])) w) := by
  subst hi
  obtain ⟨i0, hi, hz0, hz1, hz2⟩ := info_parts Tryd.info3
  have hsm := h.small
  have HL := Lib.hid h.len
  generalize hR : urlS l k [] = R
  have HR := Lib.hid hR
  have HP := Lib.hid h
  have HM := Lib.hid hM
  clear h hR hM
  have own0 := World.ownsRow_nil (w.alloc (.cells zeroTk.toArray 29)) (w.heap.size + 1) 3 1
  have HB0 := Lib.hid (Blk.alloc (w := w) zeroTk 29)
  go_enter Tryd.func57, Tryd.ntmps57
  go_wp2_with fail
  go_loopw [1, 5, 6, 7, 8] (fun v ov _ _ _ wr => ∃ (j : Nat) (out out' : List Int), v = .int .i64 j ∧ j ≤ n ∧ Hid (urlS l j out' = R) ∧ Hid (out.map cleanF = out'.map cleanF) ∧ out.length ≤ j ∧ wr.ownsRow (w.heap.size + 1) 3 1 ov out.length (out.map (Value.int .i64)) ∧ Hid (Blk wr w.heap.size zeroTk 29) ∧ Below w.heap.size w wr) (fun v _ _ _ _ _ => n - (intOf v).toNat)
  case atStart => exact ⟨k, [], [], rfl, by omega, HR, Lib.hid rfl, by simp, own0, HB0, (Below.refl _ _).alloc (Nat.le_refl _) _⟩
  case round =>
    obtain ⟨j, out, out', rfl, hj, hG, hE, hol, hown, hB, hbl⟩ := hrel
    have hS := Lib.hid (HP.out.later hbl)
    have HBL := Lib.hid hbl
    have hsz : w.heap.size + 1 ≤ wr.heap.size := hB.out.lt
    clear hbl
    have c3 := fun w => within_any (a := a) (n := n) (cap := cap) (w := w) ((j : Int) + 1) (j + 1) (by omega) (by omega) (by omega)
    by_cases hlt : j < n
    · have hlt' : (j : Int) < (n : Int) := by omega
      have HLT := Lib.hid (show j < l.length from by rw [HL.out]; exact hlt)
      obtain ⟨b, off, rfl, hc⟩ := hS.out.cell j hlt
      have hq : (chA l j != 41) = !isB l j 41 := by unfold isB; rfl
      have f1 := isEscape_any (j : Int) j hS.out rfl (by omega)
      have f3 := fun w => space_any (chA l j) w (chA_ch HP.out.pre j)
      have f4 := fun w => isWrong_any (chA l j) w (chA_ch HP.out.pre j)
      rcases h41 : isB l j 41 with _ | _
      · rw [h41] at hq
        rcases hes : escB l j with _ | _
        · rw [hes] at f1
          rcases hsp : spB l j with _ | _
          · have hsp' := hsp
            unfold spB at hsp'
            rw [hsp'] at f3
            have hub := urlBad_wrong hes hsp
            rcases hw : wrongB (chA l j) with _ | _
            · -- a character
              rw [hw] at f4 hub
              have h92 : isB l j 92 = false := by
                rcases q : isB l j 92 with _ | _
                · rfl
                · rw [isB_iff.1 q] at hw; exact absurd hw (by decide)
              have e := Lib.hid ((urlS_char HLT.out hsp h41 hub h92).symm.trans hG.out)
              have hE2 := Lib.hid (map_snoc2 hE.out (rfl : cleanF (chA l j) = cleanF (chA l j)))
              clear hsp hsp' hes h41 hG c3 hub hw h92
              generalize chA l j = z at *
              go_wp2_with (first
                | (go_at_call 47; (with_reducible refine f1.mono ?_); rintro e w1 ⟨rfl, hw1⟩; replace hw1 := hw1.symm; subst hw1)
                | (go_at_call 35; (with_reducible refine (f3 _).mono ?_); rintro e w1 ⟨rfl, hw1⟩; replace hw1 := hw1.symm; subst hw1)
                | (go_at_call 66; (with_reducible refine (f4 _).mono ?_); rintro e w1 ⟨rfl, hw1⟩; replace hw1 := hw1.symm; subst hw1)
                | (at_builtin; refine wpList_append_reads rfl _ _ 34 rfl (w.heap.size + 1) 3 i0 .i64 8 Tryd.underlying34 hi hz0 hz1 hz2 _ out.length out rfl (hown.alloc _) rfl (some ⟨wr.heap.size, 0, none⟩) 1 1 [z] rfl rfl (reads_new wr .i64 _ 3 1 rfl (by unfold maxLen; omega)) (fun h => by cases h) (by unfold maxLen; omega) (by omega) (by simp <;> omega) ?_; intro v' w3 hown3 hgrow3))
              have hB3 : Blk w3 w.heap.size zeroTk 29 := (hB.out.alloc_old _).kept hgrow3 (fun e => by have := (hown.lt _ e).1; omega)
              have hbl3 : Below w.heap.size w w3 := (HBL.out.alloc (by omega) _).grown hgrow3 (by simp <;> omega) (fun q hq => by have := (hown.lt q hq).1; omega)
              go_roundw
              case rel => exact ⟨j + 1, out ++ [z], out' ++ [z], by go_num, by omega, e, hE2, by rw [List.length_append]; simp; omega, hown3, Lib.hid hB3, hbl3⟩
              case measure => simp [intOf]; omega
            · -- one that may not stand there
              rw [hw] at f4 hub
              have e := Lib.hid ((urlS_bad HLT.out hsp h41 hub (out := out')).symm.trans hG.out)
              have f5 := badURL_any (j : Int) j hS.out rfl (by omega)
              rw [e.out] at f5
              clear hsp hsp' hes h41 hG c3 hub hw hown
              generalize chA l j = z at *
              go_wp2_with (first
                | (go_at_call 47; (with_reducible refine f1.mono ?_); rintro e w1 ⟨rfl, hw1⟩; replace hw1 := hw1.symm; subst hw1)
                | (go_at_call 35; (with_reducible refine (f3 _).mono ?_); rintro e w1 ⟨rfl, hw1⟩; replace hw1 := hw1.symm; subst hw1)
                | (go_at_call 66; (with_reducible refine (f4 _).mono ?_); rintro e w1 ⟨rfl, hw1⟩; replace hw1 := hw1.symm; subst hw1))
              refine f5.mono ?_
              rintro e w2 ⟨rfl, hb2⟩
              have hB2 := hB.out.later hb2 (by omega)
              have hbl2 := HBL.out.trans (hb2.mono (by omega))
              have r0 := hB2.cell 0 _ rfl
              have r1 := hB2.cell 1 _ rfl
              have r2 := hB2.cell 2 _ rfl
              have r3 := hB2.cell 3 _ rfl
              have r4 := hB2.cell 4 _ rfl
              have r5 := hB2.cell 5 _ rfl
              have q0 := hB2.frozen 0
              have q1 := hB2.frozen 1
              have q2 := hB2.frozen 2
              have q3 := hB2.frozen 3
              have q4 := hB2.frozen 4
              have q5 := hB2.frozen 5
              clear f5 hb2
              obtain ⟨kd, fr, to_, tx, nm, wh⟩ := R
              unfold tkV tkCells
              go_wp2
              refine bodyPost_ret (v := tkV ⟨kd, fr, to_, tx, nm, wh⟩) (by simp [results, Tryd.results57, go_sem, tkV, tkCells, r0, r1, r2, r3, r4, r5]) rfl ⟨rfl, ?_⟩
              exact below_set6 hbl2 (Nat.le_refl _) _ _ _ _ _ _
          · -- blanks
            have hsp' := hsp
            unfold spB at hsp'
            rw [hsp'] at f3
            have f6 := passBlanks_any (j : Int) j hS.out rfl (by omega)
            have hs1 := spacesF_pos hsp
            have hs2 := spacesF_le l j (by rw [HL.out]; omega)
            rw [HL.out] at hs2
            by_cases hsl : spacesF l j < n
            · obtain ⟨b', off', hcc, hc2⟩ := hS.out.cell (spacesF l j) hsl
              cases hcc
              have hq2 : (chA l (spacesF l j) != 41) = !isB l (spacesF l j) 41 := by unfold isB; rfl
              rcases h41b : isB l (spacesF l j) 41 with _ | _
              · rw [h41b] at hq2
                have e := Lib.hid ((urlS_rest (by rw [HL.out]; exact hsl) h41b hs1 (out := out')).symm.trans hG.out)
                have f5 := badURL_any ((spacesF l j : Nat) : Int) (spacesF l j) hS.out rfl (by omega)
                rw [e.out] at f5
                have hsl' : ((spacesF l j : Nat) : Int) < (n : Int) := by omega
                clear hsp hsp' hes h41 hG c3 hown f4 h41b
                generalize chA l (spacesF l j) = z2 at *
                generalize spacesF l j = s at *
                generalize chA l j = z at *
                go_wp2_with (first
                  | (go_at_call 47; (with_reducible refine f1.mono ?_); rintro e w1 ⟨rfl, hw1⟩; replace hw1 := hw1.symm; subst hw1)
                  | (go_at_call 35; (with_reducible refine (f3 _).mono ?_); rintro e w1 ⟨rfl, hw1⟩; replace hw1 := hw1.symm; subst hw1)
                  | (go_at_call 36; (with_reducible refine f6.mono ?_); rintro e w1 ⟨rfl, hw1⟩; replace hw1 := hw1.symm; subst hw1))
                refine f5.mono ?_
                rintro e w2 ⟨rfl, hb2⟩
                have hB2 := hB.out.later hb2 (by omega)
                have hbl2 := HBL.out.trans (hb2.mono (by omega))
                have r0 := hB2.cell 0 _ rfl
                have r1 := hB2.cell 1 _ rfl
                have r2 := hB2.cell 2 _ rfl
                have r3 := hB2.cell 3 _ rfl
                have r4 := hB2.cell 4 _ rfl
                have r5 := hB2.cell 5 _ rfl
                have q0 := hB2.frozen 0
                have q1 := hB2.frozen 1
                have q2 := hB2.frozen 2
                have q3 := hB2.frozen 3
                have q4 := hB2.frozen 4
                have q5 := hB2.frozen 5
                clear f5 hb2
                obtain ⟨kd, fr, to_, tx, nm, wh⟩ := R
                unfold tkV tkCells
                go_wp2
                refine bodyPost_ret (v := tkV ⟨kd, fr, to_, tx, nm, wh⟩) (by simp [results, Tryd.results57, go_sem, tkV, tkCells, r0, r1, r2, r3, r4, r5]) rfl ⟨rfl, ?_⟩
                exact below_set6 hbl2 (Nat.le_refl _) _ _ _ _ _ _
              · rw [h41b] at hq2
                have e := Lib.hid ((urlS_skip (.inr h41b) (out := out')).symm.trans hG.out)
                have hsl' : ((spacesF l j : Nat) : Int) < (n : Int) := by omega
                clear hsp hsp' hes h41 hG c3 f4 h41b
                generalize chA l (spacesF l j) = z2 at *
                generalize spacesF l j = s at *
                generalize chA l j = z at *
                go_wp2_with (first
                  | (go_at_call 47; (with_reducible refine f1.mono ?_); rintro e w1 ⟨rfl, hw1⟩; replace hw1 := hw1.symm; subst hw1)
                  | (go_at_call 35; (with_reducible refine (f3 _).mono ?_); rintro e w1 ⟨rfl, hw1⟩; replace hw1 := hw1.symm; subst hw1)
                  | (go_at_call 36; (with_reducible refine f6.mono ?_); rintro e w1 ⟨rfl, hw1⟩; replace hw1 := hw1.symm; subst hw1))
                go_roundw
                case rel => exact ⟨s, out, out', by go_num, by omega, e, hE, by omega, hown, hB, HBL.out⟩
                case measure => simp [intOf]; omega
            · have e := Lib.hid ((urlS_skip (.inl (by rw [HL.out]; omega)) (out := out')).symm.trans hG.out)
              have hsl' : ¬ ((spacesF l j : Nat) : Int) < (n : Int) := by omega
              clear hsp hsp' hes h41 hG c3 f4
              generalize spacesF l j = s at *
              generalize chA l j = z at *
              go_wp2_with (first
                | (go_at_call 47; (with_reducible refine f1.mono ?_); rintro e w1 ⟨rfl, hw1⟩; replace hw1 := hw1.symm; subst hw1)
                | (go_at_call 35; (with_reducible refine (f3 _).mono ?_); rintro e w1 ⟨rfl, hw1⟩; replace hw1 := hw1.symm; subst hw1)
                | (go_at_call 36; (with_reducible refine f6.mono ?_); rintro e w1 ⟨rfl, hw1⟩; replace hw1 := hw1.symm; subst hw1))
              go_roundw
              case rel => exact ⟨s, out, out', by go_num, by omega, e, hE, by omega, hown, hB, HBL.out⟩
              case measure => simp [intOf]; omega
        · -- an escape
          rw [hes] at f1
          obtain ⟨h92, hub⟩ := urlBad_esc hes
          have hsp : spB l j = false := by unfold spB; rw [isB_iff.1 h92]; decide
          have e := Lib.hid ((urlS_esc HLT.out hsp h41 hub h92 (out := out')).symm.trans hG.out)
          have hvv := valC_value (l := l) (j := j) HP.out.pre
          have hbd := valueF_bd (l := l) (j := j) HLT.out
          rw [HL.out] at hbd
          have hE2 := Lib.hid (map_snoc2 hE.out hvv.2)
          have f2 := readEscape_any (j : Int) j hS.out rfl hlt
          rw [hvv.1] at f2
          clear hsp hes h41 hG c3 hvv hub h92 f3 f4
          generalize (valueF l j).2 = j2 at *
          generalize (valueF l j).1 = c' at *
          generalize (valC l j).1 = c at *
          generalize chA l j = z at *
          go_wp2_with (first
            | (go_at_call 47; (with_reducible refine f1.mono ?_); rintro e w1 ⟨rfl, hw1⟩; replace hw1 := hw1.symm; subst hw1)
            | (go_at_call 48; (with_reducible refine f2.mono ?_); rintro e w1 ⟨rfl, hw1⟩; replace hw1 := hw1.symm; subst hw1)
            | (at_builtin; refine wpList_append_reads rfl _ _ 34 rfl (w.heap.size + 1) 3 i0 .i64 8 Tryd.underlying34 hi hz0 hz1 hz2 _ out.length out rfl (hown.alloc _) rfl (some ⟨wr.heap.size, 0, none⟩) 1 1 [c] rfl rfl (reads_new wr .i64 _ 3 1 rfl (by unfold maxLen; omega)) (fun h => by cases h) (by unfold maxLen; omega) (by omega) (by simp <;> omega) ?_; intro v' w3 hown3 hgrow3))
          have hB3 : Blk w3 w.heap.size zeroTk 29 := (hB.out.alloc_old _).kept hgrow3 (fun e => by have := (hown.lt _ e).1; omega)
          have hbl3 : Below w.heap.size w w3 := (HBL.out.alloc (by omega) _).grown hgrow3 (by simp <;> omega) (fun q hq => by have := (hown.lt q hq).1; omega)
          go_roundw
          case rel => exact ⟨j2, out ++ [c], out' ++ [c'], by go_num, by omega, e, hE2, by rw [List.length_append]; simp; omega, hown3, Lib.hid hB3, hbl3⟩
          case measure => simp [intOf]; omega
      · -- the end of it
        rw [h41] at hq
        have hsp : spB l j = false := by unfold spB; rw [isB_iff.1 h41]; decide
        have hss := spacesF_stop hsp
        have e := Lib.hid ((urlS_close (by rw [hss]; exact HLT.out) (by rw [hss]; exact h41) (out := out')).symm.trans hG.out)
        rw [hss] at e
        rw [Nat.min_eq_left (by omega : j + 1 ≤ n)] at c3
        obtain ⟨a2, c2, hv, hrd⟩ := Reads.of_owns hown
        subst hv
        have cT := tokText_any a2 c2 out.length out wr rfl hrd (by omega) (HM.out.later HBL.out)
        clear h41 hG hsp hss f1 f3 f4 hown
        generalize chA l j = z at *
        go_wp2_with (go_at_call 29; (with_reducible refine (c3 _).mono ?_); rintro e w1 ⟨rfl, hw1⟩; replace hw1 := hw1.symm; subst hw1)
        refine cT.mono ?_
        rintro e w2 ⟨rfl, hb2⟩
        have hB2 := hB.out.later hb2 (by omega)
        have hbl2 := HBL.out.trans (hb2.mono (by omega))
        have r0 := hB2.cell 0 _ rfl
        have r1 := hB2.cell 1 _ rfl
        have r2 := hB2.cell 2 _ rfl
        have r3 := hB2.cell 3 _ rfl
        have r4 := hB2.cell 4 _ rfl
        have r5 := hB2.cell 5 _ rfl
        have q0 := hB2.frozen 0
        have q1 := hB2.frozen 1
        have q2 := hB2.frozen 2
        have q3 := hB2.frozen 3
        have q4 := hB2.frozen 4
        have q5 := hB2.frozen 5
        clear cT hb2
        go_wp2
        refine bodyPost_ret (v := .agg #[.int .i64 7, .int .i64 0, .int .i64 (j + 1 : Nat), .string (strOfNums (bytesF out)), .string ⟨#[]⟩, .bool false]) (by simp [results, Tryd.results57, go_sem, r0, r1, r2, r3, r4, r5]) rfl ⟨by rw [← e.out, bytesF_same hE.out]; rfl, ?_⟩
        exact below_set6 hbl2 (Nat.le_refl _) _ _ _ _ _ _
    · obtain rfl : j = n := by omega
      have hlt' : ¬ (j : Int) < (j : Int) := by omega
      have e := Lib.hid ((urlS_end (out := out') (i := j) (by have := (spacesGo_le l (l.length + 1) j).1; have := HL.out; unfold spacesF; omega)).symm.trans hG.out)
      rw [Nat.min_eq_right (by omega : j ≤ j + 1)] at c3
      obtain ⟨a2, c2, hv, hrd⟩ := Reads.of_owns hown
      subst hv
      have cT := tokText_any a2 c2 out.length out wr rfl hrd (by omega) (HM.out.later HBL.out)
      clear hG hown hlt
      go_wp2_with (go_at_call 29; (with_reducible refine (c3 _).mono ?_); rintro e w1 ⟨rfl, hw1⟩; replace hw1 := hw1.symm; subst hw1)
      refine cT.mono ?_
      rintro e w2 ⟨rfl, hb2⟩
      have hB2 := hB.out.later hb2 (by omega)
      have hbl2 := HBL.out.trans (hb2.mono (by omega))
      have r0 := hB2.cell 0 _ rfl
      have r1 := hB2.cell 1 _ rfl
      have r2 := hB2.cell 2 _ rfl
      have r3 := hB2.cell 3 _ rfl
      have r4 := hB2.cell 4 _ rfl
      have r5 := hB2.cell 5 _ rfl
      have q0 := hB2.frozen 0
      have q1 := hB2.frozen 1
      have q2 := hB2.frozen 2
      have q3 := hB2.frozen 3
      have q4 := hB2.frozen 4
      have q5 := hB2.frozen 5
      clear cT hb2
      go_wp2
      refine bodyPost_ret (v := .agg #[.int .i64 7, .int .i64 0, .int .i64 (j : Nat), .string (strOfNums (bytesF out)), .string ⟨#[]⟩, .bool false]) (by simp [results, Tryd.results57, go_sem, r0, r1, r2, r3, r4, r5]) rfl ⟨by rw [← e.out, bytesF_same hE.out, HL.out]; rfl, ?_⟩
      exact below_set6 hbl2 (Nat.le_refl _) _ _ _ _ _ _
end

section
open Go.RowKit Go.Shelf
set_option linter.unusedVariables false
set_option linter.unusedSimpArgs false

def sgs : ByteArray := ⟨#[40, 41, 91, 93, 123, 125, 44, 58, 59]⟩
def sgKinds : List Int := [21, 22, 19, 20, 23, 24, 18, 16, 17]
/-- The listed table of kinds. -/
def SgW (w : World) : Prop := ∀ p, p < 9 → w.cell? ⟨0, p, none⟩ = some (.int .i64 (sgKinds.getD p 0))
theorem SgW.lt {w : World} (h : SgW w) : 0 < w.heap.size := World.block_lt_of_cell? w _ (h 0 (by decide))
theorem SgW.later {w w' : World} (h : SgW w) (hb : Below w.heap.size w w') : SgW w' := fun p hp => (hb.cell (p := ⟨0, p, none⟩) h.lt).trans (h p hp)
/-- What tokens ask of the library's and the program's tables. -/
structure TkW (w : World) : Prop where
  mx : MxW w
  sg : SgW w
theorem TkW.later {w w' : World} (h : TkW w) (hb : Below w.heap.size w w') : TkW w' := ⟨h.mx.later hb, h.sg.later hb⟩
def signF (l : List Int) (k : Nat) : Tk := if signKind (chA l k) = 9 then ⟨9, 0, k + 1, bytesF [chA l k], [], false⟩ else ⟨signKind (chA l k), 0, k + 1, [], [], false⟩
theorem sgs_at : ∀ p (h : p < sgs.size), 1 ≤ (sgs[p]'h).toNat ∧ (sgs[p]'h).toNat < 128 ∧ signKind ((sgs[p]'h).toNat : Int) = sgKinds.getD p 0 ∧ sgKinds.getD p 0 ≠ 9 := by decide +kernel
theorem sgs_none (c : Int) (h : ∀ p (h : p < sgs.size), c ≠ ((sgs[p]'h).toNat : Int)) : signKind c = 9 := by
  have h0 : c ≠ 40 := h 0 (by decide)
  have h1 : c ≠ 41 := h 1 (by decide)
  have h2 : c ≠ 91 := h 2 (by decide)
  have h3 : c ≠ 93 := h 3 (by decide)
  have h4 : c ≠ 123 := h 4 (by decide)
  have h5 : c ≠ 125 := h 5 (by decide)
  have h6 : c ≠ 44 := h 6 (by decide)
  have h7 : c ≠ 58 := h 7 (by decide)
  have h8 : c ≠ 59 := h 8 (by decide)
  unfold signKind
  rw [if_neg h0, if_neg h1, if_neg h2, if_neg h3, if_neg h4, if_neg h5, if_neg h6, if_neg h7, if_neg h8]

set_option maxRecDepth 100000 in
set_option maxHeartbeats 4000000 in
theorem sign_any {a : Option Addr} {n cap : Nat} {l : List Int} {w : World} (i : Int) (k : Nat) (h : Src w a n cap l) (hT : TkW w) (hi : i = (k : Int)) (hk : k < n) :
    Calls Tryd.prog 44 #[.slice a n cap, .int .i64 i] w (Told (tkV (signF l k)) w) := by
  subst hi
  have hsm := h.small
  obtain ⟨hcap1, hcap2⟩ := h.cap
  have hlen := h.len
  generalize hR : signF l k = R
  unfold signF at hR
  have HR := Lib.hid hR
  clear hR
  generalize hW0 : w.alloc (.cells zeroTk.toArray 29) = W0
  have hb0 : Below w.heap.size w W0 := by rw [← hW0]; exact (Below.refl _ w).alloc (Nat.le_refl _) _
  have hz0 : W0.heap.size = w.heap.size + 1 := by rw [← hW0]; simp
  have HB0 := Lib.hid (show Blk W0 w.heap.size zeroTk 29 from by rw [← hW0]; exact Blk.alloc _ _)
  have HP := Lib.hid h
  have HT := Lib.hid hT
  obtain ⟨b, off, rfl, hcw⟩ := h.cell k hk
  have HC := Lib.hid (And.intro (World.block_lt_of_cell? w _ hcw) hcw)
  have HW0 := Lib.hid hW0
  clear h hT hcw
  go_enter Tryd.func44, Tryd.ntmps44
  go_wp2_with fail
  rw [show w.alloc (Obj.cells #[.int .i64 0, .int .i64 0, .int .i64 0, .string ⟨#[]⟩, .string ⟨#[]⟩, .bool false] 29) = W0 from HW0.out]
  clear hW0
  go_loopg [5, 6] 9 (fun gf _ _ wr => ∃ p : Nat, p + gf = 9 ∧ Hid (∀ q (h : q < sgs.size), q < p → chA l k ≠ ((sgs[q]'h).toNat : Int)) ∧ wr = W0.iter sgs p)
  case atStart => exact ⟨0, by omega, Lib.hid (fun q h hq => by omega), rfl⟩
  case round =>
    obtain ⟨p, hp, hN, rfl⟩ := hrel
    have hbi : ∀ p, Below w.heap.size w (W0.iter sgs p) := fun p => hb0.alloc (by omega) _
    have HBI := Lib.hid hbi
    have hBk : ∀ p, Blk (W0.iter sgs p) w.heap.size zeroTk 29 := fun p => HB0.out.alloc_old _
    have HBK := Lib.hid hBk
    clear hbi hBk
    by_cases hlt : p < sgs.size
    · obtain ⟨g', rfl⟩ : ∃ g', gk = g' + 1 := ⟨gk - 1, by have : sgs.size = 9 := rfl; omega⟩
      obtain ⟨ha1, ha2, ha3, ha4⟩ := sgs_at p hlt
      have hnx := fun ty => run_next_ascii (P := Tryd.prog) W0 sgs p ty hlt ha2
      simp only [hz0] at hnx
      have hc := ((HBI.out (p + 1)).cell (p := ⟨b, off + k, none⟩) HC.out.1).trans HC.out.2
      have hg := (HT.out.later (HBI.out (p + 1))).sg p hlt
      have hp9 : (p : Int) < 9 := by have : p < 9 := hlt; omega
      have hN1 := hN.out
      by_cases hq : chA l k = ((sgs[p]'hlt).toNat : Int)
      · have hbq : (chA l k == ((sgs[p]'hlt).toNat : Int)) = true := beq_iff_eq.2 hq
        have hRR := HR.out
        rw [hq, ha3, if_neg ha4] at hRR
        have HRR := Lib.hid hRR
        have r0 := (HBK.out (p + 1)).cell 0 _ rfl
        have r1 := (HBK.out (p + 1)).cell 1 _ rfl
        have r2 := (HBK.out (p + 1)).cell 2 _ rfl
        have r3 := (HBK.out (p + 1)).cell 3 _ rfl
        have r4 := (HBK.out (p + 1)).cell 4 _ rfl
        have r5 := (HBK.out (p + 1)).cell 5 _ rfl
        have q0 := (HBK.out (p + 1)).frozen 0
        have q1 := (HBK.out (p + 1)).frozen 1
        have q2 := (HBK.out (p + 1)).frozen 2
        have q3 := (HBK.out (p + 1)).frozen 3
        have q4 := (HBK.out (p + 1)).frozen 4
        have q5 := (HBK.out (p + 1)).frozen 5
        clear hN hN1 hRR ha3 ha4 hq
        generalize sgKinds.getD p 0 = kd at *
        generalize chA l k = z at *
        generalize (sgs[p]'hlt).toNat = y at *
        go_wp2
        refine bodyPost_ret (v := .agg #[.int .i64 kd, .int .i64 0, .int .i64 (k + 1 : Nat), .string ⟨#[]⟩, .string ⟨#[]⟩, .bool false]) (by simp [results, Tryd.results44, go_sem, r0, r1, r2, r3, r4, r5]) rfl ⟨by rw [← HRR.out]; rfl, ?_⟩
        exact below_set6 (HBI.out (p + 1)) (Nat.le_refl _) _ _ _ _ _ _
      · have hbq : (chA l k == ((sgs[p]'hlt).toNat : Int)) = false := beq_eq_false_iff_ne.2 hq
        have HNN := Lib.hid (show ∀ q (h : q < sgs.size), q < p + 1 → chA l k ≠ ((sgs[q]'h).toNat : Int) from fun q h hq' => by
          rcases Nat.lt_or_ge q p with hh | hh
          · exact hN1 q h hh
          · obtain rfl : q = p := by omega
            exact hq)
        clear hN hN1 ha3 ha4 hq hg
        generalize hz : chA l k = z at hc hbq
        generalize (sgs[p]'hlt).toNat = y at *
        clear hz
        go_wp2
        go_roundg g'
        case measure => omega
        case rel => exact ⟨p + 1, by omega, HNN, rfl⟩
    · obtain rfl : p = sgs.size := by have : sgs.size = 9 := rfl; omega
      have hnx := fun ty => run_next_end (P := Tryd.prog) W0 sgs sgs.size ty hlt
      simp only [hz0] at hnx
      have hsk := sgs_none (chA l k) (fun q h => hN.out q h h)
      have hRR := HR.out
      rw [if_pos hsk] at hRR
      have HRR := Lib.hid hRR
      have hSi := Lib.hid (HP.out.later (HBI.out sgs.size))
      obtain ⟨b', off', hcc, hrd, hln⟩ := hSi.out.rd.part hSi.out.len k (k + 1) (by omega) (by omega)
      cases hcc
      rw [show k + 1 - k = 1 by omega] at hln
      have hsl : sliceF l k (k + 1) = [chA l k] := by
        unfold sliceF
        rw [show k + 1 - k = 1 by omega, List.drop_eq_getElem_cons (by omega), List.take_succ_cons, List.take_zero]
        unfold chA
        rw [List.getElem?_eq_getElem (by omega)]; rfl
      have cT := tokText_any (some ⟨b, off + k, none⟩) (cap - k) 1 (sliceF l k (k + 1)) (W0.iter sgs sgs.size) hln hrd (by omega) (HT.out.mx.later (HBI.out _))
      rw [hsl] at cT
      have hk1 : (k : Int) + 1 ≤ (n : Int) := by omega
      have hkz : ((k : Int) + 1 - (k : Int)).toNat = 1 := by omega
      clear hN hRR hsk hrd hln hsl
      go_wp2_with fail
      refine cT.mono ?_
      rintro e w2 ⟨rfl, hb2⟩
      have hB2 := (HBK.out sgs.size).later hb2 (HBK.out sgs.size).lt
      have hbl2 := (HBI.out sgs.size).trans (hb2.mono (HBI.out sgs.size).size)
      have r0 := hB2.cell 0 _ rfl
      have r1 := hB2.cell 1 _ rfl
      have r2 := hB2.cell 2 _ rfl
      have r3 := hB2.cell 3 _ rfl
      have r4 := hB2.cell 4 _ rfl
      have r5 := hB2.cell 5 _ rfl
      have q0 := hB2.frozen 0
      have q1 := hB2.frozen 1
      have q2 := hB2.frozen 2
      have q3 := hB2.frozen 3
      have q4 := hB2.frozen 4
      have q5 := hB2.frozen 5
      clear cT hb2
      go_wp2
      refine bodyPost_ret (v := .agg #[.int .i64 9, .int .i64 0, .int .i64 (k + 1 : Nat), .string (strOfNums (bytesF [chA l k])), .string ⟨#[]⟩, .bool false]) (by simp [results, Tryd.results44, go_sem, r0, r1, r2, r3, r4, r5]) rfl ⟨by rw [← HRR.out]; rfl, ?_⟩
      exact below_set6 hbl2 (Nat.le_refl _) _ _ _ _ _ _
end

section
open Go.RowKit Go.Shelf
set_option linter.unusedVariables false
set_option linter.unusedSimpArgs false

theorem namesGo_len (l : List Int) : ∀ (f j : Nat) (out : List Int), (namesGo f l j out).1.length + j ≤ out.length + (namesGo f l j out).2
  | 0, j, out => Nat.le_refl _
  | f + 1, j, out => by
    rw [namesGo]
    by_cases h : nmB l j = true
    · rw [if_pos h]
      have := namesGo_len l f (j + 1) (out ++ [chA l j])
      rw [List.length_append] at this
      simp at this; omega
    · rw [if_neg h]
      by_cases he : escB l j = true
      · rw [if_pos he]
        have := namesGo_len l f (valueF l j).2 (out ++ [(valueF l j).1])
        have hv := (valueF_bd (lt_of_escB he)).1
        rw [List.length_append] at this
        simp at this; omega
      · rw [if_neg he]; exact Nat.le_refl _
theorem namesF_len (l : List Int) (j : Nat) : (namesF l j).1.length ≤ (namesF l j).2 := by
  have := namesGo_len l (l.length + 1) j []
  have h2 : (namesF l j).1.length + j ≤ ([] : List Int).length + (namesF l j).2 := this
  simp at h2; omega
theorem bytesF_len (zs : List Int) : (bytesF zs).length ≤ 4 * zs.length := by
  unfold bytesF
  have := textF_len (zs.map cleanF)
  rwa [List.length_map] at this
theorem strB_nums (zs : List Int) : strB (strOfNums zs) = zs.map u8 := rfl
theorem lowL_nums {zs : List Int} (h : U8 zs) : lowL (strB (strOfNums zs)) = zs.map smallF := by
  unfold lowL
  rw [strB_nums, List.map_map]
  apply List.map_congr_left
  intro z hz
  obtain ⟨h0, h1⟩ := h z hz
  show smallF ((UInt8.ofNat z.toNat).toNat : Int) = smallF z
  rw [UInt8.toNat_ofNat']
  congr 1
  omega
theorem same_url (zs : List Int) (h : U8 zs) : sameB (strOfNums zs) ⟨#[117, 114, 108]⟩ = urlName zs := by
  unfold sameB urlName
  rw [lowL_nums h]; rfl

set_option maxRecDepth 100000 in
set_option maxHeartbeats 4000000 in
theorem named_any {a : Option Addr} {n cap : Nat} {l : List Int} {w : World} (i : Int) (k : Nat) (h : Src w a n cap l) (hM : MxW w) (hi : i = (k : Int)) (hk : k < n) :
    Calls Tryd.prog 41 #[.slice a n cap, .int .i64 i] w (Told (tkV (tkZ (calledF l k))) w) := by
  subst hi
  have hsm := h.small
  have HL := Lib.hid h.len
  have hC : Hid (tkZ (calledF l k) = if !isB l (namesF l k).2 40 then ⟨1, 0, (namesF l k).2, bytesF (namesF l k).1, [], false⟩
      else if urlName (bytesF (namesF l k).1) && !isB l (spacesF l ((namesF l k).2 + 1)) 34 && !isB l (spacesF l ((namesF l k).2 + 1)) 39 then urlS l (spacesF l ((namesF l k).2 + 1)) []
      else ⟨2, 0, (namesF l k).2 + 1, bytesF (namesF l k).1, [], false⟩) := Lib.hid (by
    unfold calledF
    split
    · rfl
    · split
      · exact urlGo_frm l k _ _ _
      · rfl)
  generalize tkZ (calledF l k) = R at *
  have hto := (namesF_le l k).2 (by rw [HL.out]; omega)
  rw [HL.out] at hto
  have hnl := namesF_len l k
  have hbl := bytesF_len (namesF l k).1
  have hsz : (strOfNums (bytesF (namesF l k).1)).size ≤ 1000000 := by rw [strOfNums_size]; omega
  have hsame := same_url (bytesF (namesF l k).1) (textF_u8 _)
  have cSm := fun w => same_any (strOfNums (bytesF (namesF l k).1)) ⟨#[117, 114, 108]⟩ w hsz
  rw [hsame] at cSm
  generalize hW0 : w.alloc (.cells zeroTk.toArray 29) = W0
  have hb0 : Below w.heap.size w W0 := by rw [← hW0]; exact (Below.refl _ w).alloc (Nat.le_refl _) _
  have HB0 := Lib.hid (show Blk W0 w.heap.size zeroTk 29 from by rw [← hW0]; exact Blk.alloc _ _)
  have cN := readName_any (k : Int) k (h.later hb0) (hM.later hb0) rfl (by omega)
  have HP := Lib.hid h
  have HM := Lib.hid hM
  have HW0 := Lib.hid hW0
  have HBz := Lib.hid hb0
  clear h hM hsame hsz hnl hbl hW0 hb0
  generalize hto' : (namesF l k).2 = m at *
  generalize bytesF (namesF l k).1 = txt at *
  clear hto'
  go_enter Tryd.func41, Tryd.ntmps41
  go_wp2_with fail
  rw [show w.alloc (Obj.cells #[.int .i64 0, .int .i64 0, .int .i64 0, .string ⟨#[]⟩, .string ⟨#[]⟩, .bool false] 29) = W0 from HW0.out]
  refine cN.mono ?_
  rintro e w1 ⟨rfl, hb1⟩
  have hB1 := HB0.out.later hb1 HB0.out.lt
  have hbl1 := HBz.out.trans (hb1.mono HBz.out.size)
  have HBL := Lib.hid hbl1
  have HB := Lib.hid hB1
  have hS := Lib.hid (HP.out.later hbl1)
  have f1 := stands_any (m : Int) m 40 hS.out rfl (by decide)
  clear cN hb1 hbl1
  rcases h40 : isB l m 40 with _ | _
  · rw [h40] at f1
    have e := Lib.hid (show (⟨1, 0, m, txt, [], false⟩ : Tk) = R from by rw [hC.out, if_pos (by rw [h40]; rfl)])
    have r0 := hB1.cell 0 _ rfl
    have r1 := hB1.cell 1 _ rfl
    have r2 := hB1.cell 2 _ rfl
    have r3 := hB1.cell 3 _ rfl
    have r4 := hB1.cell 4 _ rfl
    have r5 := hB1.cell 5 _ rfl
    have q0 := hB1.frozen 0
    have q1 := hB1.frozen 1
    have q2 := hB1.frozen 2
    have q3 := hB1.frozen 3
    have q4 := hB1.frozen 4
    have q5 := hB1.frozen 5
    clear h40 cSm hC
    go_wp2_with (go_at_call 45; (with_reducible refine f1.mono ?_); rintro e w' ⟨rfl, rfl⟩)
    refine bodyPost_ret (v := .agg #[.int .i64 1, .int .i64 0, .int .i64 (m : Nat), .string (strOfNums txt), .string ⟨#[]⟩, .bool false]) (by simp [results, Tryd.results41, go_sem, r0, r1, r2, r3, r4, r5]) rfl ⟨by rw [← e.out]; rfl, ?_⟩
    exact below_set6 HBL.out (Nat.le_refl _) _ _ _ _ _ _
  · rw [h40] at f1
    have hmn : m < n := by have := lt_of_isB h40 (by decide); rw [HL.out] at this; exact this
    have hs2 := spacesF_le l (m + 1) (by rw [HL.out]; omega)
    rw [HL.out] at hs2
    have f2 := passBlanks_any ((m : Int) + 1) (m + 1) hS.out (by omega) (by omega)
    have f3 := stands_any ((spacesF l (m + 1) : Nat) : Int) (spacesF l (m + 1)) 34 hS.out rfl (by decide)
    have f4 := stands_any ((spacesF l (m + 1) : Nat) : Int) (spacesF l (m + 1)) 39 hS.out rfl (by decide)
    have hC2 := Lib.hid (show (if urlName txt && !isB l (spacesF l (m + 1)) 34 && !isB l (spacesF l (m + 1)) 39 then urlS l (spacesF l (m + 1)) [] else (⟨2, 0, m + 1, txt, [], false⟩ : Tk)) = R from by rw [hC.out, if_neg (show ¬ ((!isB l m 40) = true) from by rw [h40]; decide)])
    clear h40 hC
    generalize spacesF l (m + 1) = s at *
    generalize urlName txt = u at *
    generalize isB l s 34 = p at *
    generalize isB l s 39 = q at *
    by_cases hu : (u && !p && !q) = true
    · have e := hC2.out
      rw [if_pos hu] at e
      have hub := Lib.hid e
      simp only [Bool.and_eq_true, Bool.not_eq_true'] at hu
      obtain ⟨⟨rfl, rfl⟩, rfl⟩ := hu
      have cU := fun w' hb => urlC_any ((s : Nat) : Int) s (Src.later (w := w1) (w' := w') hS.out hb) ((HM.out.later HBL.out).later hb) rfl hs2
      rw [hub.out] at cU
      clear e hC2
      go_wp2_with (first
        | (go_at_call 45; first | ((with_reducible refine f1.mono ?_); rintro e w' ⟨rfl, rfl⟩) | ((with_reducible refine f3.mono ?_); rintro e w' ⟨rfl, rfl⟩) | ((with_reducible refine f4.mono ?_); rintro e w' ⟨rfl, rfl⟩))
        | (go_at_call 36; (with_reducible refine f2.mono ?_); rintro e w' ⟨rfl, rfl⟩)
        | (go_at_call 56; (with_reducible refine (cSm _).mono ?_); rintro e w2 ⟨rfl, hb2⟩))
      refine (cU _ hb2).mono ?_
      rintro e w3 ⟨rfl, hb3⟩
      have hB3 := (HB.out.later hb2 HB.out.lt).later hb3 (HB.out.later hb2 HB.out.lt).lt
      have hbl3 := HBL.out.trans ((below_trans hb2 hb3).mono HBL.out.size)
      have r0 := hB3.cell 0 _ rfl
      have r1 := hB3.cell 1 _ rfl
      have r2 := hB3.cell 2 _ rfl
      have r3 := hB3.cell 3 _ rfl
      have r4 := hB3.cell 4 _ rfl
      have r5 := hB3.cell 5 _ rfl
      have q0 := hB3.frozen 0
      have q1 := hB3.frozen 1
      have q2 := hB3.frozen 2
      have q3 := hB3.frozen 3
      have q4 := hB3.frozen 4
      have q5 := hB3.frozen 5
      clear cU hb3
      obtain ⟨kd, fr, to_, tx, nm, wh⟩ := R
      unfold tkV tkCells
      go_wp2
      refine bodyPost_ret (v := tkV ⟨kd, fr, to_, tx, nm, wh⟩) (by simp [results, Tryd.results41, go_sem, tkV, tkCells, r0, r1, r2, r3, r4, r5]) rfl ⟨rfl, ?_⟩
      exact below_set6 hbl3 (Nat.le_refl _) _ _ _ _ _ _
    · have e := hC2.out
      rw [if_neg hu] at e
      have he := Lib.hid e
      clear e hC2
      have key : (u = false) ∨ (u = true ∧ p = true) ∨ (u = true ∧ p = false ∧ q = true) := by
        revert hu; cases u <;> cases p <;> cases q <;> simp
      clear hu
      rcases key with rfl | ⟨rfl, rfl⟩ | ⟨rfl, rfl, rfl⟩
      · cases p
        all_goals
          go_wp2_with (first
            | (go_at_call 45; first | ((with_reducible refine f1.mono ?_); rintro e w' ⟨rfl, rfl⟩) | ((with_reducible refine f3.mono ?_); rintro e w' ⟨rfl, rfl⟩) | ((with_reducible refine f4.mono ?_); rintro e w' ⟨rfl, rfl⟩))
            | (go_at_call 36; (with_reducible refine f2.mono ?_); rintro e w' ⟨rfl, rfl⟩)
            | (go_at_call 56; (with_reducible refine (cSm _).mono ?_); rintro e w2 ⟨rfl, hb2⟩; have hB3 := HB.out.later hb2 HB.out.lt; have hbl3 := HBL.out.trans (hb2.mono HBL.out.size); have r0 := hB3.cell 0 _ rfl; have r1 := hB3.cell 1 _ rfl; have r2 := hB3.cell 2 _ rfl; have r3 := hB3.cell 3 _ rfl; have r4 := hB3.cell 4 _ rfl; have r5 := hB3.cell 5 _ rfl; have q0 := hB3.frozen 0; have q1 := hB3.frozen 1; have q2 := hB3.frozen 2; have q3 := hB3.frozen 3; have q4 := hB3.frozen 4; have q5 := hB3.frozen 5))
          refine bodyPost_ret (v := .agg #[.int .i64 2, .int .i64 0, .int .i64 (m + 1 : Nat), .string (strOfNums txt), .string ⟨#[]⟩, .bool false]) (by simp [results, Tryd.results41, go_sem, r0, r1, r2, r3, r4, r5]) rfl ⟨by rw [← he.out]; rfl, ?_⟩
          exact below_set6 hbl3 (Nat.le_refl _) _ _ _ _ _ _
      all_goals
        go_wp2_with (first
          | (go_at_call 45; first | ((with_reducible refine f1.mono ?_); rintro e w' ⟨rfl, rfl⟩) | ((with_reducible refine f3.mono ?_); rintro e w' ⟨rfl, rfl⟩) | ((with_reducible refine f4.mono ?_); rintro e w' ⟨rfl, rfl⟩))
          | (go_at_call 36; (with_reducible refine f2.mono ?_); rintro e w' ⟨rfl, rfl⟩)
          | (go_at_call 56; (with_reducible refine (cSm _).mono ?_); rintro e w2 ⟨rfl, hb2⟩; have hB3 := HB.out.later hb2 HB.out.lt; have hbl3 := HBL.out.trans (hb2.mono HBL.out.size); have r0 := hB3.cell 0 _ rfl; have r1 := hB3.cell 1 _ rfl; have r2 := hB3.cell 2 _ rfl; have r3 := hB3.cell 3 _ rfl; have r4 := hB3.cell 4 _ rfl; have r5 := hB3.cell 5 _ rfl; have q0 := hB3.frozen 0; have q1 := hB3.frozen 1; have q2 := hB3.frozen 2; have q3 := hB3.frozen 3; have q4 := hB3.frozen 4; have q5 := hB3.frozen 5))
        refine bodyPost_ret (v := .agg #[.int .i64 2, .int .i64 0, .int .i64 (m + 1 : Nat), .string (strOfNums txt), .string ⟨#[]⟩, .bool false]) (by simp [results, Tryd.results41, go_sem, r0, r1, r2, r3, r4, r5]) rfl ⟨by rw [← he.out]; rfl, ?_⟩
        exact below_set6 hbl3 (Nat.le_refl _) _ _ _ _ _ _
end

section
open Go.RowKit Go.Shelf
set_option linter.unusedVariables false
set_option linter.unusedSimpArgs false

section
variable {l : List Int} {k : Nat}
theorem tokZ_0 (hk : k < l.length) (hsp : spB l k = true) : tkZ (tokAt l k) = ⟨13, 0, spacesF l k, [], [], false⟩ := by
  unfold tokAt
  rw [if_neg (show ¬ (l.length ≤ k) from by omega), if_pos (show (spB l k) = true from hsp)]
  all_goals rfl
theorem tokZ_1 (hk : k < l.length) (hsp : spB l k = false) (hqd : (isB l k 34 || isB l k 39) = true) : tkZ (tokAt l k) = quoF l (chA l k) (k + 1) [] := by
  unfold tokAt
  rw [if_neg (show ¬ (l.length ≤ k) from by omega), if_neg (show ¬ ((spB l k) = true) from by rw [hsp]; decide), if_pos (show ((isB l k 34 || isB l k 39)) = true from hqd)]
  exact quotedGo_frm l (chA l k) k _ _ _
theorem tokZ_2 (hk : k < l.length) (hsp : spB l k = false) (hqd : (isB l k 34 || isB l k 39) = false) (hnu : numAt l k = true) : tkZ (tokAt l k) = tkZ (numericF l k) := by
  unfold tokAt
  rw [if_neg (show ¬ (l.length ≤ k) from by omega), if_neg (show ¬ ((spB l k) = true) from by rw [hsp]; decide), if_neg (show ¬ (((isB l k 34 || isB l k 39)) = true) from by rw [hqd]; decide), if_pos (show (numAt l k) = true from hnu)]
  all_goals rfl
theorem tokZ_3 (hk : k < l.length) (hsp : spB l k = false) (hqd : (isB l k 34 || isB l k 39) = false) (hnu : numAt l k = false) (hcd : cdcB l k = true) : tkZ (tokAt l k) = ⟨15, 0, k + 3, [], [], false⟩ := by
  unfold tokAt
  rw [if_neg (show ¬ (l.length ≤ k) from by omega), if_neg (show ¬ ((spB l k) = true) from by rw [hsp]; decide), if_neg (show ¬ (((isB l k 34 || isB l k 39)) = true) from by rw [hqd]; decide), if_neg (show ¬ ((numAt l k) = true) from by rw [hnu]; decide), if_pos (show (cdcB l k) = true from hcd)]
  all_goals rfl
theorem tokZ_4 (hk : k < l.length) (hsp : spB l k = false) (hqd : (isB l k 34 || isB l k 39) = false) (hnu : numAt l k = false) (hcd : cdcB l k = false) (hna : nameAt l k = true) : tkZ (tokAt l k) = tkZ (calledF l k) := by
  unfold tokAt
  rw [if_neg (show ¬ (l.length ≤ k) from by omega), if_neg (show ¬ ((spB l k) = true) from by rw [hsp]; decide), if_neg (show ¬ (((isB l k 34 || isB l k 39)) = true) from by rw [hqd]; decide), if_neg (show ¬ ((numAt l k) = true) from by rw [hnu]; decide), if_neg (show ¬ ((cdcB l k) = true) from by rw [hcd]; decide), if_pos (show (nameAt l k) = true from hna)]
  all_goals rfl
theorem tokZ_5 (hk : k < l.length) (hsp : spB l k = false) (hqd : (isB l k 34 || isB l k 39) = false) (hnu : numAt l k = false) (hcd : cdcB l k = false) (hna : nameAt l k = false) (hco : cdoB l k = true) : tkZ (tokAt l k) = ⟨14, 0, k + 4, [], [], false⟩ := by
  unfold tokAt
  rw [if_neg (show ¬ (l.length ≤ k) from by omega), if_neg (show ¬ ((spB l k) = true) from by rw [hsp]; decide), if_neg (show ¬ (((isB l k 34 || isB l k 39)) = true) from by rw [hqd]; decide), if_neg (show ¬ ((numAt l k) = true) from by rw [hnu]; decide), if_neg (show ¬ ((cdcB l k) = true) from by rw [hcd]; decide), if_neg (show ¬ ((nameAt l k) = true) from by rw [hna]; decide), if_pos (show (cdoB l k) = true from hco)]
  all_goals rfl
theorem tokZ_6 (hk : k < l.length) (hsp : spB l k = false) (hqd : (isB l k 34 || isB l k 39) = false) (hnu : numAt l k = false) (hcd : cdcB l k = false) (hna : nameAt l k = false) (hco : cdoB l k = false) (hat : atSgB l k = true) : tkZ (tokAt l k) = ⟨3, 0, (namesF l (k + 1)).2, bytesF (namesF l (k + 1)).1, [], false⟩ := by
  unfold tokAt
  rw [if_neg (show ¬ (l.length ≤ k) from by omega), if_neg (show ¬ ((spB l k) = true) from by rw [hsp]; decide), if_neg (show ¬ (((isB l k 34 || isB l k 39)) = true) from by rw [hqd]; decide), if_neg (show ¬ ((numAt l k) = true) from by rw [hnu]; decide), if_neg (show ¬ ((cdcB l k) = true) from by rw [hcd]; decide), if_neg (show ¬ ((nameAt l k) = true) from by rw [hna]; decide), if_neg (show ¬ ((cdoB l k) = true) from by rw [hco]; decide), if_pos (show (atSgB l k) = true from hat)]
  all_goals rfl
theorem tokZ_7 (hk : k < l.length) (hsp : spB l k = false) (hqd : (isB l k 34 || isB l k 39) = false) (hnu : numAt l k = false) (hcd : cdcB l k = false) (hna : nameAt l k = false) (hco : cdoB l k = false) (hat : atSgB l k = false) (hha : hashB l k = true) : tkZ (tokAt l k) = ⟨4, 0, (namesF l (k + 1)).2, bytesF (namesF l (k + 1)).1, [], nameAt l (k + 1)⟩ := by
  unfold tokAt
  rw [if_neg (show ¬ (l.length ≤ k) from by omega), if_neg (show ¬ ((spB l k) = true) from by rw [hsp]; decide), if_neg (show ¬ (((isB l k 34 || isB l k 39)) = true) from by rw [hqd]; decide), if_neg (show ¬ ((numAt l k) = true) from by rw [hnu]; decide), if_neg (show ¬ ((cdcB l k) = true) from by rw [hcd]; decide), if_neg (show ¬ ((nameAt l k) = true) from by rw [hna]; decide), if_neg (show ¬ ((cdoB l k) = true) from by rw [hco]; decide), if_neg (show ¬ ((atSgB l k) = true) from by rw [hat]; decide), if_pos (show (hashB l k) = true from hha)]
  all_goals rfl
theorem tokZ_8 (hk : k < l.length) (hsp : spB l k = false) (hqd : (isB l k 34 || isB l k 39) = false) (hnu : numAt l k = false) (hcd : cdcB l k = false) (hna : nameAt l k = false) (hco : cdoB l k = false) (hat : atSgB l k = false) (hha : hashB l k = false) : tkZ (tokAt l k) = signF l k := by
  unfold tokAt
  rw [if_neg (show ¬ (l.length ≤ k) from by omega), if_neg (show ¬ ((spB l k) = true) from by rw [hsp]; decide), if_neg (show ¬ (((isB l k 34 || isB l k 39)) = true) from by rw [hqd]; decide), if_neg (show ¬ ((numAt l k) = true) from by rw [hnu]; decide), if_neg (show ¬ ((cdcB l k) = true) from by rw [hcd]; decide), if_neg (show ¬ ((nameAt l k) = true) from by rw [hna]; decide), if_neg (show ¬ ((cdoB l k) = true) from by rw [hco]; decide), if_neg (show ¬ ((atSgB l k) = true) from by rw [hat]; decide), if_neg (show ¬ ((hashB l k) = true) from by rw [hha]; decide)]
  unfold signF
  split <;> rfl
end
theorem asc_cdc : Asc ⟨#[45, 45, 62]⟩ := ⟨by decide, by decide⟩
theorem asc_cdo : Asc ⟨#[60, 33, 45, 45]⟩ := ⟨by decide, by decide⟩
theorem beg_cdc (l : List Int) (k : Nat) : begB l k (ascI ⟨#[45, 45, 62]⟩) = cdcB l k := by
  show (isB l k 45 && (isB l (k + 1) 45 && (isB l (k + 1 + 1) 62 && true))) = _
  unfold cdcB
  rw [Bool.and_true, Bool.and_assoc]
theorem beg_cdo (l : List Int) (k : Nat) : begB l k (ascI ⟨#[60, 33, 45, 45]⟩) = cdoB l k := by
  show (isB l k 60 && (isB l (k + 1) 33 && (isB l (k + 1 + 1) 45 && (isB l (k + 1 + 1 + 1) 45 && true)))) = _
  unfold cdoB
  rw [Bool.and_true, Bool.and_assoc, Bool.and_assoc]

set_option maxRecDepth 100000 in
set_option maxHeartbeats 8000000 in
theorem read_any3 {a : Option Addr} {n cap : Nat} {l : List Int} {w : World} (i : Int) (k : Nat) (h : Src w a n cap l) (hT : TkW w) (hi : i = (k : Int)) (hk : k < n) :
    Calls Tryd.prog 30 #[.slice a n cap, .int .i64 i] w (Told (tkV (tkZ (tokAt l k))) w) := by
  subst hi
  have hsm := h.small
  have HK := Lib.hid (show k < l.length from by rw [h.len]; exact hk)
  have HL := Lib.hid h.len
  have HP := Lib.hid h
  have HT := Lib.hid hT
  obtain ⟨b, off, rfl, hc0⟩ := h.cell k hk
  have hc : ∀ o, (w.alloc o).cell? ⟨b, off + k, none⟩ = some (.int .i64 (chA l k)) := fun o => ((Below.refl _ w).alloc (Nat.le_refl _) o).cell (p := ⟨b, off + k, none⟩) (World.block_lt_of_cell? w _ hc0) |>.trans hc0
  have hW0 : ∃ W0, W0 = w.alloc (.cells #[.int .i64 0, .int .i64 0, .int .i64 0, .string ⟨#[]⟩, .string ⟨#[]⟩, .bool false] 29) := ⟨_, rfl⟩
  obtain ⟨W0, hW0⟩ := hW0
  have hb0 : Below w.heap.size w W0 := by rw [hW0]; exact (Below.refl _ w).alloc (Nat.le_refl _) _
  have HB0 := Lib.hid (show Blk W0 w.heap.size zeroTk 29 from by rw [hW0]; exact Blk.alloc _ _)
  have HW := Lib.hid hb0
  have HW0 := Lib.hid hW0
  have f0 := fun w => space_any (chA l k) w (chA_ch h.pre k)
  have hq34 : (chA l k == 34) = isB l k 34 := by unfold isB; rfl
  have hq39 : (chA l k == 39) = isB l k 39 := by unfold isB; rfl
  have hq64 : (chA l k == 64) = isB l k 64 := by unfold isB; rfl
  have hq35 : (chA l k == 35) = isB l k 35 := by unfold isB; rfl
  have hS := fun {w' : World} (hb : Below w.heap.size w w') => h.later hb
  have cBl := passBlanks_any (k : Int) k (hS hb0) rfl (by omega)
  have cQ := quotedC_any (k : Int) k (hS hb0) (hT.mx.later hb0) rfl hk
  have cSN := startsNumber_any (k : Int) k (hS hb0) rfl (by omega)
  have cNu := numericC_any (k : Int) k (hS hb0) (hT.mx.later hb0) rfl hk
  have cB1 := begins_any (k : Int) k ⟨#[45, 45, 62]⟩ (hS hb0) rfl (by omega) asc_cdc
  rw [beg_cdc] at cB1
  have cNa := fun (w' : World) (hb : Below w.heap.size w w') => startsName_any (k : Int) k (hS hb) rfl (by omega)
  have cNd := fun (w' : World) (hb : Below w.heap.size w w') => named_any (k : Int) k (hS hb) (hT.mx.later hb) rfl hk
  have cB2 := fun (w' : World) (hb : Below w.heap.size w w') => begins_any (k : Int) k ⟨#[60, 33, 45, 45]⟩ (hS hb) rfl (by omega) asc_cdo
  simp only [beg_cdo] at cB2
  have cN1 := fun (w' : World) (hb : Below w.heap.size w w') => startsName_any ((k : Int) + 1) (k + 1) (hS hb) (by omega) (by omega)
  have cH1 := fun (w' : World) (hb : Below w.heap.size w w') => hasName_any ((k : Int) + 1) (k + 1) (hS hb) (by omega) (by omega)
  have cR1 := fun (w' : World) (hb : Below w.heap.size w w') => readName_any ((k : Int) + 1) (k + 1) (hS hb) (hT.mx.later hb) (by omega) (by omega)
  have cSg := fun (w' : World) (hb : Below w.heap.size w w') => sign_any (k : Int) k (hS hb) (hT.later hb) rfl hk
  have CNA := Lib.hid cNa
  have CND := Lib.hid cNd
  have CB2 := Lib.hid cB2
  have CN1 := Lib.hid cN1
  have CH1 := Lib.hid cH1
  have CR1 := Lib.hid cR1
  have CSG := Lib.hid cSg
  have HC := Lib.hid hc
  clear h hT hc0 hc cNa cNd cB2 cN1 cH1 cR1 cSg hS hb0 hW0
  generalize hR : tkZ (tokAt l k) = R
  have hRR := Lib.hid hR
  clear hR
  have hcc := HC.out
  rcases hsp : spB l k with _ | _
  rotate_left
  · have hsp' : spaceB (chA l k) = true := hsp
    have e := Lib.hid (show (⟨13, 0, spacesF l k, [], [], false⟩ : Tk) = R from by rw [← hRR.out]; exact (tokZ_0 HK.out hsp).symm)
    rw [hsp'] at f0
    generalize spacesF l k = s at *
    have r0 := HB0.out.cell 0 _ rfl
    have r1 := HB0.out.cell 1 _ rfl
    have r2 := HB0.out.cell 2 _ rfl
    have r3 := HB0.out.cell 3 _ rfl
    have r4 := HB0.out.cell 4 _ rfl
    have r5 := HB0.out.cell 5 _ rfl
    have q0 := HB0.out.frozen 0
    have q1 := HB0.out.frozen 1
    have q2 := HB0.out.frozen 2
    have q3 := HB0.out.frozen 3
    have q4 := HB0.out.frozen 4
    have q5 := HB0.out.frozen 5
    generalize chA l k = z at *
    go_enter Tryd.func30, Tryd.ntmps30
    go_wp2_with fail
    rw [show w.alloc (Obj.cells #[.int .i64 0, .int .i64 0, .int .i64 0, .string ⟨#[]⟩, .string ⟨#[]⟩, .bool false] 29) = W0 from HW0.out.symm]
    refine (f0 _).mono ?_
    rintro e w' ⟨rfl, hw'⟩; replace hw' := hw'.symm; subst hw'
    clear hcc f0
    go_wp2_with (first
      | (go_at_call 36; (with_reducible refine cBl.mono ?_); rintro e w' ⟨rfl, hw'⟩; replace hw' := hw'.symm; subst hw'))
    refine bodyPost_ret (v := .agg #[.int .i64 13, .int .i64 0, .int .i64 s, .string ⟨#[]⟩, .string ⟨#[]⟩, .bool false]) (by simp [results, Tryd.results30, go_sem, r0, r1, r2, r3, r4, r5]) rfl ⟨by rw [← e.out]; rfl, ?_⟩
    exact below_set6 HW.out (Nat.le_refl _) _ _ _ _ _ _
  have hsp' : spaceB (chA l k) = false := hsp
  rw [hsp'] at f0
  rcases hqd : (isB l k 34 || isB l k 39) with _ | _
  rotate_left
  · have e := Lib.hid (show (quoF l (chA l k) (k + 1) [] : Tk) = R from by rw [← hRR.out]; exact (tokZ_1 HK.out hsp hqd).symm)
    rw [e.out] at cQ
    have hk3 : isB l k 34 = true ∨ (isB l k 34 = false ∧ isB l k 39 = true) := by
      revert hqd; cases isB l k 34 <;> cases isB l k 39 <;> simp
    clear hqd hsp hsp' e hq64 hq35
    generalize isB l k 34 = p at *
    generalize isB l k 39 = q at *
    generalize chA l k = z at *
    rcases hk3 with rfl | ⟨rfl, rfl⟩
    all_goals
      go_enter Tryd.func30, Tryd.ntmps30
      go_wp2_with fail
      rw [show w.alloc (Obj.cells #[.int .i64 0, .int .i64 0, .int .i64 0, .string ⟨#[]⟩, .string ⟨#[]⟩, .bool false] 29) = W0 from HW0.out.symm]
      refine (f0 _).mono ?_
      rintro e w' ⟨rfl, hw'⟩; replace hw' := hw'.symm; subst hw'
      clear hcc f0
      go_wp2_with fail
      refine cQ.mono ?_
      rintro e w1 ⟨rfl, hbz⟩
      have hBz := HB0.out.later hbz HB0.out.lt
      have hblz := HW.out.trans (hbz.mono HW.out.size)
      have r0 := hBz.cell 0 _ rfl
      have r1 := hBz.cell 1 _ rfl
      have r2 := hBz.cell 2 _ rfl
      have r3 := hBz.cell 3 _ rfl
      have r4 := hBz.cell 4 _ rfl
      have r5 := hBz.cell 5 _ rfl
      have q0 := hBz.frozen 0
      have q1 := hBz.frozen 1
      have q2 := hBz.frozen 2
      have q3 := hBz.frozen 3
      have q4 := hBz.frozen 4
      have q5 := hBz.frozen 5
      clear hbz
      obtain ⟨kd, fr, to_, tx, nm, wh⟩ := R
      unfold tkV tkCells
      go_wp2
      refine bodyPost_ret (v := tkV ⟨kd, fr, to_, tx, nm, wh⟩) (by simp [results, Tryd.results30, go_sem, tkV, tkCells, r0, r1, r2, r3, r4, r5]) rfl ⟨rfl, ?_⟩
      exact below_set6 hblz (Nat.le_refl _) _ _ _ _ _ _
  have hp34 : isB l k 34 = false := by revert hqd; cases isB l k 34 <;> simp
  have hp39 : isB l k 39 = false := by revert hqd; cases isB l k 39 <;> simp
  rw [hp34] at hq34
  rw [hp39] at hq39
  rcases hnu : numAt l k with _ | _
  rotate_left
  · have e := Lib.hid (show (tkZ (numericF l k) : Tk) = R from by rw [← hRR.out]; exact (tokZ_2 HK.out hsp hqd hnu).symm)
    rw [e.out] at cNu
    rw [hnu] at cSN
    clear hqd hsp hsp' hnu hp34 hp39 e
    generalize chA l k = z at *
    go_enter Tryd.func30, Tryd.ntmps30
    go_wp2_with fail
    rw [show w.alloc (Obj.cells #[.int .i64 0, .int .i64 0, .int .i64 0, .string ⟨#[]⟩, .string ⟨#[]⟩, .bool false] 29) = W0 from HW0.out.symm]
    refine (f0 _).mono ?_
    rintro e w' ⟨rfl, hw'⟩; replace hw' := hw'.symm; subst hw'
    clear hcc f0
    go_wp2_with (first
      | (go_at_call 38; (with_reducible refine cSN.mono ?_); rintro e w' ⟨rfl, hw'⟩; replace hw' := hw'.symm; subst hw'))
    refine cNu.mono ?_
    rintro e w1 ⟨rfl, hbz⟩
    have hBz := HB0.out.later hbz HB0.out.lt
    have hblz := HW.out.trans (hbz.mono HW.out.size)
    have r0 := hBz.cell 0 _ rfl
    have r1 := hBz.cell 1 _ rfl
    have r2 := hBz.cell 2 _ rfl
    have r3 := hBz.cell 3 _ rfl
    have r4 := hBz.cell 4 _ rfl
    have r5 := hBz.cell 5 _ rfl
    have q0 := hBz.frozen 0
    have q1 := hBz.frozen 1
    have q2 := hBz.frozen 2
    have q3 := hBz.frozen 3
    have q4 := hBz.frozen 4
    have q5 := hBz.frozen 5
    clear hbz
    obtain ⟨kd, fr, to_, tx, nm, wh⟩ := R
    unfold tkV tkCells
    go_wp2
    refine bodyPost_ret (v := tkV ⟨kd, fr, to_, tx, nm, wh⟩) (by simp [results, Tryd.results30, go_sem, tkV, tkCells, r0, r1, r2, r3, r4, r5]) rfl ⟨rfl, ?_⟩
    exact below_set6 hblz (Nat.le_refl _) _ _ _ _ _ _
  rw [hnu] at cSN
  rcases hcd : cdcB l k with _ | _
  rotate_left
  · have e := Lib.hid (show (⟨15, 0, k + 3, [], [], false⟩ : Tk) = R from by rw [← hRR.out]; exact (tokZ_3 HK.out hsp hqd hnu hcd).symm)
    rw [hcd] at cB1
    clear hqd hsp hsp' hnu hcd hp34 hp39
    generalize chA l k = z at *
    go_enter Tryd.func30, Tryd.ntmps30
    go_wp2_with fail
    rw [show w.alloc (Obj.cells #[.int .i64 0, .int .i64 0, .int .i64 0, .string ⟨#[]⟩, .string ⟨#[]⟩, .bool false] 29) = W0 from HW0.out.symm]
    refine (f0 _).mono ?_
    rintro e w' ⟨rfl, hw'⟩; replace hw' := hw'.symm; subst hw'
    clear hcc f0
    go_wp2_with (first
      | (go_at_call 38; (with_reducible refine cSN.mono ?_); rintro e w' ⟨rfl, hw'⟩; replace hw' := hw'.symm; subst hw')
      | (go_at_call 34; (with_reducible refine cB1.mono ?_); rintro e w1 ⟨rfl, hb1⟩; have hB1 := HB0.out.later hb1 HB0.out.lt; have hbl1 := HW.out.trans (hb1.mono HW.out.size); have r0 := hB1.cell 0 _ rfl; have r1 := hB1.cell 1 _ rfl; have r2 := hB1.cell 2 _ rfl; have r3 := hB1.cell 3 _ rfl; have r4 := hB1.cell 4 _ rfl; have r5 := hB1.cell 5 _ rfl; have q0 := hB1.frozen 0; have q1 := hB1.frozen 1; have q2 := hB1.frozen 2; have q3 := hB1.frozen 3; have q4 := hB1.frozen 4; have q5 := hB1.frozen 5))
    refine bodyPost_ret (v := .agg #[.int .i64 15, .int .i64 0, .int .i64 (k + 3 : Nat), .string ⟨#[]⟩, .string ⟨#[]⟩, .bool false]) (by simp [results, Tryd.results30, go_sem, r0, r1, r2, r3, r4, r5]) rfl ⟨by rw [← e.out]; rfl, ?_⟩
    exact below_set6 hbl1 (Nat.le_refl _) _ _ _ _ _ _
  rw [hcd] at cB1
  have cNA := CNA.out
  rcases hna : nameAt l k with _ | _
  rotate_left
  · have e := Lib.hid (show (tkZ (calledF l k) : Tk) = R from by rw [← hRR.out]; exact (tokZ_4 HK.out hsp hqd hnu hcd hna).symm)
    rw [hna] at cNA
    have cND := CND.out
    rw [e.out] at cND
    clear hqd hsp hsp' hnu hcd hna hp34 hp39 e
    generalize chA l k = z at *
    go_enter Tryd.func30, Tryd.ntmps30
    go_wp2_with fail
    rw [show w.alloc (Obj.cells #[.int .i64 0, .int .i64 0, .int .i64 0, .string ⟨#[]⟩, .string ⟨#[]⟩, .bool false] 29) = W0 from HW0.out.symm]
    refine (f0 _).mono ?_
    rintro e w' ⟨rfl, hw'⟩; replace hw' := hw'.symm; subst hw'
    clear hcc f0
    go_wp2_with (first
      | (go_at_call 38; (with_reducible refine cSN.mono ?_); rintro e w' ⟨rfl, hw'⟩; replace hw' := hw'.symm; subst hw')
      | (go_at_call 34; (with_reducible refine cB1.mono ?_); rintro e w1 ⟨rfl, hb1⟩; have hB1 := HB0.out.later hb1 HB0.out.lt; have hbl1 := HW.out.trans (hb1.mono HW.out.size))
      | (go_at_call 40; (with_reducible refine (cNA _ hbl1).mono ?_); rintro e w' ⟨rfl, hw'⟩; replace hw' := hw'.symm; subst hw'))
    refine (cND _ hbl1).mono ?_
    rintro e w2 ⟨rfl, hbz⟩
    have hBz := hB1.later hbz hB1.lt
    have hblz := hbl1.trans (hbz.mono hbl1.size)
    have r0 := hBz.cell 0 _ rfl
    have r1 := hBz.cell 1 _ rfl
    have r2 := hBz.cell 2 _ rfl
    have r3 := hBz.cell 3 _ rfl
    have r4 := hBz.cell 4 _ rfl
    have r5 := hBz.cell 5 _ rfl
    have q0 := hBz.frozen 0
    have q1 := hBz.frozen 1
    have q2 := hBz.frozen 2
    have q3 := hBz.frozen 3
    have q4 := hBz.frozen 4
    have q5 := hBz.frozen 5
    clear hbz
    obtain ⟨kd, fr, to_, tx, nm, wh⟩ := R
    unfold tkV tkCells
    go_wp2
    refine bodyPost_ret (v := tkV ⟨kd, fr, to_, tx, nm, wh⟩) (by simp [results, Tryd.results30, go_sem, tkV, tkCells, r0, r1, r2, r3, r4, r5]) rfl ⟨rfl, ?_⟩
    exact below_set6 hblz (Nat.le_refl _) _ _ _ _ _ _
  rw [hna] at cNA
  have cB2 := CB2.out
  rcases hco : cdoB l k with _ | _
  rotate_left
  · have e := Lib.hid (show (⟨14, 0, k + 4, [], [], false⟩ : Tk) = R from by rw [← hRR.out]; exact (tokZ_5 HK.out hsp hqd hnu hcd hna hco).symm)
    rw [hco] at cB2
    clear hqd hsp hsp' hnu hcd hna hco hp34 hp39
    generalize chA l k = z at *
    go_enter Tryd.func30, Tryd.ntmps30
    go_wp2_with fail
    rw [show w.alloc (Obj.cells #[.int .i64 0, .int .i64 0, .int .i64 0, .string ⟨#[]⟩, .string ⟨#[]⟩, .bool false] 29) = W0 from HW0.out.symm]
    refine (f0 _).mono ?_
    rintro e w' ⟨rfl, hw'⟩; replace hw' := hw'.symm; subst hw'
    clear hcc f0
    go_wp2_with (first
      | (go_at_call 38; (with_reducible refine cSN.mono ?_); rintro e w' ⟨rfl, hw'⟩; replace hw' := hw'.symm; subst hw')
      | (go_at_call 34; (with_reducible refine cB1.mono ?_); rintro e w1 ⟨rfl, hb1⟩; have hB1 := HB0.out.later hb1 HB0.out.lt; have hbl1 := HW.out.trans (hb1.mono HW.out.size))
      | (go_at_call 40; (with_reducible refine (cNA _ hbl1).mono ?_); rintro e w' ⟨rfl, hw'⟩; replace hw' := hw'.symm; subst hw')
      | (go_at_call 34; (with_reducible refine (cB2 _ hbl1).mono ?_); rintro e w2 ⟨rfl, hb2⟩; have hB2 := hB1.later hb2 hB1.lt; have hbl2 := hbl1.trans (hb2.mono hbl1.size); have r0 := hB2.cell 0 _ rfl; have r1 := hB2.cell 1 _ rfl; have r2 := hB2.cell 2 _ rfl; have r3 := hB2.cell 3 _ rfl; have r4 := hB2.cell 4 _ rfl; have r5 := hB2.cell 5 _ rfl; have q0 := hB2.frozen 0; have q1 := hB2.frozen 1; have q2 := hB2.frozen 2; have q3 := hB2.frozen 3; have q4 := hB2.frozen 4; have q5 := hB2.frozen 5))
    refine bodyPost_ret (v := .agg #[.int .i64 14, .int .i64 0, .int .i64 (k + 4 : Nat), .string ⟨#[]⟩, .string ⟨#[]⟩, .bool false]) (by simp [results, Tryd.results30, go_sem, r0, r1, r2, r3, r4, r5]) rfl ⟨by rw [← e.out]; rfl, ?_⟩
    exact below_set6 hbl2 (Nat.le_refl _) _ _ _ _ _ _
  rw [hco] at cB2
  have cN1 := CN1.out
  have cH1 := CH1.out
  have cR1 := CR1.out
  rcases hat : atSgB l k with _ | _
  rotate_left
  · have e := Lib.hid (show (⟨3, 0, (namesF l (k + 1)).2, bytesF (namesF l (k + 1)).1, [], false⟩ : Tk) = R from by rw [← hRR.out]; exact (tokZ_6 HK.out hsp hqd hnu hcd hna hco hat).symm)
    have h2 : isB l k 64 = true ∧ nameAt l (k + 1) = true := by unfold atSgB at hat; rwa [Bool.and_eq_true] at hat
    rw [h2.1] at hq64
    rw [h2.2] at cN1
    clear hqd hsp hsp' hnu hcd hna hco hat h2 hp34 hp39 hq35 cH1
    generalize bytesF (namesF l (k + 1)).1 = txt at *
    generalize (namesF l (k + 1)).2 = m at *
    generalize chA l k = z at *
    go_enter Tryd.func30, Tryd.ntmps30
    go_wp2_with fail
    rw [show w.alloc (Obj.cells #[.int .i64 0, .int .i64 0, .int .i64 0, .string ⟨#[]⟩, .string ⟨#[]⟩, .bool false] 29) = W0 from HW0.out.symm]
    refine (f0 _).mono ?_
    rintro e w' ⟨rfl, hw'⟩; replace hw' := hw'.symm; subst hw'
    clear hcc f0
    go_wp2_with (first
      | (go_at_call 38; (with_reducible refine cSN.mono ?_); rintro e w' ⟨rfl, hw'⟩; replace hw' := hw'.symm; subst hw')
      | (go_at_call 34; (with_reducible refine cB1.mono ?_); rintro e w1 ⟨rfl, hb1⟩; have hB1 := HB0.out.later hb1 HB0.out.lt; have hbl1 := HW.out.trans (hb1.mono HW.out.size))
      | (go_at_call 40; (with_reducible refine (cNA _ hbl1).mono ?_); rintro e w' ⟨rfl, hw'⟩; replace hw' := hw'.symm; subst hw')
      | (go_at_call 34; (with_reducible refine (cB2 _ hbl1).mono ?_); rintro e w2 ⟨rfl, hb2⟩; have hB2 := hB1.later hb2 hB1.lt; have hbl2 := hbl1.trans (hb2.mono hbl1.size))
      | (go_at_call 40; (with_reducible refine (cN1 _ hbl2).mono ?_); rintro e w' ⟨rfl, hw'⟩; replace hw' := hw'.symm; subst hw')
      | (go_at_call 42; (with_reducible refine (cR1 _ hbl2).mono ?_); rintro e w3 ⟨rfl, hb3⟩; have hB3 := hB2.later hb3 hB2.lt; have hbl3 := hbl2.trans (hb3.mono hbl2.size); have r0 := hB3.cell 0 _ rfl; have r1 := hB3.cell 1 _ rfl; have r2 := hB3.cell 2 _ rfl; have r3 := hB3.cell 3 _ rfl; have r4 := hB3.cell 4 _ rfl; have r5 := hB3.cell 5 _ rfl; have q0 := hB3.frozen 0; have q1 := hB3.frozen 1; have q2 := hB3.frozen 2; have q3 := hB3.frozen 3; have q4 := hB3.frozen 4; have q5 := hB3.frozen 5))
    refine bodyPost_ret (v := .agg #[.int .i64 3, .int .i64 0, .int .i64 (m : Nat), .string (strOfNums txt), .string ⟨#[]⟩, .bool false]) (by simp [results, Tryd.results30, go_sem, r0, r1, r2, r3, r4, r5]) rfl ⟨by rw [← e.out]; rfl, ?_⟩
    exact below_set6 hbl3 (Nat.le_refl _) _ _ _ _ _ _
  have hat2 : isB l k 64 = false ∨ (isB l k 64 = true ∧ nameAt l (k + 1) = false) := by
    unfold atSgB at hat
    revert hat; cases isB l k 64 <;> cases nameAt l (k + 1) <;> simp
  rcases hha : hashB l k with _ | _
  rotate_left
  · have e := Lib.hid (show (⟨4, 0, (namesF l (k + 1)).2, bytesF (namesF l (k + 1)).1, [], nameAt l (k + 1)⟩ : Tk) = R from by rw [← hRR.out]; exact (tokZ_7 HK.out hsp hqd hnu hcd hna hco hat hha).symm)
    have h2 : isB l k 35 = true ∧ (nmB l (k + 1) || escB l (k + 1)) = true := by unfold hashB at hha; rwa [Bool.and_eq_true] at hha
    rw [h2.1] at hq35
    rw [h2.2] at cH1
    clear hqd hsp hsp' hnu hcd hna hco hat h2 hp34 hp39 hha
    generalize bytesF (namesF l (k + 1)).1 = txt at *
    generalize (namesF l (k + 1)).2 = m at *
    generalize nameAt l (k + 1) = na at *
    generalize isB l k 64 = p64 at *
    generalize chA l k = z at *
    rcases hat2 with rfl | ⟨rfl, rfl⟩
    · go_enter Tryd.func30, Tryd.ntmps30
      go_wp2_with fail
      rw [show w.alloc (Obj.cells #[.int .i64 0, .int .i64 0, .int .i64 0, .string ⟨#[]⟩, .string ⟨#[]⟩, .bool false] 29) = W0 from HW0.out.symm]
      refine (f0 _).mono ?_
      rintro e w' ⟨rfl, hw'⟩; replace hw' := hw'.symm; subst hw'
      clear hcc f0
      go_wp2_with (first
        | (go_at_call 38; (with_reducible refine cSN.mono ?_); rintro e w' ⟨rfl, hw'⟩; replace hw' := hw'.symm; subst hw')
        | (go_at_call 34; (with_reducible refine cB1.mono ?_); rintro e w1 ⟨rfl, hb1⟩; have hB1 := HB0.out.later hb1 HB0.out.lt; have hbl1 := HW.out.trans (hb1.mono HW.out.size))
        | (go_at_call 40; (with_reducible refine (cNA _ hbl1).mono ?_); rintro e w' ⟨rfl, hw'⟩; replace hw' := hw'.symm; subst hw')
        | (go_at_call 34; (with_reducible refine (cB2 _ hbl1).mono ?_); rintro e w2 ⟨rfl, hb2⟩; have hB2 := hB1.later hb2 hB1.lt; have hbl2 := hbl1.trans (hb2.mono hbl1.size))
        | (go_at_call 43; (with_reducible refine (cH1 _ hbl2).mono ?_); rintro e w' ⟨rfl, hw'⟩; replace hw' := hw'.symm; subst hw')
        | (go_at_call 42; (with_reducible refine (cR1 _ hbl2).mono ?_); rintro e w3 ⟨rfl, hb3⟩; have hB3 := hB2.later hb3 hB2.lt; have hbl3 := hbl2.trans (hb3.mono hbl2.size); have r0 := hB3.cell 0 _ rfl; have r1 := hB3.cell 1 _ rfl; have r2 := hB3.cell 2 _ rfl; have r3 := hB3.cell 3 _ rfl; have r4 := hB3.cell 4 _ rfl; have r5 := hB3.cell 5 _ rfl; have q0 := hB3.frozen 0; have q1 := hB3.frozen 1; have q2 := hB3.frozen 2; have q3 := hB3.frozen 3; have q4 := hB3.frozen 4; have q5 := hB3.frozen 5)
        | (go_at_call 40; (with_reducible refine (cN1 _ hbl3).mono ?_); rintro e w' ⟨rfl, hw'⟩; replace hw' := hw'.symm; subst hw'))
      refine bodyPost_ret (v := .agg #[.int .i64 4, .int .i64 0, .int .i64 (m : Nat), .string (strOfNums txt), .string ⟨#[]⟩, .bool na]) (by simp [results, Tryd.results30, go_sem, r0, r1, r2, r3, r4, r5]) rfl ⟨by rw [← e.out]; rfl, ?_⟩
      exact below_set6 hbl3 (Nat.le_refl _) _ _ _ _ _ _
    · go_enter Tryd.func30, Tryd.ntmps30
      go_wp2_with fail
      rw [show w.alloc (Obj.cells #[.int .i64 0, .int .i64 0, .int .i64 0, .string ⟨#[]⟩, .string ⟨#[]⟩, .bool false] 29) = W0 from HW0.out.symm]
      refine (f0 _).mono ?_
      rintro e w' ⟨rfl, hw'⟩; replace hw' := hw'.symm; subst hw'
      clear hcc f0
      go_wp2_with (first
        | (go_at_call 38; (with_reducible refine cSN.mono ?_); rintro e w' ⟨rfl, hw'⟩; replace hw' := hw'.symm; subst hw')
        | (go_at_call 34; (with_reducible refine cB1.mono ?_); rintro e w1 ⟨rfl, hb1⟩; have hB1 := HB0.out.later hb1 HB0.out.lt; have hbl1 := HW.out.trans (hb1.mono HW.out.size))
        | (go_at_call 40; (with_reducible refine (cNA _ hbl1).mono ?_); rintro e w' ⟨rfl, hw'⟩; replace hw' := hw'.symm; subst hw')
        | (go_at_call 34; (with_reducible refine (cB2 _ hbl1).mono ?_); rintro e w2 ⟨rfl, hb2⟩; have hB2 := hB1.later hb2 hB1.lt; have hbl2 := hbl1.trans (hb2.mono hbl1.size))
        | (go_at_call 40; (with_reducible refine (cN1 _ hbl2).mono ?_); rintro e w' ⟨rfl, hw'⟩; replace hw' := hw'.symm; subst hw')
        | (go_at_call 43; (with_reducible refine (cH1 _ hbl2).mono ?_); rintro e w' ⟨rfl, hw'⟩; replace hw' := hw'.symm; subst hw')
        | (go_at_call 42; (with_reducible refine (cR1 _ hbl2).mono ?_); rintro e w3 ⟨rfl, hb3⟩; have hB3 := hB2.later hb3 hB2.lt; have hbl3 := hbl2.trans (hb3.mono hbl2.size); have r0 := hB3.cell 0 _ rfl; have r1 := hB3.cell 1 _ rfl; have r2 := hB3.cell 2 _ rfl; have r3 := hB3.cell 3 _ rfl; have r4 := hB3.cell 4 _ rfl; have r5 := hB3.cell 5 _ rfl; have q0 := hB3.frozen 0; have q1 := hB3.frozen 1; have q2 := hB3.frozen 2; have q3 := hB3.frozen 3; have q4 := hB3.frozen 4; have q5 := hB3.frozen 5)
        | (go_at_call 40; (with_reducible refine (cN1 _ hbl3).mono ?_); rintro e w' ⟨rfl, hw'⟩; replace hw' := hw'.symm; subst hw'))
      refine bodyPost_ret (v := .agg #[.int .i64 4, .int .i64 0, .int .i64 (m : Nat), .string (strOfNums txt), .string ⟨#[]⟩, .bool false]) (by simp [results, Tryd.results30, go_sem, r0, r1, r2, r3, r4, r5]) rfl ⟨by rw [← e.out]; rfl, ?_⟩
      exact below_set6 hbl3 (Nat.le_refl _) _ _ _ _ _ _
  have e := Lib.hid (show (signF l k : Tk) = R from by rw [← hRR.out]; exact (tokZ_8 HK.out hsp hqd hnu hcd hna hco hat hha).symm)
  have hha2 : isB l k 35 = false ∨ (isB l k 35 = true ∧ (nmB l (k + 1) || escB l (k + 1)) = false) := by
    unfold hashB at hha
    revert hha; cases isB l k 35 <;> cases (nmB l (k + 1) || escB l (k + 1)) <;> simp
  have cSG := CSG.out
  rw [e.out] at cSG
  clear hqd hsp hsp' hnu hcd hna hco hat hp34 hp39 hha e cR1
  generalize nameAt l (k + 1) = na at *
  generalize (nmB l (k + 1) || escB l (k + 1)) = hn at *
  generalize isB l k 64 = p64 at *
  generalize isB l k 35 = p35 at *
  generalize chA l k = z at *
  rcases hat2 with rfl | ⟨rfl, rfl⟩ <;> rcases hha2 with rfl | ⟨rfl, rfl⟩
  all_goals
    go_enter Tryd.func30, Tryd.ntmps30
    go_wp2_with fail
    rw [show w.alloc (Obj.cells #[.int .i64 0, .int .i64 0, .int .i64 0, .string ⟨#[]⟩, .string ⟨#[]⟩, .bool false] 29) = W0 from HW0.out.symm]
    refine (f0 _).mono ?_
    rintro e w' ⟨rfl, hw'⟩; replace hw' := hw'.symm; subst hw'
    clear hcc f0
    go_wp2_with (first
      | (go_at_call 38; (with_reducible refine cSN.mono ?_); rintro e w' ⟨rfl, hw'⟩; replace hw' := hw'.symm; subst hw')
      | (go_at_call 34; (with_reducible refine cB1.mono ?_); rintro e w1 ⟨rfl, hb1⟩; have hB1 := HB0.out.later hb1 HB0.out.lt; have hbl1 := HW.out.trans (hb1.mono HW.out.size))
      | (go_at_call 40; (with_reducible refine (cNA _ hbl1).mono ?_); rintro e w' ⟨rfl, hw'⟩; replace hw' := hw'.symm; subst hw')
      | (go_at_call 34; (with_reducible refine (cB2 _ hbl1).mono ?_); rintro e w2 ⟨rfl, hb2⟩; have hB2 := hB1.later hb2 hB1.lt; have hbl2 := hbl1.trans (hb2.mono hbl1.size))
      | (go_at_call 40; (with_reducible refine (cN1 _ hbl2).mono ?_); rintro e w' ⟨rfl, hw'⟩; replace hw' := hw'.symm; subst hw')
      | (go_at_call 43; (with_reducible refine (cH1 _ hbl2).mono ?_); rintro e w' ⟨rfl, hw'⟩; replace hw' := hw'.symm; subst hw'))
    refine (cSG _ hbl2).mono ?_
    rintro e w3 ⟨rfl, hbz⟩
    have hBz := hB2.later hbz hB2.lt
    have hblz := hbl2.trans (hbz.mono hbl2.size)
    have r0 := hBz.cell 0 _ rfl
    have r1 := hBz.cell 1 _ rfl
    have r2 := hBz.cell 2 _ rfl
    have r3 := hBz.cell 3 _ rfl
    have r4 := hBz.cell 4 _ rfl
    have r5 := hBz.cell 5 _ rfl
    have q0 := hBz.frozen 0
    have q1 := hBz.frozen 1
    have q2 := hBz.frozen 2
    have q3 := hBz.frozen 3
    have q4 := hBz.frozen 4
    have q5 := hBz.frozen 5
    clear hbz
    obtain ⟨kd, fr, to_, tx, nm, wh⟩ := R
    unfold tkV tkCells
    go_wp2
    refine bodyPost_ret (v := tkV ⟨kd, fr, to_, tx, nm, wh⟩) (by simp [results, Tryd.results30, go_sem, tkV, tkCells, r0, r1, r2, r3, r4, r5]) rfl ⟨rfl, ?_⟩
    exact below_set6 hblz (Nat.le_refl _) _ _ _ _ _ _
end

section
open Go.RowKit
set_option linter.unusedVariables false
set_option linter.unusedSimpArgs false

/-- Where a token ends, and where it begins. -/
def Bd (l : List Int) (frm j : Nat) (t : Tk) : Prop := t.frm = frm ∧ j ≤ t.to ∧ t.to ≤ l.length
theorem Bd.mono {l : List Int} {frm j j' : Nat} {t : Tk} (h : Bd l frm j t) (hj : j' ≤ j) : Bd l frm j' t := ⟨h.1, Nat.le_trans hj h.2.1, h.2.2⟩
theorem restGo_bd (l : List Int) (frm : Nat) : ∀ (f i : Nat), i ≤ l.length → Bd l frm i (restGo f l frm i)
  | 0, i, hi => ⟨rfl, hi, Nat.le_refl _⟩
  | f + 1, i, hi => by
    rw [restGo]
    by_cases h1 : l.length ≤ i
    · rw [if_pos h1]; exact ⟨rfl, hi, Nat.le_refl _⟩
    · rw [if_neg h1]
      by_cases h2 : isB l i 41 = true
      · rw [if_pos h2]; exact ⟨rfl, Nat.le_succ _, by show i + 1 ≤ _; omega⟩
      · rw [if_neg h2]
        by_cases h3 : escB l i = true
        · rw [if_pos h3]
          have := valueF_bd (lt_of_escB h3)
          exact (restGo_bd l frm f _ this.2).mono (by omega)
        · rw [if_neg h3]; exact (restGo_bd l frm f _ (by omega)).mono (by omega)
theorem urlGo_bd (l : List Int) (frm : Nat) : ∀ (f i : Nat) (out : List Int), i ≤ l.length → Bd l frm i (urlGo f l frm i out)
  | 0, i, out, hi => ⟨rfl, hi, Nat.le_refl _⟩
  | f + 1, i, out, hi => by
    have hs := (spacesGo_le l (l.length + 1) i)
    have hs1 : i ≤ spacesF l i := hs.1
    have hs2 : spacesF l i ≤ l.length := hs.2 hi
    rw [urlGo]
    by_cases h1 : l.length ≤ spacesF l i
    · rw [if_pos h1]; exact ⟨rfl, hi, Nat.le_refl _⟩
    · rw [if_neg h1]
      by_cases h2 : isB l (spacesF l i) 41 = true
      · rw [if_pos h2]; exact ⟨rfl, by show i ≤ _ + 1; omega, by show _ + 1 ≤ _; omega⟩
      · rw [if_neg h2]
        by_cases h3 : i < spacesF l i
        · rw [if_pos h3]; exact (restGo_bd l frm _ _ hs2).mono hs1
        · rw [if_neg h3]
          by_cases h4 : urlBad l i = true
          · rw [if_pos h4]; exact restGo_bd l frm _ _ hi
          · rw [if_neg h4]
            by_cases h5 : isB l i 92 = true
            · rw [if_pos h5]
              have := valueF_bd (l := l) (j := i) (by omega)
              exact (urlGo_bd l frm f _ _ this.2).mono (by omega)
            · rw [if_neg h5]; exact (urlGo_bd l frm f _ _ (by omega)).mono (by omega)
theorem quotedGo_bd (l : List Int) (mark : Int) (frm : Nat) : ∀ (f i : Nat) (out : List Int), i ≤ l.length → Bd l frm i (quotedGo f l mark frm i out)
  | 0, i, out, hi => ⟨rfl, Nat.le_refl _, hi⟩
  | f + 1, i, out, hi => by
    rw [quotedGo]
    by_cases h1 : l.length ≤ i
    · rw [if_pos h1]; exact ⟨rfl, Nat.le_refl _, hi⟩
    · rw [if_neg h1]
      by_cases h2 : isB l i mark = true
      · rw [if_pos h2]; exact ⟨rfl, Nat.le_succ _, by show i + 1 ≤ _; omega⟩
      · rw [if_neg h2]
        by_cases h3 : isB l i 10 = true
        · rw [if_pos h3]; exact ⟨rfl, Nat.le_refl _, hi⟩
        · rw [if_neg h3]
          by_cases h4 : (!isB l i 92) = true
          · rw [if_pos h4]; exact (quotedGo_bd l mark frm f _ _ (by omega)).mono (by omega)
          · rw [if_neg h4]
            by_cases h5 : l.length ≤ i + 1
            · rw [if_pos h5]; exact (quotedGo_bd l mark frm f _ _ (by omega)).mono (by omega)
            · rw [if_neg h5]
              by_cases h6 : isB l (i + 1) 10 = true
              · rw [if_pos h6]; exact (quotedGo_bd l mark frm f _ _ (by omega)).mono (by omega)
              · rw [if_neg h6]
                have := valueF_bd (l := l) (j := i) (by omega)
                exact (quotedGo_bd l mark frm f _ _ this.2).mono (by omega)
theorem numericF_bd {l : List Int} {j : Nat} (hj : j < l.length) (h : numAt l j = true) : Bd l j (j + 1) (numericF l j) := by
  have h1 := numberF_pos h
  have h2 := (numberF_le l j).2 (by omega)
  have h3 := namesF_le l (numberF l j).1
  unfold numericF
  by_cases q : nameAt l (numberF l j).1 = true
  · rw [if_pos q]; exact ⟨rfl, by show j + 1 ≤ (namesF l _).2; omega, h3.2 h2⟩
  · rw [if_neg q]
    by_cases q2 : isB l (numberF l j).1 37 = true
    · rw [if_pos q2]
      have := lt_of_isB q2 (by decide)
      exact ⟨rfl, by show j + 1 ≤ _ + 1; omega, by show _ + 1 ≤ _; omega⟩
    · rw [if_neg q2]; exact ⟨rfl, h1, h2⟩
theorem calledF_bd {l : List Int} {j : Nat} (hj : j < l.length) (h : nameAt l j = true) : Bd l j (j + 1) (calledF l j) := by
  have h1 := namesF_pos (nameAt_first h)
  have h2 := (namesF_le l j).2 (by omega)
  unfold calledF
  by_cases q : (!isB l (namesF l j).2 40) = true
  · rw [if_pos q]; exact ⟨rfl, h1, h2⟩
  · rw [if_neg q]
    have h40 : isB l (namesF l j).2 40 = true := by revert q; cases isB l (namesF l j).2 40 <;> simp
    have h4 := lt_of_isB h40 (by decide)
    by_cases q2 : (urlName (bytesF (namesF l j).1) && !isB l (spacesF l ((namesF l j).2 + 1)) 34 && !isB l (spacesF l ((namesF l j).2 + 1)) 39) = true
    · rw [if_pos q2]
      have hs := spacesGo_le l (l.length + 1) ((namesF l j).2 + 1)
      have hs1 : (namesF l j).2 + 1 ≤ spacesF l ((namesF l j).2 + 1) := hs.1
      exact (urlGo_bd l j _ _ _ (hs.2 (by omega))).mono (by omega)
    · rw [if_neg q2]; exact ⟨rfl, by show j + 1 ≤ _ + 1; omega, by show _ + 1 ≤ _; omega⟩
/-- Each token begins where it is looked for, and has a character. -/
theorem tokAt_bd {l : List Int} {k : Nat} (hk : k < l.length) : Bd l k (k + 1) (tokAt l k) := by
  unfold tokAt
  rw [if_neg (by omega)]
  by_cases h1 : spB l k = true
  · rw [if_pos h1]; exact ⟨rfl, spacesF_pos h1, spacesF_le l k (by omega)⟩
  rw [if_neg h1]
  by_cases h2 : (isB l k 34 || isB l k 39) = true
  · rw [if_pos h2]; exact quotedGo_bd l _ k _ _ _ hk
  rw [if_neg h2]
  by_cases h3 : numAt l k = true
  · rw [if_pos h3]; exact numericF_bd hk h3
  rw [if_neg h3]
  by_cases h4 : cdcB l k = true
  · rw [if_pos h4]
    have : isB l (k + 2) 62 = true := by unfold cdcB at h4; rw [Bool.and_eq_true] at h4; exact h4.2
    have := lt_of_isB this (by decide)
    exact ⟨rfl, by show k + 1 ≤ k + 3; omega, by show k + 3 ≤ _; omega⟩
  rw [if_neg h4]
  by_cases h5 : nameAt l k = true
  · rw [if_pos h5]; exact calledF_bd hk h5
  rw [if_neg h5]
  by_cases h6 : cdoB l k = true
  · rw [if_pos h6]
    have : isB l (k + 3) 45 = true := by unfold cdoB at h6; rw [Bool.and_eq_true] at h6; exact h6.2
    have := lt_of_isB this (by decide)
    exact ⟨rfl, by show k + 1 ≤ k + 4; omega, by show k + 4 ≤ _; omega⟩
  rw [if_neg h6]
  have hn := namesF_le l (k + 1)
  by_cases h7 : atSgB l k = true
  · rw [if_pos h7]; exact ⟨rfl, hn.1, hn.2 (by omega)⟩
  rw [if_neg h7]
  by_cases h8 : hashB l k = true
  · rw [if_pos h8]; exact ⟨rfl, hn.1, hn.2 (by omega)⟩
  rw [if_neg h8]
  by_cases h9 : signKind (chA l k) = 9
  · rw [if_pos h9]; exact ⟨rfl, Nat.le_refl _, hk⟩
  · rw [if_neg h9]; exact ⟨rfl, Nat.le_refl _, hk⟩
theorem behindGo_le (l : List Int) : ∀ (f j : Nat), j ≤ l.length → j ≤ behindGo f l j ∧ behindGo f l j ≤ l.length
  | 0, j, h => ⟨Nat.le_refl _, h⟩
  | f + 1, j, h => by
    rw [behindGo]
    by_cases ho : openB l j = true
    · rw [if_pos ho]
      have h2 := openB_lt ho
      have hs := skipGo_ge l (l.length + 1) (j + 2) h2
      have := behindGo_le l f _ hs.2
      exact ⟨by omega, this.2⟩
    · rw [if_neg ho]; exact ⟨Nat.le_refl _, h⟩
theorem behindF_le {l : List Int} {j : Nat} (h : j ≤ l.length) : j ≤ behindF l j ∧ behindF l j ≤ l.length := behindGo_le l _ j h
theorem tokAt_end {l : List Int} {k : Nat} (hk : l.length ≤ k) : tokAt l k = ⟨0, l.length, l.length, [], [], false⟩ := by unfold tokAt; rw [if_pos hk]
/-- The next token: it is the end, or it has a character. -/
theorem nextF_bd {l : List Int} {j : Nat} (h : j ≤ l.length) : (nextF l j = ⟨0, l.length, l.length, [], [], false⟩ ∧ behindF l j = l.length) ∨ (behindF l j < l.length ∧ (nextF l j).frm = behindF l j ∧ j < (nextF l j).to ∧ (nextF l j).to ≤ l.length) := by
  obtain ⟨h1, h2⟩ := behindF_le h
  rcases Nat.lt_or_ge (behindF l j) l.length with hb | hb
  · have := tokAt_bd hb
    exact .inr ⟨hb, this.1, by have := this.2.1; unfold nextF; omega, this.2.2⟩
  · exact .inl ⟨tokAt_end hb, by omega⟩
theorem tk_frm {l : List Int} {j : Nat} (h : behindF l j < l.length) : { tkZ (tokAt l (behindF l j)) with frm := behindF l j } = nextF l j := by
  have := (tokAt_bd h).1
  unfold nextF tkZ
  generalize tokAt l (behindF l j) = t at *
  cases t
  simp at this
  subst this; rfl
end

section
open Go.RowKit Go.Shelf
set_option linter.unusedVariables false
set_option linter.unusedSimpArgs false

theorem blk_set6 {w : World} {p : Nat} {T : TypeId} {a0 a1 a2 a3 a4 a5 : Value} (h : Blk w p [a0, a1, a2, a3, a4, a5] T) (v0 v1 v2 v3 v4 v5 : Value) :
    Blk ((((((w.setCell ⟨p, 0, none⟩ v0).setCell ⟨p, 1, none⟩ v1).setCell ⟨p, 2, none⟩ v2).setCell ⟨p, 3, none⟩ v3).setCell ⟨p, 4, none⟩ v4).setCell ⟨p, 5, none⟩ v5) p [v0, v1, v2, v3, v4, v5] T :=
  (((((h.setCell 0 v0).setCell 1 v1).setCell 2 v2).setCell 3 v3).setCell 4 v4).setCell 5 v5

set_option maxRecDepth 100000 in
set_option maxHeartbeats 4000000 in
theorem next_any {a : Option Addr} {n cap : Nat} {l : List Int} {w : World} (i : Int) (k : Nat) (h : Src w a n cap l) (hT : TkW w) (hi : i = (k : Int)) (hk : k ≤ n) :
    Calls Tryd.prog 23 #[.slice a n cap, .int .i64 i] w (Told (tkV (nextF l k)) w) := by
  subst hi
  have hsm := h.small
  have HL := Lib.hid h.len
  have hbl := behindF_le (l := l) (j := k) (by rw [h.len]; exact hk)
  rw [h.len] at hbl
  obtain ⟨hbl1, hbl2⟩ := hbl
  have hfr := Lib.hid (fun hh : behindF l k < l.length => tk_frm (l := l) (j := k) hh)
  have hen := Lib.hid (fun hh : l.length ≤ behindF l k => tokAt_end (l := l) (k := behindF l k) hh)
  have hnx := Lib.hid (show nextF l k = tokAt l (behindF l k) from rfl)
  generalize hR : nextF l k = R at *
  clear hR
  have hW0 : ∃ W0, W0 = w.alloc (.cells #[.int .i64 0, .int .i64 0, .int .i64 0, .string ⟨#[]⟩, .string ⟨#[]⟩, .bool false] 29) := ⟨_, rfl⟩
  obtain ⟨W0, hW0⟩ := hW0
  have hb0 : Below w.heap.size w W0 := by rw [hW0]; exact (Below.refl _ w).alloc (Nat.le_refl _) _
  have HB0 := Lib.hid (show Blk W0 w.heap.size zeroTk 29 from by rw [hW0]; exact Blk.alloc _ _)
  have HP := Lib.hid h
  have HT := Lib.hid hT
  have cW := fun w => within_any (a := a) (n := n) (cap := cap) (w := w) (k : Int) k rfl (by omega) hsm
  rw [Nat.min_eq_left hk] at cW
  have cC := passComments_any (k : Int) k (h.later hb0) rfl hk
  have HBL := Lib.hid hb0
  have HW0 := Lib.hid hW0
  clear h hT hb0 hW0
  generalize behindF l k = j at *
  go_enter Tryd.func23, Tryd.ntmps23
  go_wp2_with fail
  rw [show w.alloc (Obj.cells #[.int .i64 0, .int .i64 0, .int .i64 0, .string ⟨#[]⟩, .string ⟨#[]⟩, .bool false] 29) = W0 from HW0.out.symm]
  refine (cW _).mono ?_
  rintro e w' ⟨rfl, hw'⟩; replace hw' := hw'.symm; subst hw'
  go_wp2_with fail
  refine cC.mono ?_
  rintro e w1 ⟨rfl, hb1⟩
  have hB1 := HB0.out.later hb1 HB0.out.lt
  have hbw1 := HBL.out.trans (hb1.mono HBL.out.size)
  clear cC hb1
  rcases Nat.lt_or_ge j n with hjn | hjn
  · have hq : ((j : Int) == (n : Int)) = false := beq_eq_false_iff_ne.2 (by omega)
    have e := Lib.hid (hfr.out (by rw [HL.out]; exact hjn))
    have cR := read_any3 (j : Int) j (HP.out.later hbw1) (HT.out.later hbw1) rfl hjn
    clear hfr hen hnx
    generalize tkZ (tokAt l j) = Z at *
    go_wp2_with fail
    refine cR.mono ?_
    rintro ee w2 ⟨rfl, hb2⟩
    have hB2 := hB1.later hb2 hB1.lt
    have hbw2 := hbw1.trans (hb2.mono hbw1.size)
    have hz2 := hB2.lt
    obtain ⟨kd, fr, to_, tx, nm, wh⟩ := Z
    unfold tkV tkCells
    clear cR hb2 hB1 hbw1
    have hne1 : ¬ w.heap.size = w2.heap.size := by omega
    have hne2 : ¬ w2.heap.size = w.heap.size := by omega
    have r0 := hB2.cell 0 _ rfl
    have r1 := hB2.cell 1 _ rfl
    have r2 := hB2.cell 2 _ rfl
    have r3 := hB2.cell 3 _ rfl
    have r4 := hB2.cell 4 _ rfl
    have r5 := hB2.cell 5 _ rfl
    have zr0 := hB2.frozen 0
    have zr1 := hB2.frozen 1
    have zr2 := hB2.frozen 2
    have zr3 := hB2.frozen 3
    have zr4 := hB2.frozen 4
    have zr5 := hB2.frozen 5
    have HBW := Lib.hid hbw2
    clear hbw2
    go_wp2
    have B6 := (blk_set6 hB2 (.int .i64 kd) (.int .i64 j) (.int .i64 to_) (.string (strOfNums tx)) (.string (strOfNums nm)) (.bool wh)).alloc_old (.cells #[.int .i64 kd, .int .i64 j, .int .i64 to_, .string (strOfNums tx), .string (strOfNums nm), .bool wh] 29)
    have b0 := B6.cell 0 _ rfl
    have b1 := B6.cell 1 _ rfl
    have b2 := B6.cell 2 _ rfl
    have b3 := B6.cell 3 _ rfl
    have b4 := B6.cell 4 _ rfl
    have b5 := B6.cell 5 _ rfl
    refine bodyPost_ret (v := .agg #[.int .i64 kd, .int .i64 j, .int .i64 to_, .string (strOfNums tx), .string (strOfNums nm), .bool wh]) (by simp [results, Tryd.results23, go_sem, b0, b1, b2, b3, b4, b5]) rfl ⟨by rw [← e.out]; rfl, ?_⟩
    exact (below_set6 HBW.out (Nat.le_refl _) _ _ _ _ _ _).alloc (by simpa using HBW.out.size) _
  · obtain rfl : j = n := by omega
    have hq : ((j : Int) == (j : Int)) = true := beq_self_eq_true _
    have e := Lib.hid (show (⟨0, j, j, [], [], false⟩ : Tk) = R from by rw [hnx.out, hen.out (by rw [HL.out]; exact Nat.le_refl _), HL.out])
    clear hfr hen hnx hjn
    have r0 := hB1.cell 0 _ rfl
    have r1 := hB1.cell 1 _ rfl
    have r2 := hB1.cell 2 _ rfl
    have r3 := hB1.cell 3 _ rfl
    have r4 := hB1.cell 4 _ rfl
    have r5 := hB1.cell 5 _ rfl
    have q0 := hB1.frozen 0
    have q1 := hB1.frozen 1
    have q2 := hB1.frozen 2
    have q3 := hB1.frozen 3
    have q4 := hB1.frozen 4
    have q5 := hB1.frozen 5
    go_wp2
    refine bodyPost_ret (v := .agg #[.int .i64 0, .int .i64 j, .int .i64 j, .string ⟨#[]⟩, .string ⟨#[]⟩, .bool false]) (by simp [results, Tryd.results23, go_sem, r0, r1, r2, r3, r4, r5]) rfl ⟨by rw [← e.out]; rfl, ?_⟩
    exact below_set6 hbw1 (Nat.le_refl _) _ _ _ _ _ _

set_option maxRecDepth 100000 in
set_option maxHeartbeats 4000000 in
theorem all_any {a : Option Addr} {n cap : Nat} {l : List Int} {w : World} (h : Src w a n cap l) (hT : TkW w) :
    Calls Tryd.prog 11 #[.slice a n cap] w (TksPost (allF l) w) := by
  obtain ⟨i0, hi, hz0, hz1, hz2⟩ := info_parts Tryd.infoTok
  have hlen := h.len
  have hsm := h.small
  have own0 := World.ownsRow_nil w w.heap.size 29 6
  generalize hR : allF l = R
  unfold allF at hR
  rw [hlen] at hR
  have HR := Lib.hid hR; clear hR
  have HL := Lib.hid hlen; clear hlen
  have HP := Lib.hid h; clear h
  have HT := Lib.hid hT; clear hT
  go_enter Tryd.func11, Tryd.ntmps11
  go_wp2_with fail
  go_loopw [3, 4] (fun v at_ wr => ∃ (f j : Nat) (acc : List Tk), at_ = .int .i64 j ∧ wr.ownsRow w.heap.size 29 6 v acc.length (acc.flatMap tkCells) ∧ Hid (allGo f l j acc = R) ∧ n < j + f ∧ j ≤ n ∧ acc.length ≤ j ∧ Below w.heap.size w wr)
    (fun _ at_ _ => n - (intOf at_).toNat)
  case atStart => exact ⟨n + 1, 0, [], rfl, own0, HR, by omega, by omega, by simp, Below.refl _ _⟩
  case round =>
    obtain ⟨f, j, acc, rfl, hown, hG, hf, hj, hal, hbl⟩ := hrel
    have hS := HP.out.later hbl
    obtain ⟨f, rfl⟩ : ∃ g, f = g + 1 := ⟨f - 1, by omega⟩
    have t2 : (nextF l j).kind ≠ 0 → j < (nextF l j).to ∧ (nextF l j).to ≤ n := fun hk => by
      rcases nextF_bd (l := l) (j := j) (by rw [HL.out]; exact hj) with ⟨h, _⟩ | ⟨_, _, h1, h2⟩
      · rw [h] at hk; exact absurd rfl hk
      · exact ⟨h1, by rw [← HL.out]; exact h2⟩
    have hx := next_any (j : Int) j hS (HT.out.later hbl) rfl hj
    have hG' : Hid ((if (nextF l j).kind = 0 then acc ++ [nextF l j] else allGo f l (nextF l j).to (acc ++ [nextF l j])) = R) := Lib.hid (by rw [← hG.out]; rfl)
    clear hG
    generalize nextF l j = t at *
    go_wp2_with fail
    refine hx.mono ?_
    rintro e w2 ⟨rfl, hb2⟩
    have hown2 := owns_later hown hb2
    have hbl2 := hbl.trans (hb2.mono hbl.size)
    have hsz2 := hbl2.size
    have hsz := hbl.size
    clear hown hx hS
    have hA : ∀ o : Obj, (w2.alloc o).heap.size = w2.heap.size + 1 := fun o => by simp
    have hB := Blk.alloc (w := w2.alloc (.cells (tkCells t).toArray 29)) (tkCells t) 29
    rw [hA] at hB
    have hnews : ∀ j u, (tkCells t)[j]? = some u → ((w2.alloc (.cells (tkCells t).toArray 29)).alloc (.cells (tkCells t).toArray 29)).cell? ((⟨w2.heap.size + 1, 0, none⟩ : Addr).add j) = some u := fun j u hu => by
      have h0 := hB.cell j u hu
      rw [← h0]; congr 1; unfold Addr.add; simp <;> (intro h; exact h.symm)
    have hown4 := (hown2.alloc (.cells (tkCells t).toArray 29)).alloc (.cells (tkCells t).toArray 29)
    have hbl4 := (hbl2.alloc hsz2 (.cells (tkCells t).toArray 29)).alloc (by rw [hA]; omega) (.cells (tkCells t).toArray 29)
    have B5 : Blk ((w2.alloc (.cells (tkCells t).toArray 29)).alloc (.cells (tkCells t).toArray 29)) w2.heap.size (tkCells t) 29 := (Blk.alloc _ _).alloc_old _
    have hone := tk_cells t
    have hz4 : ((w2.alloc (.cells (tkCells t).toArray 29)).alloc (.cells (tkCells t).toArray 29)).heap.size = w2.heap.size + 2 := by simp
    unfold tkV
    rw [show (tkCells t).toArray = #[.int .i64 t.kind, .int .i64 t.frm, .int .i64 t.to, .string (strOfNums t.text), .string (strOfNums t.num), .bool t.whole] from rfl] at *
    have hlA : ∀ t : Tk, (acc ++ [t]).flatMap tkCells = acc.flatMap tkCells ++ tkCells t := fun t => by simp
    by_cases hk0 : t.kind = 0
    · have n0 : (t.kind == 0) = true := beq_iff_eq.2 hk0
      have hE : R = acc ++ [t] := by rw [← hG'.out, if_pos hk0]
      clear hk0 hG' t2
      go_wp2_with (at_builtin; refine wpList_append_own _ rfl _ _ 25 rfl w.heap.size 29 i0 _ 6 64 Tryd.underlying25 hi hz0 hz1 hz2 rfl (by decide) _ acc.length _ rfl hown4 ⟨w2.heap.size + 1, 0, none⟩ 1 1 (tkCells t) rfl rfl hnews hone (by unfold maxLen; omega) (by omega) (by simp <;> omega) ?_; intro v' w5 hown5 hgrow5 _; have hB6 : Blk w5 w2.heap.size (tkCells t) 29 := (hgrow5.block w2.heap.size (by omega) (fun e => by have := (hown2.lt _ e.symm).2; omega)).trans B5; have c0 := hB6.cell 0 _ rfl; have c2 := hB6.cell 2 _ rfl)
      have hbl5 : Below w.heap.size w w5 := hbl4.grown hgrow5 (by omega) (fun j hj => (hown2.lt j hj).1)
      go_ret
      rcases hown5.2 with ⟨_, hx0⟩ | ⟨g, cp, cur, hv, hg, hh, hn1, hn2, _, _⟩
      · omega
      · have hll : R.length = acc.length + 1 := by rw [hE, List.length_append]; rfl
        have hfm : R.flatMap tkCells = acc.flatMap tkCells ++ tkCells t := by rw [hE]; exact hlA t
        subst hv
        refine ⟨some ⟨g, 0, none⟩, cp, by rw [hll]; rfl, ⟨by rw [hll]; exact hn1, hn2, g, rfl, lt_of_block hh, fun j v hv => ?_⟩, hbl5⟩
        rw [hfm] at hv
        have h0 := hown5.cells (g := g) rfl j v hv
        rw [← h0]; congr 1; unfold Addr.add; simp
    · have n0 : (t.kind == 0) = false := beq_eq_false_iff_ne.2 hk0
      obtain ⟨t3, t4⟩ := t2 hk0
      have hG2 : Hid (allGo f l t.to (acc ++ [t]) = R) := Lib.hid (by rw [← hG'.out, if_neg hk0])
      clear hk0 hG' t2
      go_wp2_with (at_builtin; refine wpList_append_own _ rfl _ _ 25 rfl w.heap.size 29 i0 _ 6 64 Tryd.underlying25 hi hz0 hz1 hz2 rfl (by decide) _ acc.length _ rfl hown4 ⟨w2.heap.size + 1, 0, none⟩ 1 1 (tkCells t) rfl rfl hnews hone (by unfold maxLen; omega) (by omega) (by simp <;> omega) ?_; intro v' w5 hown5 hgrow5 _; have hB6 : Blk w5 w2.heap.size (tkCells t) 29 := (hgrow5.block w2.heap.size (by omega) (fun e => by have := (hown2.lt _ e.symm).2; omega)).trans B5; have c0 := hB6.cell 0 _ rfl; have c2 := hB6.cell 2 _ rfl)
      have hbl5 : Below w.heap.size w w5 := hbl4.grown hgrow5 (by omega) (fun j hj => (hown2.lt j hj).1)
      go_roundw
      case rel => exact ⟨f, t.to, acc ++ [t], by go_num, by rw [hlA, List.length_append]; exact hown5, hG2, by omega, by omega, by rw [List.length_append]; simp; omega, hbl5⟩
      case measure => simp [intOf]; omega


theorem prep_pre (zs : List Int) : Pre (prepF zs) := by
  have key : ∀ k, ∀ z ∈ prepTo zs k, 1 ≤ z ∧ z < 1114112 := by
    intro k
    induction k with
    | zero => intro z hz; simp [prepTo] at hz
    | succ k ih =>
      intro z hz
      rw [prepTo] at hz
      rcases List.mem_append.1 hz with h | h
      · exact ih z h
      · rcases prep_cases zs k with ⟨_, _, _, HP⟩ | ⟨_, _, HP⟩ | ⟨_, _, _, HP⟩ | ⟨_, HP⟩ | ⟨_, HP⟩ | ⟨e1, e2, e3, HP⟩
        all_goals rw [HP] at h; simp at h
        all_goals try (subst h; omega)
        subst h
        have h1 := right_bd (charOf_right (zs[k]?.getD 0))
        have h2 : charOf (zs[k]?.getD 0) ≠ 0 := by
          unfold charOf
          split
          · exact e3
          · decide
        omega
  exact key _
theorem chars_len (zs : List Int) : (charsF zs).length ≤ zs.length := by
  have key : ∀ f k, (charsN f zs k).length ≤ f := by
    intro f
    induction f with
    | zero => intro k; simp [charsN]
    | succ f ih =>
      intro k
      rw [charsN]
      split
      · simp
      · rw [List.length_append]
        have := ih (k + sizeF (zs.drop k))
        have h1 : (if charF (zs.drop k) ≠ 65279 ∨ k ≠ 0 then [charF (zs.drop k)] else []).length ≤ 1 := by split <;> simp
        omega
  have := key (zs.length - 0) 0
  exact this
theorem chars_i64 (zs : List Int) (hz : U8 zs) : I64 (charsF zs) := by
  have key : ∀ f k, I64 (charsN f zs k) := by
    intro f
    induction f with
    | zero => intro k z hz; simp [charsN] at hz
    | succ f ih =>
      intro k z h
      rw [charsN] at h
      split at h
      · simp at h
      · rcases List.mem_append.1 h with h | h
        · split at h
          · simp at h
            have := readF_char (zs.drop k) (hz.drop k)
            subst h
            unfold charF
            split
            · omega
            · decide
          · simp at h
        · exact ih _ z h
  exact key _ _

set_option maxRecDepth 100000 in
set_option maxHeartbeats 2000000 in
theorem tread_any (a : Option Addr) (n cap : Nat) (zs : List Int) (w : World) (hn : zs.length = n) (hr : Reads w .u8 a cap zs) (hz : U8 zs) (hsm : n ≤ 100000) (hT : TkW w) :
    Calls Tryd.prog 6 #[.slice a n cap] w (TksPost (toksF zs) w) := by
  subst hn
  have hc := chars_any a cap zs w hr hz (by omega)
  have hcl := chars_len zs
  have hci := chars_i64 zs hz
  have HT := Lib.hid hT
  unfold toksF
  unfold CharsPost at hc
  clear hT hr
  generalize charsF zs = cs at *
  go_enter Tryd.func6, Tryd.ntmps6
  go_wp2_with fail
  refine hc.mono ?_
  rintro e w1 ⟨a1, c1, rfl, hr1, hb1, _, _⟩
  have cP := prepare_any a1 c1 cs.length cs w1 rfl hr1 hci (by omega)
  have hpl := prepTo_len cs cs.length
  have hpp := prep_pre cs
  have hpl : (prepF cs).length ≤ cs.length := hpl
  unfold NewPost at cP
  generalize prepF cs = l at *
  clear hc hr1 hci hz
  go_wp2_with fail
  refine cP.mono ?_
  rintro e w2 ⟨a2, c2, rfl, hr2, hb2, _, _⟩
  have hb12 := below_trans hb1 hb2
  have cA := all_any (a := a2) (cap := c2) (⟨hr2, rfl, hpp, by omega⟩ : Src w2 a2 l.length c2 l) (HT.out.later hb12)
  clear cP hr2 hpp
  go_wp2_with fail
  refine cA.mono ?_
  rintro e w3 ⟨a3, c3, rfl, hr3, hb3⟩
  go_wp2
  go_ret
  exact ⟨a3, c3, rfl, hr3, below_trans hb12 hb3⟩
end
end Go.Proofs.YtdopmkiogmejaaaDoor
