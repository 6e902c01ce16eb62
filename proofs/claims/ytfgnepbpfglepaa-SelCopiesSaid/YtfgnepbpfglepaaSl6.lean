/- The example of the document: the specificity of a selector that is written out: walks. -/
import Derived.Test.YtfgnepbpfglepaaSl5
namespace Go.Proofs.Ytfgnepbpfglepaa
open Go.RowKit

theorem get0 {α : Type} {a y : α} {l : List α} (h : (a :: l)[0]? = some y) : a = y := by simpa using h
theorem get1 {α : Type} {a b y : α} {l : List α} (h : (b :: a :: l)[0 + 1]? = some y) : a = y := by simpa using h
theorem get2 {α : Type} {a b c y : α} {l : List α} (h : (c :: b :: a :: l)[0 + 1 + 1]? = some y) : a = y := by simpa using h
theorem getn1 {α : Type} {a y : α} {i : Nat} (h : [a][i + 1]? = some y) : False := by simp at h
theorem getn2 {α : Type} {a b y : α} {i : Nat} (h : [a, b][i + 1 + 1]? = some y) : False := by simp at h
theorem getn3 {α : Type} {a b c y : α} {i : Nat} (h : [a, b, c][i + 1 + 1 + 1]? = some y) : False := by simp at h

def OfPost (a : Option Addr) (n c : Nat) (w : World) (e : Ending) (w' : World) : Prop :=
  ∃ p, e = .returned (.agg #[.slice (some ⟨p, 0, none⟩) 1 1]) ∧ Blk w' p [.int .i64 0, .slice a n c] 95 ∧ w.heap.size ≤ p ∧ Below w.heap.size w w'

set_option maxRecDepth 100000 in
set_option maxHeartbeats 1000000 in
theorem of_any (a : Option Addr) (n c : Nat) (w : World) : Calls Try.prog 49 #[.slice a n c] w (OfPost a n c w) := by
  have hb : ∀ x, Below w.heap.size w ((w.alloc (.cells #[x] 79)).alloc (.cells #[.int .i64 0, .slice a n c] 95)) := fun _ => ((Below.refl _ w).alloc (Nat.le_refl _) _).alloc (by simp) _
  have h2 : ∀ x, Blk ((w.alloc (.cells #[x] 79)).alloc (.cells #[.int .i64 0, .slice a n c] 95)) (w.heap.size + 1) [.int .i64 0, .slice a n c] 95 := fun x => by
    have := Blk.alloc (w := w.alloc (.cells #[x] 79)) [.int .i64 0, .slice a n c] 95
    rwa [World.size_alloc] at this
  go_enter Try.func49, Try.ntmps49
  go_wp2
  exact bodyPost_ret (v := .agg #[.slice (some ⟨w.heap.size + 1, 0, none⟩) 1 1]) (by simp [results, Try.results49, go_sem]) rfl ⟨_, rfl, h2 _, by omega, hb _⟩

/-- A simple selector of a kind and a name. -/
def plainF (k : Int) (nm : ByteArray) : Flat := ⟨k, 0, ⟨#[]⟩, nm, 0, ⟨#[]⟩, false, 0, 0, 0⟩
def plainC (k : Int) (nm : ByteArray) (a : Option Addr) (n c : Nat) : List Value :=
  [.int .i64 k, .int .i64 0, .string ⟨#[]⟩, .string nm, .int .i64 0, .string ⟨#[]⟩, .bool false, .int .i64 0, .int .i64 0, .int .i64 0, .slice a n c]
theorem rdX_one {L : Type} {ok : Nat → Prop} {R : Option Addr → Nat → Nat → L → Prop} {W : World} {p : Nat} {a : Option Addr} {n c : Nat} {T : TypeId} {ys : List (Flat × L)} (hp : Blk W p [.int .i64 0, .slice a n c] T) (ho : ok p)
    (h : RdOf ok 11 (SimpleAt R W) a n c ys) : RdX ok R W (some ⟨p, 0, none⟩) 1 1 [(0, ys)] :=
  ⟨rfl, Nat.le_refl _, by unfold maxLen; omega, .inr ⟨p, 0, rfl, ho, fun i y hy => by
    rcases i with _ | i
    · obtain rfl := get0 hy
      exact ⟨hp.cell 0 _ rfl, a, n, c, hp.cell 1 _ rfl, h⟩
    · exact (getn1 hy).elim⟩⟩
theorem plainF_ok (k : Int) (nm : ByteArray) (h : nm.size ≤ 140737488351232) : FlatOk (plainF k nm) := ⟨Nat.zero_le _, h, Nat.zero_le _⟩
theorem rdS_one {ok : Nat → Prop} {W : World} {p : Nat} {k : Int} {nm : ByteArray} {T : TypeId} (hp : Blk W p (plainC k nm none 0 0) T) (ho : ok p) (hnm : nm.size ≤ 140737488351232) :
    RdOf ok 11 (SimpleAt (RdL ok 0 W) W) (some ⟨p, 0, none⟩) 1 1 [(plainF k nm, ())] :=
  ⟨rfl, Nat.le_refl _, by unfold maxLen; omega, .inr ⟨p, 0, rfl, ho, fun i y hy => by
    rcases i with _ | i
    · obtain rfl := get0 hy
      exact ⟨⟨hp.cell 0 _ rfl, hp.cell 1 _ rfl, hp.cell 2 _ rfl, hp.cell 3 _ rfl, hp.cell 4 _ rfl, hp.cell 5 _ rfl, hp.cell 6 _ rfl, hp.cell 7 _ rfl, hp.cell 8 _ rfl, hp.cell 9 _ rfl⟩, none, 0, 0, hp.cell 10 _ rfl, ⟨rfl, by unfold maxLen; omega⟩, plainF_ok _ _ hnm⟩
    · exact (getn1 hy).elim⟩⟩
/-- The example's selector. -/
def exX : List (Int × List (Flat × Lx 1)) := [(0, [(plainF 1 ⟨#[97]⟩, []), (plainF 8 ⟨#[]⟩, [[(0, [(plainF 4 ⟨#[98]⟩, ())])], [(0, [(plainF 1 ⟨#[99]⟩, ())])]]), (plainF 3 ⟨#[100]⟩, [])])]
theorem exX_spec : specX (greatestF 1) exX = (1, 1, 1) := by decide +kernel
theorem exX_rd {ok : Nat → Prop} {W : World} {B8 B13 p3 p1 p2 B3 B6 : Nat} {T47 T39 T36 : TypeId}
    (h13 : Blk W B13 (plainC 1 ⟨#[97]⟩ none 0 0 ++ (plainC 8 ⟨#[]⟩ (some ⟨B8, 0, none⟩) 2 2 ++ plainC 3 ⟨#[100]⟩ none 0 0)) T47) (h8 : Blk W B8 [.slice (some ⟨p1, 0, none⟩) 1 1, .slice (some ⟨p2, 0, none⟩) 1 1] T36)
    (hp3 : Blk W p3 [.int .i64 0, .slice (some ⟨B13, 0, none⟩) 3 3] T39) (hp1 : Blk W p1 [.int .i64 0, .slice (some ⟨B3, 0, none⟩) 1 1] T39) (hp2 : Blk W p2 [.int .i64 0, .slice (some ⟨B6, 0, none⟩) 1 1] T39)
    (h3 : Blk W B3 (plainC 4 ⟨#[98]⟩ none 0 0) T47) (h6 : Blk W B6 (plainC 1 ⟨#[99]⟩ none 0 0) T47) (o1 : ok B8) (o2 : ok B13) (o3 : ok p3) (o4 : ok p1) (o5 : ok p2) (o6 : ok B3) (o7 : ok B6) :
    RdX ok (RdL ok 1 W) W (some ⟨p3, 0, none⟩) 1 1 exX := by
  refine rdX_one hp3 o3 ⟨rfl, Nat.le_refl _, by unfold maxLen; omega, .inr ⟨B13, 0, rfl, o2, fun i y hy => ?_⟩⟩
  rcases i with _ | _ | _ | i
  · obtain rfl := get0 hy
    exact ⟨⟨h13.cell 0 _ rfl, h13.cell 1 _ rfl, h13.cell 2 _ rfl, h13.cell 3 _ rfl, h13.cell 4 _ rfl, h13.cell 5 _ rfl, h13.cell 6 _ rfl, h13.cell 7 _ rfl, h13.cell 8 _ rfl, h13.cell 9 _ rfl⟩, none, 0, 0, h13.cell 10 _ rfl, ⟨rfl, Nat.le_refl _, by unfold maxLen; omega, .inl rfl⟩, plainF_ok _ _ (by decide)⟩
  · obtain rfl := get1 hy
    refine ⟨⟨h13.cell 11 _ rfl, h13.cell 12 _ rfl, h13.cell 13 _ rfl, h13.cell 14 _ rfl, h13.cell 15 _ rfl, h13.cell 16 _ rfl, h13.cell 17 _ rfl, h13.cell 18 _ rfl, h13.cell 19 _ rfl, h13.cell 20 _ rfl⟩, some ⟨B8, 0, none⟩, 2, 2, h13.cell 21 _ rfl, ⟨rfl, Nat.le_refl _, by unfold maxLen; omega, .inr ⟨B8, 0, rfl, o1, fun i y hy => ?_⟩⟩, plainF_ok _ _ (by decide)⟩
    rcases i with _ | _ | i
    · obtain rfl := get0 hy
      exact ⟨some ⟨p1, 0, none⟩, 1, 1, h8.cell 0 _ rfl, rdX_one hp1 o4 (rdS_one h3 o6 (by decide))⟩
    · obtain rfl := get1 hy
      exact ⟨some ⟨p2, 0, none⟩, 1, 1, h8.cell 1 _ rfl, rdX_one hp2 o5 (rdS_one h6 o7 (by decide))⟩
    · exact (getn2 hy).elim
  · obtain rfl := get2 hy
    exact ⟨⟨h13.cell 22 _ rfl, h13.cell 23 _ rfl, h13.cell 24 _ rfl, h13.cell 25 _ rfl, h13.cell 26 _ rfl, h13.cell 27 _ rfl, h13.cell 28 _ rfl, h13.cell 29 _ rfl, h13.cell 30 _ rfl, h13.cell 31 _ rfl⟩, none, 0, 0, h13.cell 32 _ rfl, ⟨rfl, Nat.le_refl _, by unfold maxLen; omega, .inl rfl⟩, plainF_ok _ _ (by decide)⟩
  · exact (getn3 hy).elim

set_option maxRecDepth 100000 in
set_option maxHeartbeats 4000000 in
theorem speaks8_any (w : World) : Calls Try.prog 24 #[] w (Told (.bool true) w) := by
  have HA := Lib.hid (show Blk _ _ (plainC 4 ⟨#[98]⟩ none 0 0) _ from Blk.alloc (w := w) [.int .i64 4, .int .i64 0, .string ⟨#[]⟩, .string ⟨#[98]⟩, .int .i64 0, .string ⟨#[]⟩, .bool false, .int .i64 0, .int .i64 0, .int .i64 0, .slice none 0 0] 86)
  have HB0 := Lib.hid (show Below w.heap.size w (w.alloc (.cells #[.int .i64 4, .int .i64 0, .string ⟨#[]⟩, .string ⟨#[98]⟩, .int .i64 0, .string ⟨#[]⟩, .bool false, .int .i64 0, .int .i64 0, .int .i64 0, .slice none 0 0] 86)) from (Below.refl _ w).alloc (Nat.le_refl _) _)
  go_enter Try.func24, Try.ntmps24
  go_wp2_with fail
  refine (of_any _ _ _ _).mono ?_
  rintro e w1 ⟨p1, rfl, hp1, hq1, hb1⟩
  have HA1 := Lib.hid (((HA.out.later hb1 HA.out.lt).alloc_old (.cells #[.int .i64 1, .int .i64 0, .string ⟨#[]⟩, .string ⟨#[99]⟩, .int .i64 0, .string ⟨#[]⟩, .bool false, .int .i64 0, .int .i64 0, .int .i64 0, .slice none 0 0] 86)))
  have HP1 := Lib.hid (hp1.alloc_old (.cells #[.int .i64 1, .int .i64 0, .string ⟨#[]⟩, .string ⟨#[99]⟩, .int .i64 0, .string ⟨#[]⟩, .bool false, .int .i64 0, .int .i64 0, .int .i64 0, .slice none 0 0] 86))
  have HC1 := Lib.hid (show Blk _ _ (plainC 1 ⟨#[99]⟩ none 0 0) _ from Blk.alloc (w := w1) [.int .i64 1, .int .i64 0, .string ⟨#[]⟩, .string ⟨#[99]⟩, .int .i64 0, .string ⟨#[]⟩, .bool false, .int .i64 0, .int .i64 0, .int .i64 0, .slice none 0 0] 86)
  have HB1 := Lib.hid (show Below w.heap.size w (w1.alloc (.cells #[.int .i64 1, .int .i64 0, .string ⟨#[]⟩, .string ⟨#[99]⟩, .int .i64 0, .string ⟨#[]⟩, .bool false, .int .i64 0, .int .i64 0, .int .i64 0, .slice none 0 0] 86)) from (below_trans HB0.out hb1).alloc (below_trans HB0.out hb1).size _)
  clear HA HB0 hp1 hq1 hb1
  go_wp2_with fail
  refine (of_any _ _ _ _).mono ?_
  rintro e w2 ⟨p2, rfl, hp2, hq2, hb2⟩
  have o1 : Obj := .cells #[.slice (some ⟨p1, 0, none⟩) 1 1, .slice (some ⟨p2, 0, none⟩) 1 1] 79
  obtain ⟨O1, hO1⟩ : ∃ o : Obj, o = .cells #[.slice (some ⟨p1, 0, none⟩) 1 1, .slice (some ⟨p2, 0, none⟩) 1 1] 79 := ⟨_, rfl⟩
  obtain ⟨O2, hO2⟩ : ∃ o : Obj, o = .cells #[.int .i64 8, .int .i64 0, .string ⟨#[]⟩, .string ⟨#[]⟩, .int .i64 0, .string ⟨#[]⟩, .bool false, .int .i64 0, .int .i64 0, .int .i64 0, .slice (some ⟨w2.heap.size, 0, none⟩) 2 2] 86 := ⟨_, rfl⟩
  obtain ⟨O3, hO3⟩ : ∃ o : Obj, o = .cells #[.int .i64 1, .int .i64 0, .string ⟨#[]⟩, .string ⟨#[97]⟩, .int .i64 0, .string ⟨#[]⟩, .bool false, .int .i64 0, .int .i64 0, .int .i64 0, .slice none 0 0, .int .i64 8, .int .i64 0, .string ⟨#[]⟩, .string ⟨#[]⟩, .int .i64 0, .string ⟨#[]⟩, .bool false, .int .i64 0, .int .i64 0, .int .i64 0, .slice (some ⟨w2.heap.size, 0, none⟩) 2 2, .int .i64 3, .int .i64 0, .string ⟨#[]⟩, .string ⟨#[100]⟩, .int .i64 0, .string ⟨#[]⟩, .bool false, .int .i64 0, .int .i64 0, .int .i64 0, .slice none 0 0] 86 := ⟨_, rfl⟩
  have hA2 := (((HA1.out.later hb2 HA1.out.lt).alloc_old O1).alloc_old O2).alloc_old O3
  have hP1 := (((HP1.out.later hb2 HP1.out.lt).alloc_old O1).alloc_old O2).alloc_old O3
  have hC1 := (((HC1.out.later hb2 HC1.out.lt).alloc_old O1).alloc_old O2).alloc_old O3
  have hP2 := ((hp2.alloc_old O1).alloc_old O2).alloc_old O3
  have hE1 : Blk (((w2.alloc O1).alloc O2).alloc O3) w2.heap.size [.slice (some ⟨p1, 0, none⟩) 1 1, .slice (some ⟨p2, 0, none⟩) 1 1] 79 := by
    rw [hO1]; exact ((Blk.alloc (w := w2) _ _).alloc_old O2).alloc_old O3
  have hE3 : Blk (((w2.alloc O1).alloc O2).alloc O3) (w2.heap.size + 1 + 1) (plainC 1 ⟨#[97]⟩ none 0 0 ++ (plainC 8 ⟨#[]⟩ (some ⟨w2.heap.size, 0, none⟩) 2 2 ++ plainC 3 ⟨#[100]⟩ none 0 0)) 86 := by
    have := Blk.alloc (w := (w2.alloc O1).alloc O2) [.int .i64 1, .int .i64 0, .string ⟨#[]⟩, .string ⟨#[97]⟩, .int .i64 0, .string ⟨#[]⟩, .bool false, .int .i64 0, .int .i64 0, .int .i64 0, .slice none 0 0, .int .i64 8, .int .i64 0, .string ⟨#[]⟩, .string ⟨#[]⟩, .int .i64 0, .string ⟨#[]⟩, .bool false, .int .i64 0, .int .i64 0, .int .i64 0, .slice (some ⟨w2.heap.size, 0, none⟩) 2 2, .int .i64 3, .int .i64 0, .string ⟨#[]⟩, .string ⟨#[100]⟩, .int .i64 0, .string ⟨#[]⟩, .bool false, .int .i64 0, .int .i64 0, .int .i64 0, .slice none 0 0] 86
    rw [World.size_alloc, World.size_alloc] at this
    rw [hO3]
    exact this
  have hB2 : Below w.heap.size w (((w2.alloc O1).alloc O2).alloc O3) := by
    have h := below_trans HB1.out hb2
    exact ((h.alloc h.size _).alloc (by have := h.size; simp; omega) _).alloc (by have := h.size; simp; omega) _
  have HW := Lib.hid (And.intro hA2 (And.intro hP1 (And.intro hC1 (And.intro hP2 (And.intro hE1 (And.intro hE3 hB2))))))
  clear HA1 HP1 HC1 HB1 hA2 hP1 hC1 hP2 hE1 hE3 hB2 hp2 hq2 hb2 o1
  subst hO1 hO2 hO3
  go_wp2_with fail
  refine (of_any _ _ _ _).mono ?_
  rintro e w3 ⟨p3, rfl, hp3, hq3, hb3⟩
  have hrd : RdX (· < w3.heap.size) (RdL (· < w3.heap.size) 1 w3) w3 (some ⟨p3, 0, none⟩) 1 1 exX := by
    obtain ⟨hA2, hP1, hC1, hP2, hE1, hE3, hB2⟩ := HW.out
    have a1 := hE3.later hb3 hE3.lt
    have a2 := hE1.later hb3 hE1.lt
    have a3 := hP1.later hb3 hP1.lt
    have a4 := hP2.later hb3 hP2.lt
    have a5 := hA2.later hb3 hA2.lt
    have a6 := hC1.later hb3 hC1.lt
    exact exX_rd a1 a2 hp3 a3 a4 a5 a6 a2.lt a1.lt hp3.lt a3.lt a4.lt a5.lt a6.lt
  have cS := spec_any 1 exX _ _ _ w3 hrd
  rw [exX_spec] at cS
  have HB3 := Lib.hid (below_trans HW.out.2.2.2.2.2.2 hb3)
  clear hrd HW hp3 hq3 hb3
  go_wp2_with fail
  refine cS.mono ?_
  rintro e w4 ⟨rfl, hb4⟩
  unfold spV
  dsimp only
  go_wp2
  go_ret
  exact ⟨rfl, below_trans HB3.out hb4⟩
end Go.Proofs.Ytfgnepbpfglepaa
