/- What decode's read does: walks. -/
import Derived.Test.YtfgnepbpfglepaaBegin
namespace Go.Proofs.Ytfgnepbpfglepaa
open Go.RowKit

/-- Does the byte at a place go on with a character, whose next byte has these bounds? -/
def goesOn (zs : List Int) (i : Nat) (l h : Int) : Prop := i < zs.length ∧ l ≤ zs[i]?.getD 0 ∧ zs[i]?.getD 0 ≤ h
instance (zs : List Int) (i : Nat) (l h : Int) : Decidable (goesOn zs i l h) := by unfold goesOn; exact inferInstance

/-- What read tells of bytes: the character, how many bytes, whether it is one. -/
def readF (zs : List Int) : Int × Nat × Bool :=
  let z := zs[0]?.getD 0
  if z < 128 then (z, 1, true)
  else if 194 ≤ z ∧ z ≤ 244 then
    if ¬ goesOn zs 1 (loOf z) (hiOf z) then (0, 1, false)
    else
      let c1 := charNext (charBegin z) (zs[1]?.getD 0)
      if z ≤ 223 then (c1, 2, true)
      else if ¬ goesOn zs 2 128 191 then (0, 2, false)
      else
        let c2 := charNext c1 (zs[2]?.getD 0)
        if z ≤ 239 then (c2, 3, true)
        else if ¬ goesOn zs 3 128 191 then (0, 3, false)
        else (charNext c2 (zs[3]?.getD 0), 4, true)
  else (0, 1, false)

/-- The post of read. -/
def ReadPost (zs : List Int) (w : World) (e : Ending) (w' : World) : Prop :=
  e = .returned (.tuple #[.int .i32 (readF zs).1, .int .i64 (readF zs).2.1, .bool (readF zs).2.2]) ∧ Below w.heap.size w w'

theorem charBegin_low {z : Int} (h : z < 128) : charBegin z = z := by
  unfold charBegin; rw [if_neg (by omega), if_neg (by omega), if_neg (by omega)]

theorem ret_read {c c' : Int} {n n' : Int} {o o' : Bool} (h : c = c') (h2 : n = n') (h3 : o = o') : Ending.returned (.tuple #[.int .i32 c, .int .i64 n, .bool o]) = .returned (.tuple #[.int .i32 c', .int .i64 n', .bool o']) := by rw [h, h2, h3]

set_option maxRecDepth 100000 in
set_option maxHeartbeats 1000000 in
theorem read_low    (b off len cap : Nat) (zs : List Int) (w : World) (hlen : zs.length = len) (h1 : 1 ≤ len) (_hl : len ≤ cap) (_hcap : cap ≤ maxLen)
    (hat : At w .u8 b off zs) (hz : U8 zs) (hlow : zs[0]?.getD 0 < 128) :
    Calls Try.prog 103 #[.slice (some ⟨b, off, none⟩) len cap] w (ReadPost zs w) := by
  have hc := hat.2 0 (by omega)
  have hz0 := hz.at 0
  rw [Nat.add_zero] at hc
  have HP : Hid (readF zs = (zs[0]?.getD 0, 1, true)) := by show readF zs = _; unfold readF; rw [if_pos hlow]
  generalize zs[0]?.getD 0 = z at *
  go_enter Try.func103, Try.ntmps103
  go_wp2_with fail
  refine (begin_any b off len cap z w h1 hz0 hc).mono ?_
  rintro e w1 ⟨rfl, hb1⟩
  simp only [rdCells, show ((1 : Nat) : Int) = 1 from rfl]
  have hc1 := (hb1.cell (p := ⟨b, off, none⟩) hat.1).trans hc
  have hbl : b < w1.heap.size := Nat.lt_of_lt_of_le hat.1 hb1.size
  go_wp2_with fail
  go_quiet (fail)
  go_wp2
  go_ret3
  exact ⟨by rw [HP.out]; exact ret_read (charBegin_low hlow) rfl rfl, below_drewN (hb1.alloc hb1.size _) _⟩

set_option maxRecDepth 100000 in
set_option maxHeartbeats 1000000 in
theorem read_wrong    (b off len cap : Nat) (zs : List Int) (w : World) (hlen : zs.length = len) (h1 : 1 ≤ len) (_hl : len ≤ cap) (_hcap : cap ≤ maxLen)
    (hat : At w .u8 b off zs) (hz : U8 zs) (hno : ((128 : Int) ≤ zs[0]?.getD 0 ∧ zs[0]?.getD 0 < 194) ∨ (244 : Int) < zs[0]?.getD 0) :
    Calls Try.prog 103 #[.slice (some ⟨b, off, none⟩) len cap] w (ReadPost zs w) := by
  have hc := hat.2 0 (by omega)
  have hz0 := hz.at 0
  rw [Nat.add_zero] at hc
  have HP : Hid (readF zs = (0, 1, false)) := by show readF zs = _; unfold readF; rw [if_neg (by omega), if_neg (by omega)]
  generalize zs[0]?.getD 0 = z at *
  rcases hno with ⟨g1, g2⟩ | g1
  all_goals
    go_enter Try.func103, Try.ntmps103
    go_wp2_with fail
    refine (begin_any b off len cap z w h1 hz0 hc).mono ?_
    rintro e w1 ⟨rfl, hb1⟩
    simp only [rdCells, show ((1 : Nat) : Int) = 1 from rfl]
    have hc1 := (hb1.cell (p := ⟨b, off, none⟩) hat.1).trans hc
    have hbl : b < w1.heap.size := Nat.lt_of_lt_of_le hat.1 hb1.size
    go_wp2_with fail
    go_quiet (fail)
    go_wp2
    go_ret3
    exact ⟨by rw [HP.out]; exact ret_read rfl rfl rfl, below_drewN (hb1.alloc hb1.size _) _⟩

set_option maxRecDepth 100000 in
set_option maxHeartbeats 1000000 in
theorem read_2_1    (b off len cap : Nat) (zs : List Int) (w : World) (hlen : zs.length = len) (h1 : 1 ≤ len) (hl : len ≤ cap) (hcap : cap ≤ maxLen)
    (hat : At w .u8 b off zs) (hz : U8 zs) (hr : (194 : Int) ≤ zs[0]?.getD 0 ∧ zs[0]?.getD 0 ≤ 223) (k1 : ¬ goesOn zs 1 (loOf (zs[0]?.getD 0)) (hiOf (zs[0]?.getD 0))) :
    Calls Try.prog 103 #[.slice (some ⟨b, off, none⟩) len cap] w (ReadPost zs w) := by
  have hc := hat.2 0 (by omega)
  have hz0 := hz.at 0
  rw [Nat.add_zero] at hc
  have HP : Hid (readF zs = (0, 1, false)) := by show readF zs = _; unfold readF; rw [if_neg (by omega), if_pos (by omega), if_pos k1]
  generalize zs[0]?.getD 0 = z at *
  obtain ⟨hr1, hr2⟩ := hr
  go_enter Try.func103, Try.ntmps103
  go_wp2_with fail
  refine (begin_any b off len cap z w h1 hz0 hc).mono ?_
  rintro e w1 ⟨rfl, hb1⟩
  simp only [rdCells, show ((1 : Nat) : Int) = 1 from rfl]
  have hc1 := (hb1.cell (p := ⟨b, off, none⟩) hat.1).trans hc
  have hbl : b < w1.heap.size := Nat.lt_of_lt_of_le hat.1 hb1.size
  go_wp2_with fail
  have B0 : Blk (w1.alloc (.cells (rdCells b off len cap (charBegin z) 1 (loOf z) (hiOf z)).toArray 154)) w1.heap.size (rdCells b off len cap (charBegin z) 1 (loOf z) (hiOf z)) 154 := Blk.alloc _ _
  have hb2 : Below w.heap.size w (w1.alloc (.cells (rdCells b off len cap (charBegin z) 1 (loOf z) (hiOf z)).toArray 154)) := hb1.alloc hb1.size _
  refine (more_no w1.heap.size b off len cap _ (charBegin z) (loOf z) (hiOf z) 1 _ B0 hl hcap zs hlen (hat.later hb2 hat.1) (by omega) (by rw [← hlen]; exact k1)).mono ?_
  rintro e w3 ⟨rfl, B1, g1⟩
  have hb3 := hb2.grown g1 hb2.size (by rintro _ ⟨⟩; exact hb1.size)
  have q2 := B1.cell 2 _ rfl
  go_wp2_with fail
  go_quiet (fail)
  go_wp2
  go_ret3
  exact ⟨by rw [HP.out]; exact ret_read rfl rfl rfl, below_drewN hb3 _⟩

set_option maxRecDepth 100000 in
set_option maxHeartbeats 1000000 in
theorem read_2_2    (b off len cap : Nat) (zs : List Int) (w : World) (hlen : zs.length = len) (h1 : 1 ≤ len) (hl : len ≤ cap) (hcap : cap ≤ maxLen)
    (hat : At w .u8 b off zs) (hz : U8 zs) (hr : (194 : Int) ≤ zs[0]?.getD 0 ∧ zs[0]?.getD 0 ≤ 223) (k1 : goesOn zs 1 (loOf (zs[0]?.getD 0)) (hiOf (zs[0]?.getD 0))) :
    Calls Try.prog 103 #[.slice (some ⟨b, off, none⟩) len cap] w (ReadPost zs w) := by
  have hc := hat.2 0 (by omega)
  have hz0 := hz.at 0
  rw [Nat.add_zero] at hc
  have HP : Hid (readF zs = (charNext (charBegin (zs[0]?.getD 0)) (zs[1]?.getD 0), 2, true)) := by show readF zs = _; unfold readF; rw [if_neg (by omega), if_pos (by omega), if_neg (not_not_intro k1), if_pos (by omega)]
  generalize zs[0]?.getD 0 = z at *
  obtain ⟨hr1, hr2⟩ := hr
  go_enter Try.func103, Try.ntmps103
  go_wp2_with fail
  refine (begin_any b off len cap z w h1 hz0 hc).mono ?_
  rintro e w1 ⟨rfl, hb1⟩
  simp only [rdCells, show ((1 : Nat) : Int) = 1 from rfl]
  have hc1 := (hb1.cell (p := ⟨b, off, none⟩) hat.1).trans hc
  have hbl : b < w1.heap.size := Nat.lt_of_lt_of_le hat.1 hb1.size
  go_wp2_with fail
  have B0 : Blk (w1.alloc (.cells (rdCells b off len cap (charBegin z) 1 (loOf z) (hiOf z)).toArray 154)) w1.heap.size (rdCells b off len cap (charBegin z) 1 (loOf z) (hiOf z)) 154 := Blk.alloc _ _
  have hb2 : Below w.heap.size w (w1.alloc (.cells (rdCells b off len cap (charBegin z) 1 (loOf z) (hiOf z)).toArray 154)) := hb1.alloc hb1.size _
  refine (more_yes w1.heap.size b off len cap _ (charBegin z) (loOf z) (hiOf z) 1 _ B0 hl hcap zs hlen (hat.later hb2 hat.1) (by have := k1.1; omega) k1.2).mono ?_
  rintro e w3 ⟨rfl, B1, g1⟩
  have hb3 := hb2.grown g1 hb2.size (by rintro _ ⟨⟩; exact hb1.size)
  have q1 := B1.cell 1 _ rfl
  have q2 := B1.cell 2 _ rfl
  go_wp2_with fail
  go_quiet (fail)
  go_wp2
  go_ret3
  exact ⟨by rw [HP.out]; exact ret_read rfl rfl rfl, below_drewN hb3 _⟩

set_option maxRecDepth 100000 in
set_option maxHeartbeats 1000000 in
theorem read_3_1    (b off len cap : Nat) (zs : List Int) (w : World) (hlen : zs.length = len) (h1 : 1 ≤ len) (hl : len ≤ cap) (hcap : cap ≤ maxLen)
    (hat : At w .u8 b off zs) (hz : U8 zs) (hr : (224 : Int) ≤ zs[0]?.getD 0 ∧ zs[0]?.getD 0 ≤ 239) (k1 : ¬ goesOn zs 1 (loOf (zs[0]?.getD 0)) (hiOf (zs[0]?.getD 0))) :
    Calls Try.prog 103 #[.slice (some ⟨b, off, none⟩) len cap] w (ReadPost zs w) := by
  have hc := hat.2 0 (by omega)
  have hz0 := hz.at 0
  rw [Nat.add_zero] at hc
  have HP : Hid (readF zs = (0, 1, false)) := by show readF zs = _; unfold readF; rw [if_neg (by omega), if_pos (by omega), if_pos k1]
  generalize zs[0]?.getD 0 = z at *
  obtain ⟨hr1, hr2⟩ := hr
  go_enter Try.func103, Try.ntmps103
  go_wp2_with fail
  refine (begin_any b off len cap z w h1 hz0 hc).mono ?_
  rintro e w1 ⟨rfl, hb1⟩
  simp only [rdCells, show ((1 : Nat) : Int) = 1 from rfl]
  have hc1 := (hb1.cell (p := ⟨b, off, none⟩) hat.1).trans hc
  have hbl : b < w1.heap.size := Nat.lt_of_lt_of_le hat.1 hb1.size
  go_wp2_with fail
  have B0 : Blk (w1.alloc (.cells (rdCells b off len cap (charBegin z) 1 (loOf z) (hiOf z)).toArray 154)) w1.heap.size (rdCells b off len cap (charBegin z) 1 (loOf z) (hiOf z)) 154 := Blk.alloc _ _
  have hb2 : Below w.heap.size w (w1.alloc (.cells (rdCells b off len cap (charBegin z) 1 (loOf z) (hiOf z)).toArray 154)) := hb1.alloc hb1.size _
  refine (more_no w1.heap.size b off len cap _ (charBegin z) (loOf z) (hiOf z) 1 _ B0 hl hcap zs hlen (hat.later hb2 hat.1) (by omega) (by rw [← hlen]; exact k1)).mono ?_
  rintro e w3 ⟨rfl, B1, g1⟩
  have hb3 := hb2.grown g1 hb2.size (by rintro _ ⟨⟩; exact hb1.size)
  have q2 := B1.cell 2 _ rfl
  go_wp2_with fail
  go_quiet (fail)
  go_wp2
  go_ret3
  exact ⟨by rw [HP.out]; exact ret_read rfl rfl rfl, below_drewN hb3 _⟩

set_option maxRecDepth 100000 in
set_option maxHeartbeats 1000000 in
theorem read_3_2    (b off len cap : Nat) (zs : List Int) (w : World) (hlen : zs.length = len) (h1 : 1 ≤ len) (hl : len ≤ cap) (hcap : cap ≤ maxLen)
    (hat : At w .u8 b off zs) (hz : U8 zs) (hr : (224 : Int) ≤ zs[0]?.getD 0 ∧ zs[0]?.getD 0 ≤ 239) (k1 : goesOn zs 1 (loOf (zs[0]?.getD 0)) (hiOf (zs[0]?.getD 0))) (k2 : ¬ goesOn zs 2 128 191) :
    Calls Try.prog 103 #[.slice (some ⟨b, off, none⟩) len cap] w (ReadPost zs w) := by
  have hc := hat.2 0 (by omega)
  have hz0 := hz.at 0
  rw [Nat.add_zero] at hc
  have HP : Hid (readF zs = (0, 2, false)) := by show readF zs = _; unfold readF; rw [if_neg (by omega), if_pos (by omega), if_neg (not_not_intro k1), if_neg (by omega), if_pos k2]
  generalize zs[0]?.getD 0 = z at *
  obtain ⟨hr1, hr2⟩ := hr
  go_enter Try.func103, Try.ntmps103
  go_wp2_with fail
  refine (begin_any b off len cap z w h1 hz0 hc).mono ?_
  rintro e w1 ⟨rfl, hb1⟩
  simp only [rdCells, show ((1 : Nat) : Int) = 1 from rfl]
  have hc1 := (hb1.cell (p := ⟨b, off, none⟩) hat.1).trans hc
  have hbl : b < w1.heap.size := Nat.lt_of_lt_of_le hat.1 hb1.size
  go_wp2_with fail
  have B0 : Blk (w1.alloc (.cells (rdCells b off len cap (charBegin z) 1 (loOf z) (hiOf z)).toArray 154)) w1.heap.size (rdCells b off len cap (charBegin z) 1 (loOf z) (hiOf z)) 154 := Blk.alloc _ _
  have hb2 : Below w.heap.size w (w1.alloc (.cells (rdCells b off len cap (charBegin z) 1 (loOf z) (hiOf z)).toArray 154)) := hb1.alloc hb1.size _
  refine (more_yes w1.heap.size b off len cap _ (charBegin z) (loOf z) (hiOf z) 1 _ B0 hl hcap zs hlen (hat.later hb2 hat.1) (by have := k1.1; omega) k1.2).mono ?_
  rintro e w3 ⟨rfl, B1, g1⟩
  have hb3 := hb2.grown g1 hb2.size (by rintro _ ⟨⟩; exact hb1.size)
  go_wp2_with fail
  refine (more_no w1.heap.size b off len cap _ (charNext (charBegin z) (zs[1]?.getD 0)) 128 191 2 _ B1 hl hcap zs hlen (hat.later hb3 hat.1) (by have := k1.1; omega) (by rw [← hlen]; exact k2)).mono ?_
  rintro e w4 ⟨rfl, B2, g2⟩
  have hb4 := hb3.grown g2 hb3.size (by rintro _ ⟨⟩; exact hb1.size)
  have q2 := B2.cell 2 _ rfl
  go_wp2_with fail
  go_quiet (fail)
  go_wp2
  go_ret3
  exact ⟨by rw [HP.out]; exact ret_read rfl rfl rfl, below_drewN hb4 _⟩

set_option maxRecDepth 100000 in
set_option maxHeartbeats 1000000 in
theorem read_3_3    (b off len cap : Nat) (zs : List Int) (w : World) (hlen : zs.length = len) (h1 : 1 ≤ len) (hl : len ≤ cap) (hcap : cap ≤ maxLen)
    (hat : At w .u8 b off zs) (hz : U8 zs) (hr : (224 : Int) ≤ zs[0]?.getD 0 ∧ zs[0]?.getD 0 ≤ 239) (k1 : goesOn zs 1 (loOf (zs[0]?.getD 0)) (hiOf (zs[0]?.getD 0))) (k2 : goesOn zs 2 128 191) :
    Calls Try.prog 103 #[.slice (some ⟨b, off, none⟩) len cap] w (ReadPost zs w) := by
  have hc := hat.2 0 (by omega)
  have hz0 := hz.at 0
  rw [Nat.add_zero] at hc
  have HP : Hid (readF zs = (charNext (charNext (charBegin (zs[0]?.getD 0)) (zs[1]?.getD 0)) (zs[2]?.getD 0), 3, true)) := by show readF zs = _; unfold readF; rw [if_neg (by omega), if_pos (by omega), if_neg (not_not_intro k1), if_neg (by omega), if_neg (not_not_intro k2), if_pos (by omega)]
  generalize zs[0]?.getD 0 = z at *
  obtain ⟨hr1, hr2⟩ := hr
  go_enter Try.func103, Try.ntmps103
  go_wp2_with fail
  refine (begin_any b off len cap z w h1 hz0 hc).mono ?_
  rintro e w1 ⟨rfl, hb1⟩
  simp only [rdCells, show ((1 : Nat) : Int) = 1 from rfl]
  have hc1 := (hb1.cell (p := ⟨b, off, none⟩) hat.1).trans hc
  have hbl : b < w1.heap.size := Nat.lt_of_lt_of_le hat.1 hb1.size
  go_wp2_with fail
  have B0 : Blk (w1.alloc (.cells (rdCells b off len cap (charBegin z) 1 (loOf z) (hiOf z)).toArray 154)) w1.heap.size (rdCells b off len cap (charBegin z) 1 (loOf z) (hiOf z)) 154 := Blk.alloc _ _
  have hb2 : Below w.heap.size w (w1.alloc (.cells (rdCells b off len cap (charBegin z) 1 (loOf z) (hiOf z)).toArray 154)) := hb1.alloc hb1.size _
  refine (more_yes w1.heap.size b off len cap _ (charBegin z) (loOf z) (hiOf z) 1 _ B0 hl hcap zs hlen (hat.later hb2 hat.1) (by have := k1.1; omega) k1.2).mono ?_
  rintro e w3 ⟨rfl, B1, g1⟩
  have hb3 := hb2.grown g1 hb2.size (by rintro _ ⟨⟩; exact hb1.size)
  go_wp2_with fail
  refine (more_yes w1.heap.size b off len cap _ (charNext (charBegin z) (zs[1]?.getD 0)) 128 191 2 _ B1 hl hcap zs hlen (hat.later hb3 hat.1) (by have := k2.1; omega) k2.2).mono ?_
  rintro e w4 ⟨rfl, B2, g2⟩
  have hb4 := hb3.grown g2 hb3.size (by rintro _ ⟨⟩; exact hb1.size)
  have q1 := B2.cell 1 _ rfl
  have q2 := B2.cell 2 _ rfl
  go_wp2_with fail
  go_quiet (fail)
  go_wp2
  go_ret3
  exact ⟨by rw [HP.out]; exact ret_read rfl rfl rfl, below_drewN hb4 _⟩

set_option maxRecDepth 100000 in
set_option maxHeartbeats 1000000 in
theorem read_4_1    (b off len cap : Nat) (zs : List Int) (w : World) (hlen : zs.length = len) (h1 : 1 ≤ len) (hl : len ≤ cap) (hcap : cap ≤ maxLen)
    (hat : At w .u8 b off zs) (hz : U8 zs) (hr : (240 : Int) ≤ zs[0]?.getD 0 ∧ zs[0]?.getD 0 ≤ 244) (k1 : ¬ goesOn zs 1 (loOf (zs[0]?.getD 0)) (hiOf (zs[0]?.getD 0))) :
    Calls Try.prog 103 #[.slice (some ⟨b, off, none⟩) len cap] w (ReadPost zs w) := by
  have hc := hat.2 0 (by omega)
  have hz0 := hz.at 0
  rw [Nat.add_zero] at hc
  have HP : Hid (readF zs = (0, 1, false)) := by show readF zs = _; unfold readF; rw [if_neg (by omega), if_pos (by omega), if_pos k1]
  generalize zs[0]?.getD 0 = z at *
  obtain ⟨hr1, hr2⟩ := hr
  go_enter Try.func103, Try.ntmps103
  go_wp2_with fail
  refine (begin_any b off len cap z w h1 hz0 hc).mono ?_
  rintro e w1 ⟨rfl, hb1⟩
  simp only [rdCells, show ((1 : Nat) : Int) = 1 from rfl]
  have hc1 := (hb1.cell (p := ⟨b, off, none⟩) hat.1).trans hc
  have hbl : b < w1.heap.size := Nat.lt_of_lt_of_le hat.1 hb1.size
  go_wp2_with fail
  have B0 : Blk (w1.alloc (.cells (rdCells b off len cap (charBegin z) 1 (loOf z) (hiOf z)).toArray 154)) w1.heap.size (rdCells b off len cap (charBegin z) 1 (loOf z) (hiOf z)) 154 := Blk.alloc _ _
  have hb2 : Below w.heap.size w (w1.alloc (.cells (rdCells b off len cap (charBegin z) 1 (loOf z) (hiOf z)).toArray 154)) := hb1.alloc hb1.size _
  refine (more_no w1.heap.size b off len cap _ (charBegin z) (loOf z) (hiOf z) 1 _ B0 hl hcap zs hlen (hat.later hb2 hat.1) (by omega) (by rw [← hlen]; exact k1)).mono ?_
  rintro e w3 ⟨rfl, B1, g1⟩
  have hb3 := hb2.grown g1 hb2.size (by rintro _ ⟨⟩; exact hb1.size)
  have q2 := B1.cell 2 _ rfl
  go_wp2_with fail
  go_quiet (fail)
  go_wp2
  go_ret3
  exact ⟨by rw [HP.out]; exact ret_read rfl rfl rfl, below_drewN hb3 _⟩

set_option maxRecDepth 100000 in
set_option maxHeartbeats 1000000 in
theorem read_4_2    (b off len cap : Nat) (zs : List Int) (w : World) (hlen : zs.length = len) (h1 : 1 ≤ len) (hl : len ≤ cap) (hcap : cap ≤ maxLen)
    (hat : At w .u8 b off zs) (hz : U8 zs) (hr : (240 : Int) ≤ zs[0]?.getD 0 ∧ zs[0]?.getD 0 ≤ 244) (k1 : goesOn zs 1 (loOf (zs[0]?.getD 0)) (hiOf (zs[0]?.getD 0))) (k2 : ¬ goesOn zs 2 128 191) :
    Calls Try.prog 103 #[.slice (some ⟨b, off, none⟩) len cap] w (ReadPost zs w) := by
  have hc := hat.2 0 (by omega)
  have hz0 := hz.at 0
  rw [Nat.add_zero] at hc
  have HP : Hid (readF zs = (0, 2, false)) := by show readF zs = _; unfold readF; rw [if_neg (by omega), if_pos (by omega), if_neg (not_not_intro k1), if_neg (by omega), if_pos k2]
  generalize zs[0]?.getD 0 = z at *
  obtain ⟨hr1, hr2⟩ := hr
  go_enter Try.func103, Try.ntmps103
  go_wp2_with fail
  refine (begin_any b off len cap z w h1 hz0 hc).mono ?_
  rintro e w1 ⟨rfl, hb1⟩
  simp only [rdCells, show ((1 : Nat) : Int) = 1 from rfl]
  have hc1 := (hb1.cell (p := ⟨b, off, none⟩) hat.1).trans hc
  have hbl : b < w1.heap.size := Nat.lt_of_lt_of_le hat.1 hb1.size
  go_wp2_with fail
  have B0 : Blk (w1.alloc (.cells (rdCells b off len cap (charBegin z) 1 (loOf z) (hiOf z)).toArray 154)) w1.heap.size (rdCells b off len cap (charBegin z) 1 (loOf z) (hiOf z)) 154 := Blk.alloc _ _
  have hb2 : Below w.heap.size w (w1.alloc (.cells (rdCells b off len cap (charBegin z) 1 (loOf z) (hiOf z)).toArray 154)) := hb1.alloc hb1.size _
  refine (more_yes w1.heap.size b off len cap _ (charBegin z) (loOf z) (hiOf z) 1 _ B0 hl hcap zs hlen (hat.later hb2 hat.1) (by have := k1.1; omega) k1.2).mono ?_
  rintro e w3 ⟨rfl, B1, g1⟩
  have hb3 := hb2.grown g1 hb2.size (by rintro _ ⟨⟩; exact hb1.size)
  go_wp2_with fail
  refine (more_no w1.heap.size b off len cap _ (charNext (charBegin z) (zs[1]?.getD 0)) 128 191 2 _ B1 hl hcap zs hlen (hat.later hb3 hat.1) (by have := k1.1; omega) (by rw [← hlen]; exact k2)).mono ?_
  rintro e w4 ⟨rfl, B2, g2⟩
  have hb4 := hb3.grown g2 hb3.size (by rintro _ ⟨⟩; exact hb1.size)
  have q2 := B2.cell 2 _ rfl
  go_wp2_with fail
  go_quiet (fail)
  go_wp2
  go_ret3
  exact ⟨by rw [HP.out]; exact ret_read rfl rfl rfl, below_drewN hb4 _⟩

set_option maxRecDepth 100000 in
set_option maxHeartbeats 1000000 in
theorem read_4_3    (b off len cap : Nat) (zs : List Int) (w : World) (hlen : zs.length = len) (h1 : 1 ≤ len) (hl : len ≤ cap) (hcap : cap ≤ maxLen)
    (hat : At w .u8 b off zs) (hz : U8 zs) (hr : (240 : Int) ≤ zs[0]?.getD 0 ∧ zs[0]?.getD 0 ≤ 244) (k1 : goesOn zs 1 (loOf (zs[0]?.getD 0)) (hiOf (zs[0]?.getD 0))) (k2 : goesOn zs 2 128 191) (k3 : ¬ goesOn zs 3 128 191) :
    Calls Try.prog 103 #[.slice (some ⟨b, off, none⟩) len cap] w (ReadPost zs w) := by
  have hc := hat.2 0 (by omega)
  have hz0 := hz.at 0
  rw [Nat.add_zero] at hc
  have HP : Hid (readF zs = (0, 3, false)) := by show readF zs = _; unfold readF; rw [if_neg (by omega), if_pos (by omega), if_neg (not_not_intro k1), if_neg (by omega), if_neg (not_not_intro k2), if_neg (by omega), if_pos k3]
  generalize zs[0]?.getD 0 = z at *
  obtain ⟨hr1, hr2⟩ := hr
  go_enter Try.func103, Try.ntmps103
  go_wp2_with fail
  refine (begin_any b off len cap z w h1 hz0 hc).mono ?_
  rintro e w1 ⟨rfl, hb1⟩
  simp only [rdCells, show ((1 : Nat) : Int) = 1 from rfl]
  have hc1 := (hb1.cell (p := ⟨b, off, none⟩) hat.1).trans hc
  have hbl : b < w1.heap.size := Nat.lt_of_lt_of_le hat.1 hb1.size
  go_wp2_with fail
  have B0 : Blk (w1.alloc (.cells (rdCells b off len cap (charBegin z) 1 (loOf z) (hiOf z)).toArray 154)) w1.heap.size (rdCells b off len cap (charBegin z) 1 (loOf z) (hiOf z)) 154 := Blk.alloc _ _
  have hb2 : Below w.heap.size w (w1.alloc (.cells (rdCells b off len cap (charBegin z) 1 (loOf z) (hiOf z)).toArray 154)) := hb1.alloc hb1.size _
  refine (more_yes w1.heap.size b off len cap _ (charBegin z) (loOf z) (hiOf z) 1 _ B0 hl hcap zs hlen (hat.later hb2 hat.1) (by have := k1.1; omega) k1.2).mono ?_
  rintro e w3 ⟨rfl, B1, g1⟩
  have hb3 := hb2.grown g1 hb2.size (by rintro _ ⟨⟩; exact hb1.size)
  go_wp2_with fail
  refine (more_yes w1.heap.size b off len cap _ (charNext (charBegin z) (zs[1]?.getD 0)) 128 191 2 _ B1 hl hcap zs hlen (hat.later hb3 hat.1) (by have := k2.1; omega) k2.2).mono ?_
  rintro e w4 ⟨rfl, B2, g2⟩
  have hb4 := hb3.grown g2 hb3.size (by rintro _ ⟨⟩; exact hb1.size)
  go_wp2_with fail
  refine (more_no w1.heap.size b off len cap _ (charNext (charNext (charBegin z) (zs[1]?.getD 0)) (zs[2]?.getD 0)) 128 191 3 _ B2 hl hcap zs hlen (hat.later hb4 hat.1) (by have := k2.1; omega) (by rw [← hlen]; exact k3)).mono ?_
  rintro e w5 ⟨rfl, B3, g3⟩
  have hb5 := hb4.grown g3 hb4.size (by rintro _ ⟨⟩; exact hb1.size)
  have q2 := B3.cell 2 _ rfl
  go_wp2_with fail
  go_quiet (fail)
  go_wp2
  go_ret3
  exact ⟨by rw [HP.out]; exact ret_read rfl rfl rfl, below_drewN hb5 _⟩

set_option maxRecDepth 100000 in
set_option maxHeartbeats 1000000 in
theorem read_4_4    (b off len cap : Nat) (zs : List Int) (w : World) (hlen : zs.length = len) (h1 : 1 ≤ len) (hl : len ≤ cap) (hcap : cap ≤ maxLen)
    (hat : At w .u8 b off zs) (hz : U8 zs) (hr : (240 : Int) ≤ zs[0]?.getD 0 ∧ zs[0]?.getD 0 ≤ 244) (k1 : goesOn zs 1 (loOf (zs[0]?.getD 0)) (hiOf (zs[0]?.getD 0))) (k2 : goesOn zs 2 128 191) (k3 : goesOn zs 3 128 191) :
    Calls Try.prog 103 #[.slice (some ⟨b, off, none⟩) len cap] w (ReadPost zs w) := by
  have hc := hat.2 0 (by omega)
  have hz0 := hz.at 0
  rw [Nat.add_zero] at hc
  have HP : Hid (readF zs = (charNext (charNext (charNext (charBegin (zs[0]?.getD 0)) (zs[1]?.getD 0)) (zs[2]?.getD 0)) (zs[3]?.getD 0), 4, true)) := by show readF zs = _; unfold readF; rw [if_neg (by omega), if_pos (by omega), if_neg (not_not_intro k1), if_neg (by omega), if_neg (not_not_intro k2), if_neg (by omega), if_neg (not_not_intro k3)]
  generalize zs[0]?.getD 0 = z at *
  obtain ⟨hr1, hr2⟩ := hr
  go_enter Try.func103, Try.ntmps103
  go_wp2_with fail
  refine (begin_any b off len cap z w h1 hz0 hc).mono ?_
  rintro e w1 ⟨rfl, hb1⟩
  simp only [rdCells, show ((1 : Nat) : Int) = 1 from rfl]
  have hc1 := (hb1.cell (p := ⟨b, off, none⟩) hat.1).trans hc
  have hbl : b < w1.heap.size := Nat.lt_of_lt_of_le hat.1 hb1.size
  go_wp2_with fail
  have B0 : Blk (w1.alloc (.cells (rdCells b off len cap (charBegin z) 1 (loOf z) (hiOf z)).toArray 154)) w1.heap.size (rdCells b off len cap (charBegin z) 1 (loOf z) (hiOf z)) 154 := Blk.alloc _ _
  have hb2 : Below w.heap.size w (w1.alloc (.cells (rdCells b off len cap (charBegin z) 1 (loOf z) (hiOf z)).toArray 154)) := hb1.alloc hb1.size _
  refine (more_yes w1.heap.size b off len cap _ (charBegin z) (loOf z) (hiOf z) 1 _ B0 hl hcap zs hlen (hat.later hb2 hat.1) (by have := k1.1; omega) k1.2).mono ?_
  rintro e w3 ⟨rfl, B1, g1⟩
  have hb3 := hb2.grown g1 hb2.size (by rintro _ ⟨⟩; exact hb1.size)
  go_wp2_with fail
  refine (more_yes w1.heap.size b off len cap _ (charNext (charBegin z) (zs[1]?.getD 0)) 128 191 2 _ B1 hl hcap zs hlen (hat.later hb3 hat.1) (by have := k2.1; omega) k2.2).mono ?_
  rintro e w4 ⟨rfl, B2, g2⟩
  have hb4 := hb3.grown g2 hb3.size (by rintro _ ⟨⟩; exact hb1.size)
  go_wp2_with fail
  refine (more_yes w1.heap.size b off len cap _ (charNext (charNext (charBegin z) (zs[1]?.getD 0)) (zs[2]?.getD 0)) 128 191 3 _ B2 hl hcap zs hlen (hat.later hb4 hat.1) (by have := k3.1; omega) k3.2).mono ?_
  rintro e w5 ⟨rfl, B3, g3⟩
  have hb5 := hb4.grown g3 hb4.size (by rintro _ ⟨⟩; exact hb1.size)
  have q1 := B3.cell 1 _ rfl
  have q2 := B3.cell 2 _ rfl
  go_wp2_with fail
  go_quiet (fail)
  go_wp2
  go_ret3
  exact ⟨by rw [HP.out]; exact ret_read rfl rfl rfl, below_drewN hb5 _⟩

/-- What read does with any bytes that are not none. -/
theorem read_any (b off len cap : Nat) (zs : List Int) (w : World) (hlen : zs.length = len) (h1 : 1 ≤ len) (hl : len ≤ cap) (hcap : cap ≤ maxLen)
    (hat : At w .u8 b off zs) (hz : U8 zs) : Calls Try.prog 103 #[.slice (some ⟨b, off, none⟩) len cap] w (ReadPost zs w) := by
  by_cases c0 : zs[0]?.getD 0 < 128
  · exact read_low b off len cap zs w hlen h1 hl hcap hat hz c0
  by_cases c1 : (194 : Int) ≤ zs[0]?.getD 0 ∧ zs[0]?.getD 0 ≤ 244
  · by_cases k1 : goesOn zs 1 (loOf (zs[0]?.getD 0)) (hiOf (zs[0]?.getD 0))
    · by_cases c2 : zs[0]?.getD 0 ≤ 223
      · exact read_2_2 b off len cap zs w hlen h1 hl hcap hat hz ⟨c1.1, c2⟩ k1
      by_cases k2 : goesOn zs 2 128 191
      · by_cases c3 : zs[0]?.getD 0 ≤ 239
        · exact read_3_3 b off len cap zs w hlen h1 hl hcap hat hz ⟨by omega, c3⟩ k1 k2
        by_cases k3 : goesOn zs 3 128 191
        · exact read_4_4 b off len cap zs w hlen h1 hl hcap hat hz ⟨by omega, c1.2⟩ k1 k2 k3
        · exact read_4_3 b off len cap zs w hlen h1 hl hcap hat hz ⟨by omega, c1.2⟩ k1 k2 k3
      · by_cases c3 : zs[0]?.getD 0 ≤ 239
        · exact read_3_2 b off len cap zs w hlen h1 hl hcap hat hz ⟨by omega, c3⟩ k1 k2
        · exact read_4_2 b off len cap zs w hlen h1 hl hcap hat hz ⟨by omega, c1.2⟩ k1 k2
    · by_cases c2 : zs[0]?.getD 0 ≤ 223
      · exact read_2_1 b off len cap zs w hlen h1 hl hcap hat hz ⟨c1.1, c2⟩ k1
      by_cases c3 : zs[0]?.getD 0 ≤ 239
      · exact read_3_1 b off len cap zs w hlen h1 hl hcap hat hz ⟨by omega, c3⟩ k1
      · exact read_4_1 b off len cap zs w hlen h1 hl hcap hat hz ⟨by omega, c1.2⟩ k1
  · exact read_wrong b off len cap zs w hlen h1 hl hcap hat hz (by omega)
end Go.Proofs.Ytfgnepbpfglepaa
