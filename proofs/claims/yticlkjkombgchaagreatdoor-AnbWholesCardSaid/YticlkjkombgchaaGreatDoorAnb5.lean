/- The document's examples on An+B, and the statement AnbHas: walks. -/
import Derived.Test.YticlkjkombgchaaGreatDoorAnb4
import Derived.Test.YticlkjkombgchaaGreatDoorHas
namespace Go.Proofs.YticlkjkombgchaaGreatDoor
open Go.RowKit

set_option maxRecDepth 100000 in
set_option maxHeartbeats 2000000 in
theorem parse_0 (a : Option Addr) (cap : Nat) (w : World) (h : ReadsT w a cap T0) (hE : HasER w) :
    Calls Tryz.prog 18 #[.slice a 6 cap] w (Told (.tuple #[.int .i64 2, .int .i64 1, .int .i64 5, .nilIface]) w) := by
  have hlt : 0 < w.heap.size := by obtain ⟨t, p, hc⟩ := hE; exact World.block_lt_of_cell? w _ hc
  have HE := Lib.hid hE; clear hE
  go_enter Tryz.func18, Tryz.ntmps18
  go_wp2_with fail
  refine (find_0 _ _ _ h).mono ?_
  rintro e w1 ⟨rfl, hb1⟩
  go_wp2_with fail
  have hbA := hb1.alloc hb1.size (.cells [.string ⟨#[50]⟩, .string ⟨#[43, 49]⟩, .int .i64 5].toArray 60)
  have BA : Blk (w1.alloc (.cells [.string ⟨#[50]⟩, .string ⟨#[43, 49]⟩, .int .i64 5].toArray 60)) w1.heap.size [.string ⟨#[50]⟩, .string ⟨#[43, 49]⟩, .int .i64 5] 60 := Blk.alloc _ _
  have hzA : (w1.alloc (.cells [.string ⟨#[50]⟩, .string ⟨#[43, 49]⟩, .int .i64 5].toArray 60)).heap.size = w1.heap.size + 1 := by simp
  refine (wholeA_2 _ (HE.out.below hbA hlt)).mono ?_
  rintro e w2 ⟨rfl, hb2⟩
  have B2 := BA.later hb2 (by omega)
  have hbw2 := hbA.trans (hb2.mono (by have := hb1.size; omega))
  have hz2 := hb2.size
  have c1 := B2.cell 1 _ rfl
  clear BA hb2
  go_wp2_with fail
  refine (wholeA_p1 _ (HE.out.below hbw2 hlt)).mono ?_
  rintro e w3 ⟨rfl, hb3⟩
  have B3 := B2.later hb3 (by omega)
  have hbw3 := hbw2.trans (hb3.mono hbw2.size)
  have c2 := B3.cell 2 _ rfl
  have hi := fun w => is_nil_any 54 (.int .i64 3) w
  clear c1 B2 hb3
  go_wp2_with (go_at_call 38; refine (hi _).mono ?_; rintro e wq ⟨rfl, hwq⟩; replace hwq := hwq.symm; subst hwq)
  go_quiet (fail)
  go_wp2
  refine bodyPost_ret (v := .tuple #[.int .i64 2, .int .i64 1, .int .i64 5, .nilIface]) (by simp [results, Tryz.results18, go_sem]) rfl ⟨rfl, below_drewN hbw3 _⟩

theorem freeze_new (w : World) (C : Array Value) (e : TypeId) (m : Nat) : (w.alloc (.cells C e)).freeze ⟨w.heap.size, m, none⟩ 1 = w.alloc (.cells C e (m, m + 1)) := by
  have hm : ∀ (a : Array Obj) (x : Obj) (f : Obj → Obj), (a.push x).modify a.size f = a.push (f x) := by
    intro a x f
    apply Array.ext
    · simp
    · intro i h1 h2
      simp only [Array.getElem_modify, Array.getElem_push]
      by_cases h : a.size = i
      · subst h
        simp
      · have hi : i < a.size := by simp at h1; omega
        simp [h, hi]
  unfold World.freeze
  rw [if_neg (by decide)]
  show ({ w.alloc (.cells C e) with heap := (w.heap.push (.cells C e)).modify w.heap.size _ } : World) = _
  rw [hm]
  rfl
theorem conv_bytes (w : World) (C : Array Value) (n c : Nat) : (convert 22 22 (.slice (some ⟨w.heap.size, 0, none⟩) n c)).run Tryz.prog (w.alloc (.cells C 5)) = .ok (.slice (some ⟨w.heap.size, 0, none⟩) n c) (w.alloc (.cells C 5 (C.size, C.size + 1))) := by
  have hsh : (w.alloc (.cells C 5)).shape? w.heap.size = some (5, C.size) := by
    have : (w.alloc (.cells C 5)).heap[w.heap.size]? = some (.cells C 5) := by
      show (w.heap.push (.cells C 5))[w.heap.size]? = _
      simp
    unfold World.shape?
    rw [this]
  simp [convert, run_underlying Tryz.underlying22, run_underlying Tryz.underlying5, markStringish, hsh, freeze_new]
/-- A block of numbers, marked as a string's bytes. -/
theorem reads_marked (w : World) (k : IntKind) (zs : List Int) (T : TypeId) (m : Nat × Nat) (n : Nat) (hn : zs.length = n) (hm : n ≤ maxLen) : Reads (w.alloc (.cells (zs.map (Value.int k)).toArray T m)) k (some ⟨w.heap.size, 0, none⟩) n zs := by
  subst hn
  refine ⟨Nat.le_refl _, hm, .inr ⟨_, _, rfl, by simp, fun j hj => ?_⟩⟩
  have hh := heap_alloc_new w (.cells (zs.map (Value.int k)).toArray T m)
  rw [Nat.zero_add]
  simp only [World.cell?, hh]
  simp [List.getElem?_eq_getElem hj]
theorem plain0 : PlainL [50, 110, 32, 43, 32, 49] := by
  intro c hc
  simp only [List.mem_cons, List.not_mem_nil, or_false] at hc
  rcases hc with rfl | rfl | rfl | rfl | rfl | rfl <;> decide
theorem prep0 : prepF (charsF [50, 110, 32, 43, 32, 49]) = [50, 110, 32, 43, 32, 49] := by decide +kernel
theorem chars0 : charsF [50, 110, 32, 43, 32, 49] = [50, 110, 32, 43, 32, 49] := by decide +kernel

set_option maxRecDepth 100000 in
set_option maxHeartbeats 2000000 in
theorem speaks4_any (w : World) (hE : HasER w) : Calls Tryz.prog 17 #[] w (Told (.bool true) w) := by
  have hlt : 0 < w.heap.size := by obtain ⟨t, p, hc⟩ := hE; exact World.block_lt_of_cell? w _ hc
  have HE := Lib.hid hE; clear hE
  have hr0 := reads_marked w .u8 [50, 110, 32, 43, 32, 49] 5 (6, 7) 6 rfl (by unfold maxLen; omega)
  have hrd := rread_plain _ 6 6 [50, 110, 32, 43, 32, 49] [50, 110, 32, 43, 32, 49] _ rfl hr0 (by intro z hz; simp at hz; omega) (by omega) (by rw [chars0]; decide) (by rw [chars0]; intro z hz; simp at hz; omega) prep0 plain0 (by simp) (by decide)
  have cv := conv_bytes w #[.int .u8 50, .int .u8 110, .int .u8 32, .int .u8 43, .int .u8 32, .int .u8 49] 6 6
  go_enter Tryz.func17, Tryz.ntmps17
  go_wp2_with fail
  refine hrd.mono ?_
  rintro e w1 ⟨a1, c1, rfl, hr1, hb1⟩
  rw [T0_toks] at hr1 ⊢
  have hbw1 : Below w.heap.size w w1 := ((Below.refl w.heap.size w).alloc (Nat.le_refl _) _).trans (hb1.mono (by simp))
  clear hr0 hrd hb1
  go_wp2_with fail
  refine (parse_0 a1 c1 w1 hr1 (HE.out.below hbw1 hlt)).mono ?_
  rintro e w2 ⟨rfl, hb2⟩
  have hbw2 := hbw1.trans (hb2.mono hbw1.size)
  have k1 := fun w => has_any (-1) 3 1 w (by omega) (by omega) (by omega)
  have k2 := fun w => has_any (-1) 3 2 w (by omega) (by omega) (by omega)
  have k3 := fun w => has_any (-1) 3 3 w (by omega) (by omega) (by omega)
  have k4 := fun w => has_any (-1) 3 4 w (by omega) (by omega) (by omega)
  rw [show hasF (-1) 3 1 = true from by decide] at k1
  rw [show hasF (-1) 3 2 = true from by decide] at k2
  rw [show hasF (-1) 3 3 = true from by decide] at k3
  rw [show hasF (-1) 3 4 = false from by decide] at k4
  go_wp2_with ((first | (go_at_call 26; with_reducible refine (k1 _).mono ?_) | (go_at_call 26; with_reducible refine (k2 _).mono ?_) | (go_at_call 26; with_reducible refine (k3 _).mono ?_) | (go_at_call 26; with_reducible refine (k4 _).mono ?_)); rintro e wq ⟨rfl, hwq⟩; replace hwq := hwq.symm; subst hwq)
  go_ret
  exact ⟨rfl, hbw2⟩

set_option maxRecDepth 100000 in
set_option maxHeartbeats 2000000 in
theorem lawHas_any (a b n : Int) (w : World) (hE : HasER w) (ha : -9223372036854775808 ≤ a ∧ a ≤ 9223372036854775807) (hb : -9223372036854775808 ≤ b ∧ b ≤ 9223372036854775807) (hn : -9223372036854775808 ≤ n ∧ n ≤ 9223372036854775807) :
    Calls Tryz.prog 7 #[.int .i64 a, .int .i64 b, .int .i64 n] w (Told (.bool true) w) := by
  have hS := speaks4_any w hE
  clear hE
  by_cases h1 : a < -1099511627776
  · go_enter Tryz.func7, Tryz.ntmps7
    go_wp2_with fail
    refine hS.mono ?_
    rintro e w1 ⟨rfl, hb1⟩
    go_wp2
    go_ret
    exact ⟨rfl, hb1⟩
  · by_cases h2 : 1099511627776 < a
    · go_enter Tryz.func7, Tryz.ntmps7
      go_wp2_with fail
      refine hS.mono ?_
      rintro e w1 ⟨rfl, hb1⟩
      go_wp2
      go_ret
      exact ⟨rfl, hb1⟩
    · by_cases h3 : b < -1099511627776
      · go_enter Tryz.func7, Tryz.ntmps7
        go_wp2_with fail
        refine hS.mono ?_
        rintro e w1 ⟨rfl, hb1⟩
        go_wp2
        go_ret
        exact ⟨rfl, hb1⟩
      · by_cases h4 : 1099511627776 < b
        · go_enter Tryz.func7, Tryz.ntmps7
          go_wp2_with fail
          refine hS.mono ?_
          rintro e w1 ⟨rfl, hb1⟩
          go_wp2
          go_ret
          exact ⟨rfl, hb1⟩
        · by_cases h5 : 1099511627776 < n
          · go_enter Tryz.func7, Tryz.ntmps7
            go_wp2_with fail
            refine hS.mono ?_
            rintro e w1 ⟨rfl, hb1⟩
            go_wp2
            go_ret
            exact ⟨rfl, hb1⟩
          · have k1 := fun w => has_any a b n w (by omega) (by omega) (by omega)
            have k2 := fun w => rhas_any a b n w (by omega) (by omega) (by omega)
            generalize hasF a b n = r at *
            go_enter Tryz.func7, Tryz.ntmps7
            go_wp2_with fail
            refine hS.mono ?_
            rintro e w1 ⟨rfl, hb1⟩
            go_wp2_with fail
            refine (k1 _).mono ?_
            rintro e wq ⟨rfl, hwq⟩; replace hwq := hwq.symm; subst hwq
            go_wp2_with fail
            refine (k2 _).mono ?_
            rintro e wq ⟨rfl, hwq⟩; replace hwq := hwq.symm; subst hwq
            go_wp2
            go_ret
            exact ⟨by cases r <;> rfl, hb1⟩
end Go.Proofs.YticlkjkombgchaaGreatDoor
