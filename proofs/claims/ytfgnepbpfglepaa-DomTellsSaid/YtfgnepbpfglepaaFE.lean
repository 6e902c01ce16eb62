/- Several texts of mine in one. -/
import Derived.Test.YtfgnepbpfglepaaFF
import Derived.Test.YtfgnepbpfglepaaDo8
import Derived.Test.YtfgnepbpfglepaaDn3
import Derived.Test.YtfgnepbpfglepaaSame
namespace Go.Proofs.Ytfgnepbpfglepaa
section
open Go.RowKit
set_option linter.unusedVariables false
set_option linter.unusedSimpArgs false

/-- What the document's Check tells. -/
def CkP (xs : List Nd) (n : Nat) (w : World) (e : Ending) (w' : World) : Prop := ∃ k at' : Int, e = .returned (.tuple #[.int .i64 k, .int .i64 at']) ∧ Below w.heap.size w w' ∧
  ((k = 0 ∧ at' = 0 ∧ RightD xs) ∨ (k = 10 ∧ ∃ j : Nat, j < n ∧ at' = (j : Int) ∧ nodeK xs j = false ∧ ∀ i, i < j → nodeK xs i = true) ∨ (k = 15 ∧ at' = (n : Int) ∧ (∀ i, i < n → nodeK xs i = true) ∧ rootsTo xs n ≠ 1))
/-- The document's Node tells as it should. -/
def NodeOK : Prop := ∀ (x : Nd) (ats : Option Addr) (m d : Nat) (sts : Option Addr) (m' d' : Nat) (xs : List Nd) (a : Option Addr) (n c : Nat) (w : World), RdN (· < w.heap.size) w a n c xs → RdA (· < w.heap.size) w ats m d x.attrs → RdS (· < w.heap.size) w sts m' d' x.states →
    x.space.size ≤ 140737488351232 → x.name.size ≤ 140737488351232 → x.text.size ≤ 140737488351232 →
    Calls Try.prog 20 #[.slice a n c, .agg #[.int .i64 x.par, .int .i64 x.kind, .string x.space, .string x.name, .slice ats m d, .slice sts m' d', .string x.text]] w (Told (.bool (nodeB xs x)) w)
theorem nodeB_par {xs : List Nd} {x : Nd} (h : nodeB xs x = true) : x.par = -1 ∨ (0 ≤ x.par ∧ x.par < xs.length ∧ (xs[x.par.toNat]?.map Nd.kind) = some 1) := by
  unfold nodeB at h
  rw [Bool.and_eq_true] at h
  have := h.1
  unfold parB at this
  simp only [Bool.or_eq_true, Bool.and_eq_true, decide_eq_true_iff] at this
  rcases this with h | ⟨⟨h1, h2⟩, h3⟩
  · exact .inl h
  · exact .inr ⟨h1, h2, h3⟩

set_option maxRecDepth 100000 in
set_option maxHeartbeats 4000000 in
theorem rcheck_of (hNode : NodeOK) (xs : List Nd) (a : Option Addr) (n c : Nat) (w : World) (hx : RdN (· < w.heap.size) w a n c xs) :
    Calls Try.prog 12 #[.slice a n c] w (CkP xs n w) := by
  have hm : n ≤ 9223372036854775807 := by have := hx.2.1; have := hx.2.2.1.1; unfold maxLen at this; omega
  have HN := Lib.hid hx.1
  have HX := Lib.hid (fun w' (hb : Below w.heap.size w w') => hx.later hb (Nat.le_refl _))
  have HND := Lib.hid hNode
  clear hx hNode
  go_enter Try.func12, Try.ntmps12
  go_wp2_with fail
  go_loopw [4, 5] (fun s4 i wr => ∃ k : Nat, k ≤ n ∧ i = .int .i64 k ∧ s4 = .int .i64 (rootsTo xs k : Nat) ∧ Hid (∀ i, i < k → nodeK xs i = true) ∧ Below w.heap.size w wr) (fun _ i _ => n - (intOf i).toNat)
  case atStart => exact ⟨0, Nat.zero_le _, rfl, rfl, Lib.hid (fun i h => by omega), Below.refl _ _⟩
  case round =>
    obtain ⟨k, hk, rfl, rfl, hq, hB⟩ := hrel
    by_cases hlt : k < n
    · have HXr := HX.out wr hB
      obtain ⟨x, hxk⟩ : ∃ x, xs[k]? = some x := ⟨_, List.getElem?_eq_getElem (by rw [← HN.out]; exact hlt)⟩
      obtain ⟨b, off, rfl, hb, x0, x1, x2, x3, ⟨a1, n1, c1, x4, hA1⟩, ⟨a2, n2, c2, x5, hS1⟩, x6, hz0, hz1, hz2⟩ := HXr.at k x hxk
      have hkI : (0 : Int) ≤ (k : Int) := by omega
      have hkI2 : (k : Int) < (n : Int) := by omega
      have hkc : k ≤ c := by have := HXr.2.1; omega
      have hnc : n ≤ c := HXr.2.1
      have hok : Hid (nodeK xs k = nodeB (xs.take k) x) := Lib.hid (by unfold nodeK; rw [hxk])
      have hnp := fun (h : nodeB (xs.take k) x = true) => nodeB_par h
      have v0 := HND.out x a1 n1 c1 a2 n2 c2 (xs.take k) (some ⟨b, off, none⟩) k c wr.drew ((show RdN (· < wr.drew.heap.size) wr.drew (some ⟨b, off, none⟩) n c xs from HXr).take k (by omega)) hA1 hS1 hz0 hz1 hz2
      have hroot : Hid (rootsTo xs (k + 1) = rootsTo xs k + (if (decide (x.kind = 1) && decide (x.par = -1)) = true then 1 else 0)) := Lib.hid (by
        show rootsTo xs k + _ = _
        unfold hit
        rw [hxk])
      have hrl := rootsTo_le xs k
      have HB := Lib.hid hB
      have HC0 := Lib.hid (And.intro hb (And.intro x0 x1))
      generalize hR0 : rootsTo xs k = R0 at *
      generalize hr : nodeB (xs.take k) x = r at *
      clear hxk hA1 hS1 hR0 HXr hz0 hz1 hz2 hr
      cases r
      · have hbad := Lib.hid (And.intro hlt hok.out)
        clear hnp hok
        go_wp2
        go_region_with (go_at_call 20; ((refine v0.mono ?_); rintro e w1 ⟨rfl, hb1⟩))
        all_goals
          have HE := Lib.hid (HB.out.trans ((((Below.refl wr.heap.size wr).drew).trans hb1).mono HB.out.size))
          go_wp2
          refine bodyPost_ret (v := .tuple #[.int .i64 10, .int .i64 k]) (by simp [results, Try.results12, go_sem]) rfl ⟨10, (k : Int), rfl, HE.out, .inr (.inl ⟨rfl, k, hbad.out.1, rfl, hbad.out.2, hq.out⟩)⟩
      · have hpar := hnp rfl
        have hst := Lib.hid (show ∀ i, i < k + 1 → nodeK xs i = true from fun i hi => by
          by_cases he : i = k
          · subst he; exact hok.out
          · exact hq.out i (by omega))
        clear hnp hq hok
        have q1 : (x.kind == 1) = decide (x.kind = 1) := rfl
        have hpd : decide (x.par < 0) = decide (x.par = -1) := by
          rw [decide_eq_decide]
          rcases hpar with h | ⟨h, _⟩
          · omega
          · omega
        clear hpar
        generalize decide (x.kind = 1) = r1 at *
        generalize hr2 : decide (x.par = -1) = r2 at *
        clear hr2
        generalize x.kind = kk at *
        generalize x.par = pp at *
        clear x0 x1
        go_wp2
        have x0 : wr.drew.cell? ⟨b, off + k * 7, none⟩ = some (.int .i64 pp) := HC0.out.2.1
        have x1 : wr.drew.cell? ⟨b, off + k * 7 + 1, none⟩ = some (.int .i64 kk) := HC0.out.2.2
        go_region_with (go_at_call 20; ((refine v0.mono ?_); rintro e w1 ⟨rfl, hb1⟩; have k0 := (hb1.cell (p := ⟨b, off + k * 7, none⟩) HC0.out.1).trans HC0.out.2.1; have k1 := (hb1.cell (p := ⟨b, off + k * 7 + 1, none⟩) HC0.out.1).trans HC0.out.2.2))
        all_goals
          have HE := Lib.hid (HB.out.trans ((((Below.refl wr.heap.size wr).drew).trans hb1).mono HB.out.size))
          clear v0 x0 x1 x2 x3 x4 x5 x6 hB hb1
          cases r2
          · go_wp2
            go_roundw
            case rel => exact ⟨k + 1, by omega, by go_num, by rw [hroot.out, Bool.and_false]; rfl, hst, HE.out⟩
            case measure => simp [intOf]; omega
          · cases r1
            · go_wp2
              go_roundw
              case rel => exact ⟨k + 1, by omega, by go_num, by rw [hroot.out]; rfl, hst, HE.out⟩
              case measure => simp [intOf]; omega
            · go_wp2
              go_roundw
              case rel => exact ⟨k + 1, by omega, by go_num, by rw [hroot.out]; first | rfl | go_num, hst, HE.out⟩
              case measure => simp [intOf]; omega
    · have hkI : ¬ (k : Int) < (n : Int) := by omega
      obtain rfl : k = n := by omega
      have HB := Lib.hid hB
      by_cases h1 : rootsTo xs k = 1
      · rw [h1]
        have HD := Lib.hid (show RightD xs from ⟨fun i hi => hq.out i (by rw [HN.out]; exact hi), by rw [← HN.out]; exact h1⟩)
        clear h1
        go_wp2
        refine bodyPost_ret (v := .tuple #[.int .i64 0, .int .i64 0]) (by simp [results, Try.results12, go_sem]) rfl ⟨0, 0, rfl, HB.out, .inl ⟨rfl, rfl, HD.out⟩⟩
      · have H1 := Lib.hid h1
        have h2 : (((rootsTo xs k : Nat) : Int) != 1) = true := by rw [bne, beq_eq_false_iff_ne.2 (by omega)]; rfl
        clear h1
        generalize hg : rootsTo xs k = R0 at h2 ⊢
        clear hg
        go_wp2
        refine bodyPost_ret (v := .tuple #[.int .i64 15, .int .i64 k]) (by simp [results, Try.results12, go_sem]) rfl ⟨15, (k : Int), rfl, HB.out, .inr (.inr ⟨rfl, rfl, hq.out, H1.out⟩)⟩
end

section
open Go.RowKit
set_option linter.unusedVariables false
set_option linter.unusedSimpArgs false

theorem hit_lt {xs : List Nd} {p : Int} {k : Nat} (h : hit xs p k = true) : k < xs.length := by
  obtain ⟨x, hx, _⟩ := hit_elim h
  exact (List.getElem?_eq_some_iff.1 hx).1
theorem roots_mono (xs : List Nd) : ∀ m k, k ≤ m → rootsTo xs k ≤ rootsTo xs m
  | 0, k, h => by rw [show k = 0 by omega]; exact Nat.le_refl _
  | m + 1, k, h => by
    by_cases he : k = m + 1
    · rw [he]; exact Nat.le_refl _
    · have := roots_mono xs m k (by omega)
      show _ ≤ rootsTo xs m + _
      omega
theorem roots_succ (xs : List Nd) (k : Nat) : rootsTo xs (k + 1) = rootsTo xs k + (if hit xs (-1) k = true then 1 else 0) := rfl
theorem rightP_of {xs : List Nd} (h : RightD xs) : RightP xs := by
  refine ⟨fun k x hx => ?_, fun j k hj hk => ?_⟩
  · have hk := (List.getElem?_eq_some_iff.1 hx).1
    have := h.1 k hk
    unfold nodeK at this
    rw [hx] at this
    rcases nodeB_par this with h1 | ⟨h1, h2, _⟩
    · exact .inl h1
    · exact .inr ⟨h1, by rw [List.length_take] at h2; omega⟩
  · have key : ∀ a b : Nat, a < b → hit xs (-1) a = true → hit xs (-1) b = true → False := fun a b hab ha hb => by
      have h1 := roots_mono xs b (a + 1) (by omega)
      have h2 := roots_mono xs xs.length (b + 1) (hit_lt hb)
      rw [roots_succ, if_pos ha] at h1
      rw [roots_succ, if_pos hb] at h2
      have := h.2
      omega
    rcases Nat.lt_trichotomy j k with h1 | h1 | h1
    · exact (key j k h1 hj hk).elim
    · exact h1
    · exact (key k j h1 hk hj).elim
theorem snoc_lt {xs : List Nd} {y : Nd} {k : Nat} (h : k < xs.length) : (xs ++ [y])[k]? = xs[k]? := List.getElem?_append_left h
theorem snoc_at {xs : List Nd} {y : Nd} : (xs ++ [y])[xs.length]? = some y := by rw [List.getElem?_append_right (Nat.le_refl _)]; simp
theorem hit_snoc {xs : List Nd} {y : Nd} {p : Int} {k : Nat} (h : k < xs.length) : hit (xs ++ [y]) p k = hit xs p k := by unfold hit; rw [snoc_lt h]
theorem desc_snoc {xs : List Nd} {y : Nd} {p : Int} : ∀ k, k ≤ xs.length → desc (xs ++ [y]) p k = desc xs p k
  | 0, _ => rfl
  | k + 1, h => by rw [desc_succ, desc_succ, hit_snoc (by omega), desc_snoc k (by omega)]
theorem roots_snoc {xs : List Nd} {y : Nd} : ∀ k, k ≤ xs.length → rootsTo (xs ++ [y]) k = rootsTo xs k
  | 0, _ => rfl
  | k + 1, h => by rw [roots_succ, roots_succ, hit_snoc (by omega), roots_snoc k (by omega)]
theorem nodeK_snoc {xs : List Nd} {y : Nd} {k : Nat} (h : k < xs.length) : nodeK (xs ++ [y]) k = nodeK xs k := by
  unfold nodeK
  rw [snoc_lt h, List.take_append_of_le_length (by omega)]
theorem rightD_snoc {xs : List Nd} {y : Nd} (h : RightD xs) (hy : nodeB xs y = true) (hp : 0 ≤ y.par) : RightD (xs ++ [y]) := by
  refine ⟨fun k hk => ?_, ?_⟩
  · rw [List.length_append] at hk
    by_cases he : k < xs.length
    · rw [nodeK_snoc he]; exact h.1 k he
    · obtain rfl : k = xs.length := by simp at hk; omega
      unfold nodeK
      rw [snoc_at]
      simp only
      rw [List.take_append_of_le_length (Nat.le_refl _), List.take_of_length_le (Nat.le_refl _)]
      exact hy
  · rw [List.length_append]
    show rootsTo (xs ++ [y]) (xs.length + 1) = 1
    rw [roots_succ, roots_snoc _ (Nat.le_refl _), h.2, if_neg]
    intro hh
    obtain ⟨x, hx, _, h2⟩ := hit_elim hh
    rw [snoc_at] at hx
    cases hx
    omega
/-- What is told of the new element. -/
theorem grown_tells {xs : List Nd} {y : Nd} (h : RightD (xs ++ [y])) (hk : y.kind = 1) (hp : y.par ≠ -1) :
    parI (xs ++ [y]) (xs.length : Int) = y.par ∧ elemB (xs ++ [y]) (xs.length : Int) = true ∧
    ((aheadI (xs ++ [y]) (xs.length : Int) = -1 ∧ rowI (xs ++ [y]) (xs.length : Int) = [xs.length]) ∨
     (∃ (j : Nat) (zs : List Nat), j < xs.length ∧ aheadI (xs ++ [y]) (xs.length : Int) = (j : Int) ∧ rowI (xs ++ [y]) (j : Int) = zs ++ [j] ∧ rowI (xs ++ [y]) (xs.length : Int) = zs ++ [j] ++ [xs.length])) := by
  have hE : elemB (xs ++ [y]) (xs.length : Int) = true := by unfold elemB; rw [atI_nat, snoc_at]; exact decide_eq_true hk
  refine ⟨by unfold parI; rw [atI_nat, snoc_at]; simp only; rw [if_pos hk], hE, ?_⟩
  have hA : aheadI (xs ++ [y]) (xs.length : Int) = aheadF (xs ++ [y]) xs.length := by unfold aheadI; rw [hE, if_pos rfl, Int.toNat_natCast]
  have hRow : rowI (xs ++ [y]) (xs.length : Int) = (desc (xs ++ [y]) y.par xs.length).reverse ++ [xs.length] := by
    unfold rowI
    rw [hE, if_pos rfl, Int.toNat_natCast]
    unfold rowF
    rw [snoc_at]
    simp only
    rw [if_pos hk, desc_succ, if_pos (hit_of snoc_at hk), List.reverse_cons]
  rw [hA, hRow]
  rcases ahead_step (rightP_of h) (snoc_at (xs := xs) (y := y)) hk with ⟨h1, h2⟩ | ⟨j, z, hj, h1, h2, h3, h4, h5⟩
  · exact .inl ⟨h1, by rw [h2]; rfl⟩
  · have hh : hit (xs ++ [y]) y.par j = true := by rw [← h4]; exact hit_of h2 h3
    have hd : (desc (xs ++ [y]) y.par (j + 1)).reverse = (desc (xs ++ [y]) y.par j).reverse ++ [j] := by rw [desc_succ, if_pos hh, List.reverse_cons]
    refine .inr ⟨j, (desc (xs ++ [y]) y.par j).reverse, hj, h1, ?_, by rw [h5, hd]⟩
    have hEj : elemB (xs ++ [y]) (j : Int) = true := by unfold elemB; rw [atI_nat, h2]; exact decide_eq_true h3
    unfold rowI
    rw [hEj, if_pos rfl, Int.toNat_natCast]
    unfold rowF
    rw [h2]
    simp only
    rw [if_pos h3, h4, hd]
end

section
open Go.RowKit
set_option linter.unusedVariables false
set_option linter.unusedSimpArgs false

theorem rightP0 : RightP doc0 := by
  refine ⟨fun k x hx => ?_, fun j k hj hk => ?_⟩
  · have hk : k < 3 := (List.getElem?_eq_some_iff.1 hx).1
    rcases (show k = 0 ∨ k = 1 ∨ k = 2 by omega) with rfl | rfl | rfl <;> cases hx
    · exact .inl rfl
    · exact .inr ⟨by decide, by decide⟩
    · exact .inr ⟨by decide, by decide⟩
  · have h0 : ∀ i, hit doc0 (-1) i = true → i = 0 := fun i hi => by
      obtain ⟨x, hx, _, hp⟩ := hit_elim hi
      have hk : i < 3 := (List.getElem?_eq_some_iff.1 hx).1
      rcases (show i = 0 ∨ i = 1 ∨ i = 2 by omega) with rfl | rfl | rfl
      · rfl
      · cases hx; cases hp
      · cases hx; cases hp
    rw [h0 j hj, h0 k hk]
theorem rowI0 : rowI doc0 2 = [1, 2] := by decide

set_option maxRecDepth 100000 in
set_option maxHeartbeats 4000000 in
theorem speaks11 (w : World) : Calls Try.prog 7 #[] w (Told (.bool true) w) := by
  have hB : Blk (w.alloc (.cells #[.int .i64 (-1), .int .i64 1, .string ⟨#[]⟩, .string ⟨#[97]⟩, .slice none 0 0, .slice none 0 0, .string ⟨#[]⟩, .int .i64 0, .int .i64 1, .string ⟨#[]⟩, .string ⟨#[98]⟩, .slice none 0 0, .slice none 0 0, .string ⟨#[]⟩, .int .i64 0, .int .i64 1, .string ⟨#[]⟩, .string ⟨#[99]⟩, .slice none 0 0, .slice none 0 0, .string ⟨#[]⟩] 44)) w.heap.size docCs 44 := Blk.alloc docCs _
  have hb := (Below.refl w.heap.size w).alloc (Nat.le_refl _) (.cells #[.int .i64 (-1), .int .i64 1, .string ⟨#[]⟩, .string ⟨#[97]⟩, .slice none 0 0, .slice none 0 0, .string ⟨#[]⟩, .int .i64 0, .int .i64 1, .string ⟨#[]⟩, .string ⟨#[98]⟩, .slice none 0 0, .slice none 0 0, .string ⟨#[]⟩, .int .i64 0, .int .i64 1, .string ⟨#[]⟩, .string ⟨#[99]⟩, .slice none 0 0, .slice none 0 0, .string ⟨#[]⟩] 44)
  have fN := new_any doc0 (some ⟨w.heap.size, 0, none⟩) 3 3 _ (doc0_rd hB 3 (Nat.le_refl _)) (by omega) (fun x hx => by
    have : x.attrs = [] ∧ x.states = [] := by
      rcases List.mem_cons.1 hx with rfl | hx
      · exact ⟨rfl, rfl⟩
      rcases List.mem_cons.1 hx with rfl | hx
      · exact ⟨rfl, rfl⟩
      rcases List.mem_cons.1 hx with rfl | hx
      · exact ⟨rfl, rfl⟩
      · cases hx
    rw [this.1, this.2]
    exact ⟨by simp, by simp⟩) (fun k x hx _ => by
      have hk : k < 3 := (List.getElem?_eq_some_iff.1 hx).1
      rcases rightP0.par k x hx with h | h
      · exact .inl h
      · exact .inr (by omega)) (check_0 w.heap.size _ hB)
  have HB := Lib.hid hb
  clear hB hb
  go_enter Try.func7, Try.ntmps7
  go_wp2_with fail
  refine fN.mono ?_
  rintro e1 w1 ⟨t, b, r, rfl, hT, hb1⟩
  have hb2 := HB.out.trans (hb1.mono HB.out.size)
  have fR := row_any hT rightP0 (by omega) 2
  have HB2 := Lib.hid hb2
  rw [rowI0] at fR
  clear fN hb1 hT hb2
  go_wp2_with (first
    | (go_at_call 22; (refine fR.mono ?_); rintro e w2 ⟨a, c, rfl, hrd, hb3⟩; have hb4 := HB2.out.trans (hb3.mono HB2.out.size); have hbx := hb4.alloc hb4.size (.cells #[.int .i64 1, .int .i64 2] 3); have hnw : Reads (w2.alloc (.cells #[.int .i64 1, .int .i64 2] 3)) .i64 (some ⟨w2.heap.size, 0, none⟩) 2 [1, 2] := ⟨by simp, by unfold maxLen; omega, .inr ⟨w2.heap.size, 0, rfl, by simp, fun j hj => by
        have hA := Blk.alloc (w := w2) [.int .i64 1, .int .i64 2] 3
        rcases (show j = 0 ∨ j = 1 by simp at hj; omega) with rfl | rfl
        · exact hA.cell 0 _ rfl
        · exact hA.cell 1 _ rfl⟩⟩; have hrd2 := hrd.later ((Below.refl w2.heap.size w2).alloc (Nat.le_refl _) (.cells #[.int .i64 1, .int .i64 2] 3)); have fS := same_any a (some ⟨w2.heap.size, 0, none⟩) c 2 [1, 2] [1, 2] _ hrd2 hnw)
    | (go_at_call 16; (refine fS.mono ?_); rintro e w3 ⟨rfl, hb5⟩))
  go_ret
  exact ⟨rfl, hbx.trans (hb5.mono hbx.size)⟩
end
end Go.Proofs.Ytfgnepbpfglepaa
