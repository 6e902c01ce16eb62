/- Texts of mine in one: Fp3 Fp4. -/
import Derived.Test.YtcfhggdiccilaaaGreatQ13
import Derived.Test.YtcfhggdiccilaaaGreatQ14
import Derived.Deep.RegionWith
namespace Go.Proofs.YtcfhggdiccilaaaGreat
section
open Go.RowKit
set_option linter.unusedVariables false
set_option linter.unusedSimpArgs false
def spaceGo (nm : Nm) (p : ByteArray) : Nat → Bool
  | 0 => true
  | k + 1 => spaceGo nm p k && (match nm.ps[k]? with | some x => decide (x ≠ p) | none => true)
theorem spaceGo_at {nm : Nm} {p : ByteArray} : ∀ {k : Nat}, spaceGo nm p k = true → ∀ j, j < k → ∀ x, nm.ps[j]? = some x → x ≠ p
  | 0, _, j, hj, _, _ => by omega
  | k + 1, h, j, hj, x, hx => by
    simp only [spaceGo, Bool.and_eq_true] at h
    by_cases hk : j = k
    · subst hk; rw [hx] at h; simpa using h.2
    · exact spaceGo_at h.1 j (by omega) x hx
theorem spaceOf_found {nm : Nm} {p : ByteArray} {k : Nat} (h : spaceGo nm p k = true) (hx : nm.ps[k]? = some p) : spaceOf nm p = (true, (nm.ss[k]?).getD ⟨#[]⟩) := by
  unfold spaceOf
  have : nm.ps.findIdx? (fun x => decide (x = p)) = some k := by
    obtain ⟨hl, he⟩ := List.getElem?_eq_some_iff.1 hx
    rw [List.findIdx?_eq_some_iff_getElem]
    refine ⟨hl, by simp [he], fun j hj => ?_⟩
    have := spaceGo_at h j hj _ (List.getElem?_eq_getElem (by omega))
    simpa using this
  rw [this]
theorem spaceOf_none {nm : Nm} {p : ByteArray} (h : spaceGo nm p nm.ps.length = true) : spaceOf nm p = (false, ⟨#[]⟩) := by
  unfold spaceOf
  have : nm.ps.findIdx? (fun x => decide (x = p)) = none := by
    rw [List.findIdx?_eq_none_iff]
    intro x hx
    obtain ⟨j, hj⟩ := List.getElem?_of_mem hx
    have := spaceGo_at h j (List.getElem?_eq_some_iff.1 hj).1 x hj
    simpa using this
  rw [this]
set_option maxRecDepth 100000 in
set_option maxHeartbeats 4000000 in
theorem space8_any {nm : Nm} {N : NmV} {w : World} (h : NmAt (· < w.heap.size) w N nm) (p : ByteArray) :
    Calls Tryz.prog 116 #[nmV nm N, .string p] w (Told (.tuple #[.string (spaceOf nm p).2, .bool (spaceOf nm p).1]) w) := by
  obtain ⟨hd, df, ps, ss⟩ := nm
  obtain ⟨pa, pn, pc, sa, sn, sc⟩ := N
  obtain ⟨hP, hS⟩ := h
  dsimp only at hP hS
  unfold nmV
  dsimp only
  have HPN := Lib.hid (show pn = ps.length from hP.1)
  have HSN := Lib.hid (show sn = ss.length from hS.1)
  have hpm : pn ≤ 140737488351232 := hP.2.2.1.2
  have hsm : sn ≤ 140737488351232 := hS.2.2.1.2
  have HB0 := Lib.hid ((Below.refl w.heap.size w).alloc (Nat.le_refl _) (.cells #[.bool hd, .string df, .slice pa pn pc, .slice sa sn sc] 25))
  have D0 := Lib.hid (show Blk (w.alloc (.cells #[.bool hd, .string df, .slice pa pn pc, .slice sa sn sc] 25)) w.heap.size [.bool hd, .string df, .slice pa pn pc, .slice sa sn sc] 25 from Blk.alloc [.bool hd, .string df, .slice pa pn pc, .slice sa sn sc] _)
  have HPP := Lib.hid hP
  have HSS := Lib.hid hS
  have z2 := D0.out.cell 2 _ rfl
  have z3 := D0.out.cell 3 _ rfl
  clear hP hS
  go_enter Tryz.func116, Tryz.ntmps116
  go_wp2
  go_loopw [6] (fun i wr => ∃ j : Nat, j ≤ pn ∧ i = .int .i64 j ∧ Hid (spaceGo ⟨hd, df, ps, ss⟩ p j = true) ∧ wr = (w.alloc (.cells #[.bool hd, .string df, .slice pa pn pc, .slice sa sn sc] 25))) (fun i _ => pn - (intOf i).toNat)
  case atStart => exact ⟨0, Nat.zero_le _, rfl, Lib.hid rfl, rfl⟩
  case round =>
    obtain ⟨j, hj, rfl, HJ, rfl⟩ := hrel
    by_cases hlt : j < pn
    · obtain ⟨x, hx⟩ : ∃ x, ps[j]? = some x := ⟨_, List.getElem?_eq_getElem (by rw [← HPN.out]; exact hlt)⟩
      obtain ⟨bp, op, rfl, hbp, up⟩ := HPP.out.at j x hx
      unfold TxtAt at up
      rw [Nat.mul_one, ← HB0.out.cell (p := ⟨bp, op + j, none⟩) hbp] at up
      have hjI : (0 : Int) ≤ (j : Int) := by omega
      have hjI2 : (j : Int) < (pn : Int) := by omega
      by_cases hxp : x = p
      · have q : (x.toList == p.toList) = true := by rw [str_beqE]; exact decide_eq_true hxp
        have HF := Lib.hid (spaceOf_found HJ.out (by rw [← hxp]; exact hx))
        rw [HF.out]
        clear hx hxp
        by_cases hjs : j < sn
        · obtain ⟨s, hs⟩ : ∃ s, ss[j]? = some s := ⟨_, List.getElem?_eq_getElem (by rw [← HSN.out]; exact hjs)⟩
          obtain ⟨bs, os, rfl, hbs, us⟩ := HSS.out.at j s hs
          unfold TxtAt at us
          rw [Nat.mul_one, ← HB0.out.cell (p := ⟨bs, os + j, none⟩) hbs] at us
          have hjI3 : (j : Int) < (sn : Int) := by omega
          rw [show (ss[j]?).getD ⟨#[]⟩ = s from by rw [hs]; rfl]
          clear hs
          go_wp2
          try go_region
          go_wp2
          refine bodyPost_ret (v := .tuple #[.string s, .bool true]) (by simp [results, Tryz.results116, go_sem]) rfl ⟨rfl, HB0.out⟩
        · have hjI3 : ¬ (j : Int) < (sn : Int) := by omega
          rw [show (ss[j]?).getD ⟨#[]⟩ = (⟨#[]⟩ : ByteArray) from by rw [List.getElem?_eq_none (by rw [← HSN.out]; omega)]; rfl]
          go_wp2
          refine bodyPost_ret (v := .tuple #[.string ⟨#[]⟩, .bool true]) (by simp [results, Tryz.results116, go_sem]) rfl ⟨rfl, HB0.out⟩
      · have q : (x.toList == p.toList) = false := by rw [str_beqE]; exact decide_eq_false hxp
        have hst := Lib.hid (show spaceGo ⟨hd, df, ps, ss⟩ p (j + 1) = true from by simp only [spaceGo, HJ.out, hx]; simpa using hxp)
        clear hx hxp
        go_wp2
        go_roundw
        case rel => exact ⟨j + 1, by omega, by go_num, hst, by first | exact rfl | trivial⟩
        case measure => simp [intOf]; omega
    · obtain rfl : j = pn := by omega
      have hjI2 : ¬ (j : Int) < (j : Int) := by omega
      have HF := Lib.hid (spaceOf_none (nm := ⟨hd, df, ps, ss⟩) (p := p) (by rw [← HPN.out]; exact HJ.out))
      go_wp2
      refine bodyPost_ret (v := .tuple #[.string ⟨#[]⟩, .bool false]) (by simp [results, Tryz.results116, go_sem]) rfl ⟨by rw [HF.out], HB0.out⟩
end

section
open Go.RowKit
set_option linter.unusedVariables false
set_option linter.unusedSimpArgs false
set_option maxRecDepth 100000 in
set_option maxHeartbeats 4000000 in
theorem pspace_any {w : World} {p base : Nat} {N : NmV} {nm : Nm} {st : PenS} {V : PV} {X : List (Option Nat)} (h : PenAt w p base N nm st V X) (ns : Int) (pre : ByteArray) (attr : Bool) :
    Calls Tryz.prog 95 #[.pointer (some ⟨p, 0, none⟩), .int .i64 ns, .string pre, .bool attr] w (Told (.tuple #[.bool (spaceF nm ns pre attr).1, .string (spaceF nm ns pre attr).2]) w) := by
  have c0 := h.blk.cell 0 _ rfl
  have c1 := h.blk.cell 1 _ rfl
  have c2 := h.blk.cell 2 _ rfl
  have c3 := h.blk.cell 3 _ rfl
  have c1d : w.drew.cell? ⟨p, 1, none⟩ = _ := c1
  have f8 := space8_any (h.names.move (fun b hb => ⟨Nat.lt_trans hb h.blk.lt, rfl⟩)) pre
  unfold nmV at f8
  have HL := Lib.hid h.blk.lt
  clear h
  obtain ⟨hd, df, ps, ss⟩ := nm
  dsimp only at c0 c1 c2 c3 c1d f8
  by_cases h1 : ns = 1
  · have q1 : (ns == 1) = true := beq_iff_eq.2 h1
    rw [show spaceF ⟨hd, df, ps, ss⟩ ns pre attr = (false, ⟨#[]⟩) from by unfold spaceF; rw [if_pos (.inl h1)]]
    clear h1
    go_enter Tryz.func95, Tryz.ntmps95
    go_wp2
    refine bodyPost_ret (v := .tuple #[.bool false, .string ⟨#[]⟩]) (by simp [results, Tryz.results95, go_sem]) rfl ⟨rfl, Below.refl _ _⟩
  have q1 : (ns == 1) = false := beq_eq_false_iff_ne.2 h1
  by_cases h0 : ns = 0
  · have q0 : (ns == 0) = true := beq_iff_eq.2 h0
    have q3 : (ns == 3) = false := beq_eq_false_iff_ne.2 (by omega)
    cases attr with
    | false =>
      cases hd with
      | false =>
        rw [show spaceF ⟨false, df, ps, ss⟩ ns pre false = (false, ⟨#[]⟩) from by unfold spaceF; rw [if_pos (.inr ⟨h0, rfl, rfl⟩)]]
        clear h1 h0
        go_enter Tryz.func95, Tryz.ntmps95
        go_wp2
        refine bodyPost_ret (v := .tuple #[.bool false, .string ⟨#[]⟩]) (by simp [results, Tryz.results95, go_sem]) rfl ⟨rfl, Below.refl _ _⟩
      | true =>
        rw [show spaceF ⟨true, df, ps, ss⟩ ns pre false = (true, df) from by unfold spaceF; rw [if_neg (by rintro (h | ⟨_, _, h⟩); exact h1 h; cases h), if_pos ⟨h0, rfl⟩]]
        clear h1 h0
        go_enter Tryz.func95, Tryz.ntmps95
        go_wp2
        go_region
        go_wp2
        refine bodyPost_ret (v := .tuple #[.bool true, .string df]) (by simp [results, Tryz.results95, go_sem]) rfl ⟨rfl, (Below.refl _ _).drew⟩
    | true =>
      rw [show spaceF ⟨hd, df, ps, ss⟩ ns pre true = (true, ⟨#[]⟩) from by unfold spaceF; rw [if_neg (by rintro (h | ⟨_, h, _⟩); exact h1 h; cases h), if_neg (by rintro ⟨_, h⟩; cases h), if_neg (by omega)]]
      clear h1 h0
      go_enter Tryz.func95, Tryz.ntmps95
      go_wp2
      refine bodyPost_ret (v := .tuple #[.bool true, .string ⟨#[]⟩]) (by simp [results, Tryz.results95, go_sem]) rfl ⟨rfl, Below.refl _ _⟩
  have q0 : (ns == 0) = false := beq_eq_false_iff_ne.2 h0
  by_cases h3 : ns = 3
  · have q3 : (ns == 3) = true := beq_iff_eq.2 h3
    rw [show spaceF ⟨hd, df, ps, ss⟩ ns pre attr = (true, (spaceOf ⟨hd, df, ps, ss⟩ pre).2) from by unfold spaceF; rw [if_neg (by rintro (h | ⟨h, _, _⟩); exact h1 h; exact h0 h), if_neg (by rintro ⟨h, _⟩; exact h0 h), if_pos h3]]
    generalize spaceOf ⟨hd, df, ps, ss⟩ pre = r at *
    clear h1 h0 h3
    go_enter Tryz.func95, Tryz.ntmps95
    go_wp2_with (go_at_call 116; (with_reducible refine f8.mono ?_); rintro e w1 ⟨rfl, hb1⟩)
    refine bodyPost_ret (v := .tuple #[.bool true, .string r.2]) (by simp [results, Tryz.results95, go_sem]) rfl ⟨rfl, hb1⟩
  · have q3 : (ns == 3) = false := beq_eq_false_iff_ne.2 h3
    rw [show spaceF ⟨hd, df, ps, ss⟩ ns pre attr = (true, ⟨#[]⟩) from by unfold spaceF; rw [if_neg (by rintro (h | ⟨h, _, _⟩); exact h1 h; exact h0 h), if_neg (by rintro ⟨h, _⟩; exact h0 h), if_neg h3]]
    clear h1 h0 h3
    go_enter Tryz.func95, Tryz.ntmps95
    go_wp2
    refine bodyPost_ret (v := .tuple #[.bool true, .string ⟨#[]⟩]) (by simp [results, Tryz.results95, go_sem]) rfl ⟨rfl, Below.refl _ _⟩
end
end Go.Proofs.YtcfhggdiccilaaaGreat
