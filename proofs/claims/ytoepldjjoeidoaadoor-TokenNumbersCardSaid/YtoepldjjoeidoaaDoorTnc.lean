/- Tokens, the program's side: signs: a walk. -/
import Derived.Test.YtoepldjjoeidoaaDoorTnb
namespace Go.Proofs.YtoepldjjoeidoaaDoor
open Go.RowKit Go.Shelf
set_option linter.unusedVariables false
set_option linter.unusedSimpArgs false

def sgs : ByteArray := ⟨#[40, 41, 91, 93, 123, 125, 44, 58, 59]⟩
def sgKinds : List Int := [21, 22, 19, 20, 23, 24, 18, 16, 17]
/-- The listed table of kinds. -/
def SgW (w : World) : Prop := ∀ p, p < 9 → w.cell? ⟨0, p, none⟩ = some (.int .i64 (sgKinds.getD p 0))
theorem SgW.lt {w : World} (h : SgW w) : 0 < w.heap.size := World.block_lt_of_cell? w _ (h 0 (by decide))
theorem SgW.later {w w' : World} (h : SgW w) (hb : Below w.heap.size w w') : SgW w' := fun p hp => (hb.cell (p := ⟨0, p, none⟩) h.lt).trans (h p hp)
/-- What tokens ask of the library's and the program's tables. -/
structure TkW (w : World) : Prop where
  mx : MxW w
  sg : SgW w
theorem TkW.later {w w' : World} (h : TkW w) (hb : Below w.heap.size w w') : TkW w' := ⟨h.mx.later hb, h.sg.later hb⟩
def signF (l : List Int) (k : Nat) : Tk := if signKind (chA l k) = 9 then ⟨9, 0, k + 1, bytesF [chA l k], [], false⟩ else ⟨signKind (chA l k), 0, k + 1, [], [], false⟩
theorem sgs_at : ∀ p (h : p < sgs.size), 1 ≤ (sgs[p]'h).toNat ∧ (sgs[p]'h).toNat < 128 ∧ signKind ((sgs[p]'h).toNat : Int) = sgKinds.getD p 0 ∧ sgKinds.getD p 0 ≠ 9 := by decide +kernel
theorem sgs_none (c : Int) (h : ∀ p (h : p < sgs.size), c ≠ ((sgs[p]'h).toNat : Int)) : signKind c = 9 := by
  have h0 : c ≠ 40 := h 0 (by decide)
  have h1 : c ≠ 41 := h 1 (by decide)
  have h2 : c ≠ 91 := h 2 (by decide)
  have h3 : c ≠ 93 := h 3 (by decide)
  have h4 : c ≠ 123 := h 4 (by decide)
  have h5 : c ≠ 125 := h 5 (by decide)
  have h6 : c ≠ 44 := h 6 (by decide)
  have h7 : c ≠ 58 := h 7 (by decide)
  have h8 : c ≠ 59 := h 8 (by decide)
  unfold signKind
  rw [if_neg h0, if_neg h1, if_neg h2, if_neg h3, if_neg h4, if_neg h5, if_neg h6, if_neg h7, if_neg h8]

set_option maxRecDepth 100000 in
set_option maxHeartbeats 4000000 in
theorem sign_any {a : Option Addr} {n cap : Nat} {l : List Int} {w : World} (i : Int) (k : Nat) (h : Src w a n cap l) (hT : TkW w) (hi : i = (k : Int)) (hk : k < n) :
    Calls Tryd.prog 52 #[.slice a n cap, .int .i64 i] w (Told (tkV (signF l k)) w) := by
  subst hi
  have hsm := h.small
  obtain ⟨hcap1, hcap2⟩ := h.cap
  have hlen := h.len
  generalize hR : signF l k = R
  unfold signF at hR
  have HR := Lib.hid hR
  clear hR
  generalize hW0 : w.alloc (.cells zeroTk.toArray 33) = W0
  have hb0 : Below w.heap.size w W0 := by rw [← hW0]; exact (Below.refl _ w).alloc (Nat.le_refl _) _
  have hz0 : W0.heap.size = w.heap.size + 1 := by rw [← hW0]; simp
  have HB0 := Lib.hid (show Blk W0 w.heap.size zeroTk 33 from by rw [← hW0]; exact Blk.alloc _ _)
  have HP := Lib.hid h
  have HT := Lib.hid hT
  obtain ⟨b, off, rfl, hcw⟩ := h.cell k hk
  have HC := Lib.hid (And.intro (World.block_lt_of_cell? w _ hcw) hcw)
  have HW0 := Lib.hid hW0
  clear h hT hcw
  go_enter Tryd.func52, Tryd.ntmps52
  go_wp2_with fail
  rw [show w.alloc (Obj.cells #[.int .i64 0, .int .i64 0, .int .i64 0, .string ⟨#[]⟩, .string ⟨#[]⟩, .bool false] 33) = W0 from HW0.out]
  clear hW0
  go_loopg [5, 6] 9 (fun gf _ _ wr => ∃ p : Nat, p + gf = 9 ∧ Hid (∀ q (h : q < sgs.size), q < p → chA l k ≠ ((sgs[q]'h).toNat : Int)) ∧ wr = W0.iter sgs p)
  case atStart => exact ⟨0, by omega, Lib.hid (fun q h hq => by omega), rfl⟩
  case round =>
    obtain ⟨p, hp, hN, rfl⟩ := hrel
    have hbi : ∀ p, Below w.heap.size w (W0.iter sgs p) := fun p => hb0.alloc (by omega) _
    have HBI := Lib.hid hbi
    have hBk : ∀ p, Blk (W0.iter sgs p) w.heap.size zeroTk 33 := fun p => HB0.out.alloc_old _
    have HBK := Lib.hid hBk
    clear hbi hBk
    by_cases hlt : p < sgs.size
    · obtain ⟨g', rfl⟩ : ∃ g', gk = g' + 1 := ⟨gk - 1, by have : sgs.size = 9 := rfl; omega⟩
      obtain ⟨ha1, ha2, ha3, ha4⟩ := sgs_at p hlt
      have hnx := fun ty => run_next_ascii (P := Tryd.prog) W0 sgs p ty hlt ha2
      simp only [hz0] at hnx
      have hc := ((HBI.out (p + 1)).cell (p := ⟨b, off + k, none⟩) HC.out.1).trans HC.out.2
      have hg := (HT.out.later (HBI.out (p + 1))).sg p hlt
      have hp9 : (p : Int) < 9 := by have : p < 9 := hlt; omega
      have hN1 := hN.out
      by_cases hq : chA l k = ((sgs[p]'hlt).toNat : Int)
      · have hbq : (chA l k == ((sgs[p]'hlt).toNat : Int)) = true := beq_iff_eq.2 hq
        have hRR := HR.out
        rw [hq, ha3, if_neg ha4] at hRR
        have HRR := Lib.hid hRR
        have r0 := (HBK.out (p + 1)).cell 0 _ rfl
        have r1 := (HBK.out (p + 1)).cell 1 _ rfl
        have r2 := (HBK.out (p + 1)).cell 2 _ rfl
        have r3 := (HBK.out (p + 1)).cell 3 _ rfl
        have r4 := (HBK.out (p + 1)).cell 4 _ rfl
        have r5 := (HBK.out (p + 1)).cell 5 _ rfl
        have q0 := (HBK.out (p + 1)).frozen 0
        have q1 := (HBK.out (p + 1)).frozen 1
        have q2 := (HBK.out (p + 1)).frozen 2
        have q3 := (HBK.out (p + 1)).frozen 3
        have q4 := (HBK.out (p + 1)).frozen 4
        have q5 := (HBK.out (p + 1)).frozen 5
        clear hN hN1 hRR ha3 ha4 hq
        generalize sgKinds.getD p 0 = kd at *
        generalize chA l k = z at *
        generalize (sgs[p]'hlt).toNat = y at *
        go_wp2
        refine bodyPost_ret (v := .agg #[.int .i64 kd, .int .i64 0, .int .i64 (k + 1 : Nat), .string ⟨#[]⟩, .string ⟨#[]⟩, .bool false]) (by simp [results, Tryd.results52, go_sem, r0, r1, r2, r3, r4, r5]) rfl ⟨by rw [← HRR.out]; rfl, ?_⟩
        exact below_set6 (HBI.out (p + 1)) (Nat.le_refl _) _ _ _ _ _ _
      · have hbq : (chA l k == ((sgs[p]'hlt).toNat : Int)) = false := beq_eq_false_iff_ne.2 hq
        have HNN := Lib.hid (show ∀ q (h : q < sgs.size), q < p + 1 → chA l k ≠ ((sgs[q]'h).toNat : Int) from fun q h hq' => by
          rcases Nat.lt_or_ge q p with hh | hh
          · exact hN1 q h hh
          · obtain rfl : q = p := by omega
            exact hq)
        clear hN hN1 ha3 ha4 hq hg
        generalize hz : chA l k = z at hc hbq
        generalize (sgs[p]'hlt).toNat = y at *
        clear hz
        go_wp2
        go_roundg g'
        case measure => omega
        case rel => exact ⟨p + 1, by omega, HNN, rfl⟩
    · obtain rfl : p = sgs.size := by have : sgs.size = 9 := rfl; omega
      have hnx := fun ty => run_next_end (P := Tryd.prog) W0 sgs sgs.size ty hlt
      simp only [hz0] at hnx
      have hsk := sgs_none (chA l k) (fun q h => hN.out q h h)
      have hRR := HR.out
      rw [if_pos hsk] at hRR
      have HRR := Lib.hid hRR
      have hSi := Lib.hid (HP.out.later (HBI.out sgs.size))
      obtain ⟨b', off', hcc, hrd, hln⟩ := hSi.out.rd.part hSi.out.len k (k + 1) (by omega) (by omega)
      cases hcc
      rw [show k + 1 - k = 1 by omega] at hln
      have hsl : sliceF l k (k + 1) = [chA l k] := by
        unfold sliceF
        rw [show k + 1 - k = 1 by omega, List.drop_eq_getElem_cons (by omega), List.take_succ_cons, List.take_zero]
        unfold chA
        rw [List.getElem?_eq_getElem (by omega)]; rfl
      have cT := tokText_any (some ⟨b, off + k, none⟩) (cap - k) 1 (sliceF l k (k + 1)) (W0.iter sgs sgs.size) hln hrd (by omega) (HT.out.mx.later (HBI.out _))
      rw [hsl] at cT
      have hk1 : (k : Int) + 1 ≤ (n : Int) := by omega
      have hkz : ((k : Int) + 1 - (k : Int)).toNat = 1 := by omega
      clear hN hRR hsk hrd hln hsl
      go_wp2_with fail
      refine cT.mono ?_
      rintro e w2 ⟨rfl, hb2⟩
      have hB2 := (HBK.out sgs.size).later hb2 (HBK.out sgs.size).lt
      have hbl2 := (HBI.out sgs.size).trans (hb2.mono (HBI.out sgs.size).size)
      have r0 := hB2.cell 0 _ rfl
      have r1 := hB2.cell 1 _ rfl
      have r2 := hB2.cell 2 _ rfl
      have r3 := hB2.cell 3 _ rfl
      have r4 := hB2.cell 4 _ rfl
      have r5 := hB2.cell 5 _ rfl
      have q0 := hB2.frozen 0
      have q1 := hB2.frozen 1
      have q2 := hB2.frozen 2
      have q3 := hB2.frozen 3
      have q4 := hB2.frozen 4
      have q5 := hB2.frozen 5
      clear cT hb2
      go_wp2
      refine bodyPost_ret (v := .agg #[.int .i64 9, .int .i64 0, .int .i64 (k + 1 : Nat), .string (strOfNums (bytesF [chA l k])), .string ⟨#[]⟩, .bool false]) (by simp [results, Tryd.results52, go_sem, r0, r1, r2, r3, r4, r5]) rfl ⟨by rw [← HRR.out]; rfl, ?_⟩
      exact below_set6 hbl2 (Nat.le_refl _) _ _ _ _ _ _
end Go.Proofs.YtoepldjjoeidoaaDoor
