/- Texts of mine in one: Bb2 Bp0 Bp1. -/
import Derived.Test.YtelbjnanpmdnnaaQ19
namespace Go.Proofs.Ytelbjnanpmdnnaa
section
open Go.RowKit
set_option linter.unusedVariables false
set_option linter.unusedSimpArgs false
theorem TkRow.set {w : World} {b n p i : Nat} {ts : List Tk} {v : Value} (h : TkRow w b n ts) (hp : b < p) : TkRow (w.setCell ⟨p, i, none⟩ v) b n ts :=
  h.later ((Below.refl p w).setCell (p := ⟨p, i, none⟩) (Nat.le_refl _) v) hp
end

section
open Go.RowKit
set_option linter.unusedVariables false
set_option linter.unusedSimpArgs false
theorem cell_blk {w w' : World} {b o : Nat} (h : w'.heap[b]? = w.heap[b]?) : w'.cell? ⟨b, o, none⟩ = w.cell? ⟨b, o, none⟩ := by simp only [World.cell?, h]
structure Rdr (w : World) (B p b n cap : Nat) (ts : List Tk) (e : Int) (E j : Nat) : Prop where
  blk : Blk w p [.slice (some ⟨b, 0, none⟩) n cap, .int .i64 j, .int .i64 e] 58
  row : TkRow w b n ts
  lb : b < B
  lp : B ≤ p
  hcap : n ≤ cap
  hcap2 : cap ≤ 9223372036854775807
  small : n ≤ 1000000
  le : j ≤ E
  big : E ≤ 9223372036854775807
  en : e ≤ n
  more : ∀ i, j ≤ i → i ≤ E → (((i : Int) < e ∧ kdA ts i ≠ 0) ↔ i < E)
theorem kd_len {ts : List Tk} {i : Nat} (h : kdA ts i ≠ 0) : i < ts.length := by
  rcases Nat.lt_or_ge i ts.length with h1 | h1
  · exact h1
  · exact absurd (kdA_ge h1) h
theorem Rdr.lt {w : World} {B p b n cap : Nat} {ts : List Tk} {e : Int} {E j i : Nat} (h : Rdr w B p b n cap ts e E j) (hi : j ≤ i) (hE : i < E) : i < n ∧ (i : Int) < e ∧ kdA ts i ≠ 0 := by
  have h1 := (h.more i hi (by omega)).2 hE
  have h2 := kd_len h1.2
  rw [h.row.len] at h2
  exact ⟨h2, h1⟩
theorem Rdr.later {w w' : World} {B p b n cap : Nat} {ts : List Tk} {e : Int} {E j : Nat} (h : Rdr w B p b n cap ts e E j) (hb : Below w.heap.size w w') : Rdr w' B p b n cap ts e E j :=
  { h with blk := h.blk.later hb h.blk.lt, row := h.row.later hb h.row.lt }
theorem Rdr.grown {w w' : World} {B p b n cap : Nat} {ts : List Tk} {e : Int} {E j : Nat} {row : Option Nat} (h : Rdr w B p b n cap ts e E j) (hg : w.grownBy w' row) (h1 : row ≠ some p) (h2 : row ≠ some b) : Rdr w' B p b n cap ts e E j :=
  { h with blk := h.blk.kept hg h1, row := h.row.of (Nat.lt_of_lt_of_le h.row.lt hg.size) (fun o => cell_blk (hg.block b h.row.lt (fun e => h2 e.symm))) }
theorem Rdr.drewN {w : World} {B p b n cap : Nat} {ts : List Tk} {e : Int} {E j : Nat} (h : Rdr w B p b n cap ts e E j) (q : Nat) : Rdr (w.drewN q) B p b n cap ts e E j :=
  { h with blk := h.blk, row := h.row.of h.row.lt (fun o => rfl) }
theorem Rdr.at_ {w : World} {B p b n cap : Nat} {ts : List Tk} {e : Int} {E j : Nat} (h : Rdr w B p b n cap ts e E j) (j' : Nat) (h1 : j ≤ j') (h2 : j' ≤ E) : Rdr (w.setCell ⟨p, 1, none⟩ (.int .i64 j')) B p b n cap ts e E j' :=
  { h with
    blk := h.blk.setCell 1 (.int .i64 j')
    row := h.row.set (Nat.lt_of_lt_of_le h.lb h.lp)
    le := h2
    more := fun i hi hE => h.more i (by omega) hE }
def Quiet (v : Value) (w : World) (e : Ending) (w' : World) : Prop := e = .returned v ∧ ∃ q, w' = w.drewN q
set_option maxRecDepth 100000 in
set_option maxHeartbeats 4000000 in
theorem bmore_any {w : World} {B p b n cap : Nat} {ts : List Tk} {e : Int} {E j : Nat} (h : Rdr w B p b n cap ts e E j) :
    Calls Try.prog 35 #[.pointer (some ⟨p, 0, none⟩)] w (Quiet (.bool (decide (j < E))) w) := by
  have c0 := h.blk.cell 0 _ rfl
  have c1 := h.blk.cell 1 _ rfl
  have c2 := h.blk.cell 2 _ rfl
  have hm := h.more j (Nat.le_refl _) h.le
  have hcap := h.hcap
  have hcap2 := h.hcap2
  have hsm := h.small
  have hle := h.le
  have hen := h.en
  have hbig := h.big
  by_cases hjE : j < E
  · rw [decide_eq_true hjE]
    obtain ⟨hn, he, hk⟩ := h.lt (Nat.le_refl _) hjE
    have hn' : (j : Int) < (n : Int) := by omega
    have ck := h.row.kd j hn
    have nk : (kdA ts j != 0) = true := bne_iff_ne.2 hk
    clear hm hk h hen
    generalize kdA ts j = q at *
    go_enter Try.func35, Try.ntmps35
    go_wp2_with fail
    go_quiet (fail)
    go_wp2
    go_ret
    exact ⟨rfl, _, rfl⟩
  · rw [decide_eq_false hjE]
    by_cases he : (j : Int) < e
    · have hk : kdA ts j = 0 := Classical.byContradiction fun hk => hjE (hm.1 ⟨he, hk⟩)
      have hn : j < n := by omega
      have hn' : (j : Int) < (n : Int) := by omega
      have ck := h.row.kd j hn
      rw [hk] at ck
      clear hm hk h hen
      go_enter Try.func35, Try.ntmps35
      go_wp2_with fail
      go_quiet (fail)
      go_wp2
      go_ret
      exact ⟨rfl, _, rfl⟩
    · have hd : decide ((j : Int) < e) = false := decide_eq_false he
      clear hm h hen
      go_enter Try.func35, Try.ntmps35
      go_wp2_with fail
      go_quiet (fail)
      go_wp2
      go_ret
      exact ⟨rfl, _, rfl⟩
def findF (q : Int) : List Int → Int → Int
  | [], _ => -1
  | k :: ks, i => if q = k then i else findF q ks (i + 1)
theorem findF_mem (q : Int) : ∀ (ks : List Int) (i : Int), 0 ≤ i → (decide (0 ≤ findF q ks i)) = ks.contains q
  | [], i, h => by simp [findF]
  | k :: ks, i, h => by
    rw [findF]
    by_cases hk : q = k
    · rw [if_pos hk, hk, decide_eq_true h]; simp
    · rw [if_neg hk, findF_mem q ks (i + 1) (by omega)]
      simp [hk]
set_option maxRecDepth 100000 in
set_option maxHeartbeats 1000000 in
theorem bindex_any (a : Option Addr) (n cap : Nat) (ks : List Int) (q : Int) (w : World) (hn : ks.length = n) (hr : Reads w .i64 a cap ks) :
    Calls Try.prog 64 #[.slice a n cap, .int .i64 q] w (Tells (.int .i64 (findF q ks 0)) w) := by
  have hm : n ≤ 9223372036854775807 := by have := hr.1; have := hr.2.1; unfold maxLen at this; omega
  have HR := Lib.hid hr
  have HN := Lib.hid hn
  obtain ⟨F, hF⟩ : ∃ F, findF q ks 0 = F := ⟨_, rfl⟩
  have HF := Lib.hid hF
  rw [hF]
  clear hF hr hn
  go_enter Try.func64, Try.ntmps64
  go_wp2
  go_loop [5, 8] (fun _ i => ∃ k : Nat, k ≤ n ∧ i = .int .i64 k ∧ Hid (findF q (ks.drop k) k = F)) (fun _ i => n - (intOf i).toNat)
  case atStart => exact ⟨0, by omega, rfl, HF⟩
  case round =>
    obtain ⟨k, hk, rfl, hf⟩ := hrel
    clear HF
    by_cases hlt : k < n
    · have hkl : k < ks.length := by rw [HN.out]; exact hlt
      obtain ⟨b, off, rfl, hat⟩ : ∃ b off, a = some ⟨b, off, none⟩ ∧ At w .i64 b off ks := by
        rcases HR.out.2.2 with h | h
        · rw [h] at hkl; simp at hkl
        · exact h
      have hc := hat.2 k hkl
      have hkI2 : (k : Int) < (n : Int) := by omega
      have hf2 := hf.out
      rw [List.drop_eq_getElem_cons hkl, findF] at hf2
      rw [List.getElem?_eq_getElem hkl, Option.getD_some] at hc
      have HF2 := Lib.hid hf2
      clear hf2 hf hat
      generalize ks[k]'hkl = x at *
      by_cases hqx : q = x
      · subst hqx
        obtain rfl : (k : Int) = F := by rw [← HF2.out, if_pos rfl]
        have n1 : (q == q) = true := beq_self_eq_true q
        go_wp2
        go_ret
        exact ⟨rfl, rfl⟩
      · have HF3 : Hid (findF q (ks.drop (k + 1)) ((k + 1 : Nat) : Int) = F) := Lib.hid (by rw [← HF2.out, if_neg hqx]; rfl)
        have n1 : (q == x) = false := beq_eq_false_iff_ne.2 hqx
        clear HF2
        go_wp2
        go_round
        case rel => exact ⟨k + 1, by omega, by go_num, HF3⟩
        case measure => simp [intOf]; omega
    · obtain rfl : k = n := by omega
      obtain rfl : (-1 : Int) = F := by have := hf.out; rw [← HN.out, List.drop_length] at this; exact this
      clear hf
      go_wp2
      go_ret
      exact ⟨rfl, rfl⟩
set_option maxRecDepth 100000 in
theorem bcontains_any (a : Option Addr) (n cap : Nat) (ks : List Int) (q : Int) (w : World) (hn : ks.length = n) (hr : Reads w .i64 a cap ks) :
    Calls Try.prog 39 #[.slice a n cap, .int .i64 q] w (Tells (.bool (ks.contains q)) w) := by
  have hi := bindex_any a n cap ks q w hn hr
  have hf := findF_mem q ks 0 (by omega)
  rw [← hf]
  generalize findF q ks 0 = F at *
  have HF := Lib.hid hf
  clear hf hn hr HF
  cases hd : decide (0 ≤ F) with
  | true =>
    have h0 : 0 ≤ F := of_decide_eq_true hd
    clear hd
    go_enter Try.func39, Try.ntmps39
    go_wp2_with fail
    refine hi.mono ?_
    rintro e wq ⟨rfl, hwq⟩; replace hwq := hwq.symm; subst hwq
    go_wp2
    go_ret
    exact ⟨rfl, rfl⟩
  | false =>
    have h0 : F < 0 := by have := of_decide_eq_false hd; omega
    go_enter Try.func39, Try.ntmps39
    go_wp2_with fail
    refine hi.mono ?_
    rintro e wq ⟨rfl, hwq⟩; replace hwq := hwq.symm; subst hwq
    go_wp2
    go_ret
    exact ⟨rfl, rfl⟩
end

section
open Go.RowKit
set_option linter.unusedVariables false
set_option linter.unusedSimpArgs false
theorem Reads.grownP {w w' : World} {k : IntKind} {a : Option Addr} {cap p : Nat} {zs : List Int} (h : Reads w k a cap zs) (hg : w.grownBy w' (some p)) (hne : ∀ b off, a = some ⟨b, off, none⟩ → b ≠ p) : Reads w' k a cap zs := by
  obtain ⟨h1, h2, h3 | ⟨b, off, rfl, hat⟩⟩ := h
  · exact ⟨h1, h2, .inl h3⟩
  · refine ⟨h1, h2, .inr ⟨b, off, rfl, Nat.lt_of_lt_of_le hat.1 hg.size, fun j hj => ?_⟩⟩
    exact (cell_blk (hg.block b hat.1 (fun e => hne b off rfl (Option.some.inj e)))).trans (hat.2 j hj)
theorem Reads.drewN {w : World} {k : IntKind} {a : Option Addr} {cap : Nat} {zs : List Int} (h : Reads w k a cap zs) (q : Nat) : Reads (w.drewN q) k a cap zs := h
def isB2 (ts : List Tk) (E j : Nat) (ks : List Int) : Bool := decide (j < E) && ks.contains (kdA ts j)
set_option maxRecDepth 100000 in
set_option maxHeartbeats 4000000 in
theorem bis_any {w : World} {B p b n cap : Nat} {ts : List Tk} {e : Int} {E j : Nat} (ak : Option Addr) (nk ck : Nat) (ks : List Int) (h : Rdr w B p b n cap ts e E j) (hk : ks.length = nk) (hr : Reads w .i64 ak ck ks) :
    Calls Try.prog 27 #[.pointer (some ⟨p, 0, none⟩), .slice ak nk ck] w (Quiet (.bool (isB2 ts E j ks)) w) := by
  have cM : ∀ q, Calls Try.prog 35 #[.pointer (some ⟨p, 0, none⟩)] (w.drewN q) (fun e w' => e = .returned (.bool (decide (j < E))) ∧ ∃ m, w' = (w.drewN q).drewN m) := fun q => bmore_any (h.drewN q)
  unfold isB2
  by_cases hjE : j < E
  · rw [decide_eq_true hjE] at cM ⊢
    rw [Bool.true_and]
    obtain ⟨hn, he, hkd⟩ := h.lt (Nat.le_refl _) hjE
    have hn' : (j : Int) < (n : Int) := by omega
    have ck0 := h.row.kd j hn
    have c0 := h.blk.cell 0 _ rfl
    have c1 := h.blk.cell 1 _ rfl
    have hcap := h.hcap
    have hcap2 := h.hcap2
    have hsm := h.small
    have cC : ∀ q, Calls Try.prog 39 #[.slice ak nk ck, .int .i64 (kdA ts j)] (w.drewN q) (fun e w' => e = .returned (.bool (ks.contains (kdA ts j))) ∧ w' = w.drewN q) := fun q => bcontains_any ak nk ck ks (kdA ts j) (w.drewN q) hk (hr.drewN q)
    clear hkd h hr hk
    generalize kdA ts j = q at *
    generalize ks.contains q = r at *
    go_enter Try.func27, Try.ntmps27
    go_wp2_with fail
    go_quiet ((first | (go_at_call 35; with_reducible exact Calls.quiet_of (cM _)) | (go_at_call 39; with_reducible exact Calls.quiet_of_same (cC _))))
    go_wp2
    go_ret
    exact ⟨rfl, _, rfl⟩
  · rw [decide_eq_false hjE] at cM ⊢
    rw [Bool.false_and]
    clear h hr hk
    go_enter Try.func27, Try.ntmps27
    go_wp2_with fail
    go_quiet ((go_at_call 35; with_reducible exact Calls.quiet_of (cM _)))
    go_wp2
    go_ret
    exact ⟨rfl, _, rfl⟩
def RdPost (v : Value) (B p b n cap : Nat) (ts : List Tk) (e : Int) (E j : Nat) (w : World) (en : Ending) (w' : World) : Prop := en = .returned v ∧ Rdr w' B p b n cap ts e E j ∧ w.grownBy w' (some p)
set_option maxRecDepth 100000 in
set_option maxHeartbeats 4000000 in
theorem btake_any {w : World} {B p b n cap : Nat} {ts : List Tk} {e : Int} {E j : Nat} (k : Int) (h : Rdr w B p b n cap ts e E j) :
    Calls Try.prog 41 #[.pointer (some ⟨p, 0, none⟩), .int .i64 k] w (RdPost (.bool (decide (j < E) && decide (kdA ts j = k))) B p b n cap ts e E (if j < E ∧ kdA ts j = k then j + 1 else j) w) := by
  have hb1 := (Below.refl w.heap.size w).alloc (Nat.le_refl _) (.cells #[.int .i64 k] 3)
  have hg1 := World.grownBy_alloc w (.cells #[.int .i64 k] 3) (some p)
  have B1 : Blk (w.alloc (.cells #[.int .i64 k] 3)) w.heap.size [.int .i64 k] 3 := Blk.alloc _ _
  have h1 := h.later hb1
  have hp := h.blk.lt
  have hr1 : Reads (w.alloc (.cells #[.int .i64 k] 3)) .i64 (some ⟨w.heap.size, 0, none⟩) 1 [k] := ⟨Nat.le_refl _, by unfold maxLen; omega, .inr ⟨w.heap.size, 0, rfl, by simp, fun j hj => by
    obtain rfl : j = 0 := by simpa using hj
    exact B1.cell 0 _ rfl⟩⟩
  have cI := bis_any (some ⟨w.heap.size, 0, none⟩) 1 1 [k] h1 rfl hr1
  have hib : isB2 ts E j [k] = (decide (j < E) && decide (kdA ts j = k)) := by
    unfold isB2
    congr 1
    simp
  rw [hib] at cI
  generalize hW : w.alloc (.cells #[.int .i64 k] 3) = w1 at *
  have HW := Lib.hid hW
  have H1 := Lib.hid h1
  have hle := h.le
  have hbig := h.big
  cases hd : (decide (j < E) && decide (kdA ts j = k)) with
  | true =>
    rw [Bool.and_eq_true, decide_eq_true_iff, decide_eq_true_iff] at hd
    obtain ⟨hjE, hkd⟩ := hd
    rw [if_pos ⟨hjE, hkd⟩]
    rw [decide_eq_true hjE, decide_eq_true hkd] at cI
    have hn := (h1.lt (Nat.le_refl _) hjE).1
    have hsm := h.small
    clear hkd h h1 hr1 hib B1 hW
    go_enter Try.func41, Try.ntmps41
    go_wp2_with fail
    rw [HW.out]
    refine cI.mono ?_
    rintro e2 w2 ⟨rfl, q, rfl⟩
    have h2 := H1.out.drewN q
    have c0 := h2.blk.cell 0 _ rfl
    have c1 := h2.blk.cell 1 _ rfl
    have f1 := h2.blk.frozen 1
    have h3 := h2.at_ (j + 1) (by omega) (by omega)
    have hg3 := grown_trans (grown_drewN hg1 q) (grown_setCell _ p 1 (.int .i64 ((j + 1 : Nat) : Int)))
    have H3 := Lib.hid h3
    have HG3 := Lib.hid hg3
    clear h2 h3 hg3 hg1 hb1 cI HW
    go_wp2
    go_ret
    exact ⟨rfl, H3.out, HG3.out⟩
  | false =>
    have hng : ¬ (j < E ∧ kdA ts j = k) := fun hh => by rw [decide_eq_true hh.1, decide_eq_true hh.2] at hd; cases hd
    rw [if_neg hng]
    rw [hd] at cI
    clear h h1 hr1 hib B1 hW hd hng
    go_enter Try.func41, Try.ntmps41
    go_wp2_with fail
    rw [HW.out]
    refine cI.mono ?_
    rintro e2 w2 ⟨rfl, q, rfl⟩
    have h2 := H1.out.drewN q
    have hg3 := grown_drewN hg1 q
    clear HW cI
    go_wp2
    go_ret
    exact ⟨rfl, h2, hg3⟩
end
end Go.Proofs.Ytelbjnanpmdnnaa
