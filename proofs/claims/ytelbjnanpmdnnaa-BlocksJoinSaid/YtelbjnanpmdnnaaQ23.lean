/- Texts of mine in one: Bp2. -/
import Derived.Deep.DeepCutAuto
import Derived.WalkSmall
import Derived.OwnWalk
import Derived.IntWalk
import Derived.Test.YtelbjnanpmdnnaaQ20
namespace Go.Proofs.Ytelbjnanpmdnnaa
section
open Go.RowKit
set_option linter.unusedVariables false
set_option linter.unusedSimpArgs false
def IntB (a : Int) (r : Bool) (w : World) (e : Ending) (w' : World) : Prop := e = .returned (.tuple #[.int .i64 a, .bool r]) ∧ w' = w
set_option maxRecDepth 100000 in
theorem bcloser_any (k : Int) (w : World) : Calls Try.prog 66 #[.int .i64 k] w (IntB (closeOf k) (decide (closeOf k ≠ 0)) w) := by
  by_cases h21 : k = 21
  · subst h21
    rw [show closeOf 21 = 22 from rfl]
    go_enter Try.func66, Try.ntmps66
    go_wp2
    go_ret2
    exact ⟨rfl, rfl⟩
  have n21 : (k == 21) = false := beq_eq_false_iff_ne.2 h21
  by_cases h2 : k = 2
  · subst h2
    clear h21 n21
    rw [show closeOf 2 = 22 from rfl]
    go_enter Try.func66, Try.ntmps66
    go_wp2
    go_ret2
    exact ⟨rfl, rfl⟩
  have n2 : (k == 2) = false := beq_eq_false_iff_ne.2 h2
  by_cases h19 : k = 19
  · subst h19
    clear h21 n21 h2 n2
    rw [show closeOf 19 = 20 from rfl]
    go_enter Try.func66, Try.ntmps66
    go_wp2
    go_ret2
    exact ⟨rfl, rfl⟩
  have n19 : (k == 19) = false := beq_eq_false_iff_ne.2 h19
  by_cases h23 : k = 23
  · subst h23
    clear h21 n21 h2 n2 h19 n19
    rw [show closeOf 23 = 24 from rfl]
    go_enter Try.func66, Try.ntmps66
    go_wp2
    go_ret2
    exact ⟨rfl, rfl⟩
  have n23 : (k == 23) = false := beq_eq_false_iff_ne.2 h23
  have hc : closeOf k = 0 := by unfold closeOf; rw [if_neg (by omega), if_neg h19, if_neg h23]
  rw [hc]
  clear h21 h2 h19 h23 hc
  go_enter Try.func66, Try.ntmps66
  go_wp2
  go_ret2
  exact ⟨rfl, rfl⟩
theorem quiet_rdr {w w' : World} {B p b n cap : Nat} {ts : List Tk} {e : Int} {E j : Nat} (hq : ∃ q, w' = w.drewN q) (h : Rdr w B p b n cap ts e E j) : Rdr w' B p b n cap ts e E j := by
  obtain ⟨q, rfl⟩ := hq; exact h.drewN q
theorem quiet_own {w w' : World} {base : Nat} {e : TypeId} {sz : Nat} {v : Value} {n : Nat} {vs : List Value} (hq : ∃ q, w' = w.drewN q) (h : w.ownsRow base e sz v n vs) : w'.ownsRow base e sz v n vs := by
  obtain ⟨q, rfl⟩ := hq; exact h
theorem quiet_grown {w0 w w' : World} {row : Option Nat} (hq : ∃ q, w' = w.drewN q) (h : w0.grownBy w row) : w0.grownBy w' row := by
  obtain ⟨q, rfl⟩ := hq; exact grown_drewN h q
theorem grown_own {w0 w w' : World} {p : Nat} {row : Option Nat} (h : w0.grownBy w (some p)) (k : w.grownBy w' row) (hr : ∀ q, row = some q → w0.heap.size ≤ q) : w0.grownBy w' (some p) :=
  ⟨k.os.trans h.os, k.tape.trans h.tape, k.output.trans h.output, Nat.le_trans h.size k.size, fun i hi hne => (k.block i (Nat.lt_of_lt_of_le hi h.size) (fun e => by have := hr i e.symm; omega)).trans (h.block i hi hne)⟩
def placeIn (w : World) (p : Nat) : Nat := match w.cell? ⟨p, 1, none⟩ with | some (.int _ i) => i.toNat | _ => 0
theorem Rdr.place {w : World} {B p b n cap : Nat} {ts : List Tk} {e : Int} {E j : Nat} (h : Rdr w B p b n cap ts e E j) : placeIn w p = j := by
  unfold placeIn
  rw [h.blk.cell 1 _ rfl]
  exact Int.toNat_natCast j
def opV (cs : List Int) : List Value := cs.reverse.map (Value.int .i64)
theorem opV_push (c : Int) (cs : List Int) : opV (c :: cs) = opV cs ++ [.int .i64 c] := by unfold opV; simp
theorem opV_len (cs : List Int) : (opV cs).length = cs.length := by unfold opV; simp
theorem own_zero {w : World} {base : Nat} {e : TypeId} {sz : Nat} {v : Value} {vs : List Value} (h : w.ownsRow base e sz v 0 vs) : ∃ ad cap, v = .slice ad 0 cap ∧ cap ≤ 9223372036854775807 := by
  obtain ⟨_, ⟨hv, _⟩ | ⟨g, cap, cur, hv, _, _, _, h2, _⟩⟩ := h
  · exact ⟨none, 0, hv, by omega⟩
  · exact ⟨_, cap, hv, h2⟩
theorem own_last {w : World} {base : Nat} {e : TypeId} {v : Value} {m : Nat} {vs : List Value} {u : Value} (h : w.ownsRow base e 1 v (m + 1) (vs ++ [u])) (hl : vs.length = m) :
    ∃ g cap, v = .slice (some ⟨g, 0, none⟩) (m + 1) cap ∧ base ≤ g ∧ g < w.heap.size ∧ m + 1 ≤ cap ∧ cap ≤ 9223372036854775807 ∧ w.cell? ⟨g, m, none⟩ = some u := by
  rcases h.2 with ⟨_, h0⟩ | ⟨g, cap, cur, hv, hg, hh, hn, hcap, _, _⟩
  · omega
  · subst hv
    obtain ⟨hb, hlt⟩ := h.lt g rfl
    refine ⟨g, cap, rfl, hb, hlt, hn, hcap, ?_⟩
    have hx := h.cells (g := g) rfl m u (by rw [List.getElem?_append_right (by omega), hl, Nat.sub_self]; rfl)
    rw [← hx]; congr 1; unfold Addr.add; simp
set_option maxRecDepth 100000 in
set_option maxHeartbeats 8000000 in
theorem bvalue_any {w : World} {B p b n cap : Nat} {ts : List Tk} {e : Int} {E j : Nat} (h : Rdr w B p b n cap ts e E j) :
    Calls Try.prog 42 #[.pointer (some ⟨p, 0, none⟩)] w (RdPost (.tuple #[]) B p b n cap ts e E (stackF ts E j []) w) := by
  obtain ⟨i0, hi, hz0, hz1, hz2⟩ := info_parts Try.info3
  have own0 := World.ownsRow_nil w w.heap.size 3 1
  generalize hR : stackF ts E j [] = R
  have HR := Lib.hid hR
  have H0 := Lib.hid h
  have hle := h.le
  have hsm := h.small
  have hbig := h.big
  have hcap := h.hcap
  have hcap2 := h.hcap2
  have hpw := h.blk.lt
  have hbw : b < w.heap.size := by have := h.lb; have := h.lp; omega
  clear hR h
  go_enter Try.func42, Try.ntmps42
  go_wp2_with fail
  go_loopw [2] (fun v wr => ∃ (j' : Nat) (cs : List Int), Hid (Rdr wr B p b n cap ts e E j') ∧ wr.ownsRow w.heap.size 3 1 v cs.length (opV cs) ∧ Hid (stackF ts E j' cs = R) ∧ j ≤ j' ∧ j' ≤ E ∧ cs.length ≤ j' - j ∧ Hid (w.grownBy wr (some p)))
    (fun v wr => E - placeIn wr p)
  case atStart => exact ⟨j, [], H0, own0, HR, Nat.le_refl _, hle, by simp, Lib.hid (World.grownBy.refl _ _)⟩
  case round =>
    obtain ⟨j', cs, H, hown, hS, h1, h2, h3, hG⟩ := hrel
    clear H0 HR own0
    have cM := bmore_any H.out
    have hpl := Lib.hid H.out.place
    by_cases hjE : j' < E
    · rw [decide_eq_true hjE] at cM
      obtain ⟨hn, he, hkd⟩ := H.out.lt (Nat.le_refl _) hjE
      have hn' : (j' : Int) < (n : Int) := by omega
      have HS : Hid ((if openAt (kdA ts j') cs = [] then j' + 1 else stackF ts E (j' + 1) (openAt (kdA ts j') cs)) = R) := Lib.hid (by rw [← hS.out]; conv => rhs; rw [stackF_step, if_pos hjE])
      clear hS hkd
      rcases cs with _ | ⟨c, r⟩
      · obtain ⟨ad, cp, hv, hcp⟩ := own_zero hown
        subst hv
        go_wp2_with fail
        refine cM.mono ?_
        rintro e2 w2 ⟨rfl, hq⟩
        have H2 := Lib.hid (quiet_rdr hq H.out)
        have hown2 := quiet_own hq hown
        have hG2 := Lib.hid (quiet_grown hq hG.out)
        have ck := H2.out.row.kd j' hn
        have c0 := H2.out.blk.cell 0 _ rfl
        have c1 := H2.out.blk.cell 1 _ rfl
        have f1 := H2.out.blk.frozen 1
        have hq0 := hq
        clear cM hq H hG hown
        generalize hkq : kdA ts j' = kq at *
        have hz1x : IntKind.i64.wrap ((([] : List Int).length : Int) - 1) = -1 := rfl
        go_wp2_with fail
        go_quiet (fail)
        go_upto_region 4 with (fail)
        have h3' := (H2.out.drewN nq).at_ (j' + 1) (by omega) (by omega)
        have g3' := grown_trans (grown_drewN hG2.out nq) (grown_setCell _ p 1 (.int .i64 ((j' + 1 : Nat) : Int)))
        have hown3 := (quiet_own ⟨nq, rfl⟩ hown2).kept (grown_setCell (w2.drewN nq) p 1 (.int .i64 ((j' + 1 : Nat) : Int))) (.inr (fun e => by have := (hown2.lt p e).1; omega))
        rw [show ((j' + 1 : Nat) : Int) = (j' : Int) + 1 from by omega] at h3' g3' hown3
        generalize (w2.drewN nq).setCell ⟨p, 1, none⟩ (.int .i64 ((j' : Int) + 1)) = w3 at *
        have H3 := Lib.hid h3'
        have hG3 := Lib.hid g3'
        clear h3' g3' H2 hG2 hown2 c0 c1 f1 ck hkq
        by_cases hc0 : closeOf kq = 0
        · have hRv : R = j' + 1 := by rw [← HS.out, show openAt kq [] = [] from if_pos hc0, if_pos rfl]
          have hB : IntB (closeOf kq) (decide (closeOf kq ≠ 0)) = IntB 0 false := by rw [hc0]; rfl
          have cc := bcloser_any kq w3
          rw [hB] at cc
          subst hRv
          clear HS hc0 hB hown3
          go_wp2_with (first | (go_at_call 66; ((with_reducible refine cc.mono ?_)); rintro e wq ⟨rfl, hwq⟩; replace hwq := hwq.symm; subst hwq))
          go_end0
          exact ⟨rfl, H3.out, hG3.out⟩
        · have hop : openAt kq [] = [closeOf kq] := if_neg hc0
          have HS2 : Hid (stackF ts E (j' + 1) [closeOf kq] = R) := Lib.hid (by rw [← HS.out, hop, if_neg (by simp)])
          have hB : IntB (closeOf kq) (decide (closeOf kq ≠ 0)) = IntB (closeOf kq) true := by rw [decide_eq_true hc0]
          have cc := bcloser_any kq w3
          rw [hB] at cc
          clear HS hc0 hB hop
          generalize closeOf kq = c2 at *
          go_upto_region 8 with (first | (go_at_call 66; ((with_reducible refine cc.mono ?_)); rintro e wq ⟨rfl, hwq⟩; replace hwq := hwq.symm; subst hwq))
          clear cc
          replace hown3 : w3.ownsRow w.heap.size 3 1 (.slice ad 0 cp) 0 [] := hown3
          have hA : ∀ o : Obj, (w3.alloc o).heap.size = w3.heap.size + 1 := fun o => by simp
          have hB := Blk.alloc (w := w3) [.int .i64 c2] 3
          have hnews : ∀ q u, ([.int .i64 c2] : List Value)[q]? = some u → (w3.alloc (.cells #[.int .i64 c2] 3)).cell? ((⟨w3.heap.size, 0, none⟩ : Addr).add q) = some u := fun q u hu => by
            have h0 := hB.cell q u hu
            rw [← h0]; congr 1; unfold Addr.add; simp <;> (intro h; exact h.symm)
          have hown4 := hown3.alloc (.cells #[.int .i64 c2] 3)
          have H4 := Lib.hid (H3.out.later ((Below.refl w3.heap.size w3).alloc (Nat.le_refl _) (.cells #[.int .i64 c2] 3)))
          have hG4 := Lib.hid (grown_trans hG3.out (World.grownBy_alloc w3 (.cells #[.int .i64 c2] 3) (some p)))
          have hone : ∀ u ∈ ([.int .i64 c2] : List Value), u.oneCell' = true := fun u hu => by simp at hu; subst hu; rfl
          have hsz3 := hG3.out.size
          have hlt3 := fun k hk => hown3.lt k hk
          clear hB hown3 H3 hG3
          go_wp2_with (at_builtin; refine wpList_append_own _ rfl _ _ 43 rfl w.heap.size 3 i0 _ 1 8 Try.underlying43 hi hz0 hz1 hz2 rfl (by decide) _ 0 _ rfl hown4 ⟨w3.heap.size, 0, none⟩ 1 1 [.int .i64 c2] rfl rfl hnews hone (by unfold maxLen; omega) (by omega) (by simp <;> omega) ?_; intro v' w5 hown5 hgrow5 _; have H5 := Lib.hid (H4.out.grown hgrow5 (fun e => by have := (hlt3 p e).1; omega) (fun e => by have := (hlt3 b e).1; omega)); have hG5 := Lib.hid (grown_own hG4.out hgrow5 (fun k hk => (hlt3 k hk).1)); have hg5 := H5.out.place; obtain ⟨g5, cp5, hv5, _⟩ := own_last hown5 rfl; subst hv5)
          go_roundw
          case rel => exact ⟨j' + 1, [c2], H5, hown5, HS2, by omega, by omega, by simp; omega, hG5⟩
          case measure => rw [hg5, hpl.out]; omega
      · have hown1 := hown
        rw [opV_push, show (c :: r).length = r.length + 1 from rfl] at hown1
        obtain ⟨g, cp, hv, hgb, hgl, hcp1, hcp2, hlast⟩ := own_last hown1 (opV_len r)
        subst hv
        clear hown
        have hown := hown1
        clear hown1
        have hrl : r.length + 1 ≤ j' - j := h3
        clear h3
        generalize hm : r.length = m at *
        have Hm := Lib.hid hm
        clear hm
        go_wp2_with fail
        refine cM.mono ?_
        rintro e2 w2 ⟨rfl, hq⟩
        have H2 := Lib.hid (quiet_rdr hq H.out)
        have hown2 := quiet_own hq hown
        have hG2 := Lib.hid (quiet_grown hq hG.out)
        have ck := H2.out.row.kd j' hn
        have c0 := H2.out.blk.cell 0 _ rfl
        have c1 := H2.out.blk.cell 1 _ rfl
        have f1 := H2.out.blk.frozen 1
        have hq0 := hq
        clear cM hq H hG hown
        generalize hkq : kdA ts j' = kq at *
        have cl : w2.cell? ⟨g, m, none⟩ = some (.int .i64 c) := by
          obtain ⟨q, rfl⟩ := hq0
          exact hlast
        have hz1x : IntKind.i64.wrap (((m + 1 : Nat) : Int) - 1) = m := by rw [show ((m + 1 : Nat) : Int) - 1 = (m : Int) by omega]; exact IntWalk.i64_in _ (by omega)
        go_wp2_with fail
        go_quiet (fail)
        go_upto_region 4 with (fail)
        have h3' := (H2.out.drewN nq).at_ (j' + 1) (by omega) (by omega)
        have g3' := grown_trans (grown_drewN hG2.out nq) (grown_setCell _ p 1 (.int .i64 ((j' + 1 : Nat) : Int)))
        have hown3 := (quiet_own ⟨nq, rfl⟩ hown2).kept (grown_setCell (w2.drewN nq) p 1 (.int .i64 ((j' + 1 : Nat) : Int))) (.inr (fun e => by have := (hown2.lt p e).1; omega))
        have cl3 := (cell_blk ((grown_setCell (w2.drewN nq) p 1 (.int .i64 ((j' : Int) + 1))).block g (hown2.lt g rfl).2 (fun e => by have := Option.some.inj e; omega))).trans (show (w2.drewN nq).cell? ⟨g, m, none⟩ = some (.int .i64 c) from cl)
        rw [show ((j' + 1 : Nat) : Int) = (j' : Int) + 1 from by omega] at h3' g3' hown3
        generalize (w2.drewN nq).setCell ⟨p, 1, none⟩ (.int .i64 ((j' : Int) + 1)) = w3 at *
        have H3 := Lib.hid h3'
        have hG3 := Lib.hid g3'
        clear h3' g3' H2 hG2 hown2 c0 c1 f1 ck hkq
        clear cl
        by_cases hkc : kq = c
        · have hop : openAt kq (c :: r) = r := if_pos hkc
          subst hkc
          rw [hop] at HS
          have n1 : (kq == kq) = true := beq_self_eq_true kq
          have hown4 := ownsRow_pop (by rw [Nat.mul_one, opV_len, Hm.out]) hown3
          have hpl3 := Lib.hid H3.out.place
          by_cases hm0 : m = 0
          · obtain rfl : r = [] := List.length_eq_zero_iff.1 (by rw [Hm.out, hm0])
            have hRv : R = j' + 1 := by rw [← HS.out, if_pos rfl]
            subst hRv
            subst hm0
            clear HS hop hown3 hown4
            go_wp2
            go_end0
            exact ⟨rfl, H3.out, hG3.out⟩
          · have HS2 : Hid (stackF ts E (j' + 1) r = R) := Lib.hid (by rw [← HS.out, if_neg (fun h => hm0 (by rw [← Hm.out, h]; rfl))])
            have hmne : ((m : Int) == 0) = false := beq_eq_false_iff_ne.2 (by omega)
            clear HS hop hown3
            go_wp2
            go_roundw
            case rel => exact ⟨j' + 1, r, H3, by rw [Hm.out]; exact hown4, HS2, by omega, by omega, by rw [Hm.out]; omega, hG3⟩
            case measure => rw [hpl3.out, hpl.out]; omega
        · have n1 : (kq == c) = false := beq_eq_false_iff_ne.2 hkc
          have hne1 : ((m : Int) + 1 == 0) = false := beq_eq_false_iff_ne.2 (by omega)
          by_cases hc0 : closeOf kq = 0
          · have hop : openAt kq (c :: r) = c :: r := by show (if _ then _ else _) = _; rw [if_neg hkc, if_pos hc0]
            have HS2 : Hid (stackF ts E (j' + 1) (c :: r) = R) := Lib.hid (by rw [← HS.out, hop, if_neg (by simp)])
            have hB : IntB (closeOf kq) (decide (closeOf kq ≠ 0)) = IntB 0 false := by rw [hc0]; rfl
            have cc := bcloser_any kq w3
            rw [hB] at cc
            have hpl3 := Lib.hid H3.out.place
            clear HS hc0 hB hop hkc
            go_wp2_with (first | (go_at_call 66; ((with_reducible refine cc.mono ?_)); rintro e wq ⟨rfl, hwq⟩; replace hwq := hwq.symm; subst hwq))
            go_roundw
            case rel => exact ⟨j' + 1, c :: r, H3, by rw [opV_push, List.length_cons, Hm.out]; exact hown3, HS2, by omega, by omega, by rw [List.length_cons, Hm.out]; omega, hG3⟩
            case measure => rw [hpl3.out, hpl.out]; omega
          · have hop : openAt kq (c :: r) = closeOf kq :: c :: r := by show (if _ then _ else _) = _; rw [if_neg hkc, if_neg hc0]
            have HS2 : Hid (stackF ts E (j' + 1) (closeOf kq :: c :: r) = R) := Lib.hid (by rw [← HS.out, hop, if_neg (by simp)])
            have hB : IntB (closeOf kq) (decide (closeOf kq ≠ 0)) = IntB (closeOf kq) true := by rw [decide_eq_true hc0]
            have cc := bcloser_any kq w3
            rw [hB] at cc
            clear HS hc0 hB hop hkc
            generalize closeOf kq = c2 at *
            go_upto_region 8 with (first | (go_at_call 66; ((with_reducible refine cc.mono ?_)); rintro e wq ⟨rfl, hwq⟩; replace hwq := hwq.symm; subst hwq))
            clear cc
            have hA : ∀ o : Obj, (w3.alloc o).heap.size = w3.heap.size + 1 := fun o => by simp
            have hB := Blk.alloc (w := w3) [.int .i64 c2] 3
            have hnews : ∀ q u, ([.int .i64 c2] : List Value)[q]? = some u → (w3.alloc (.cells #[.int .i64 c2] 3)).cell? ((⟨w3.heap.size, 0, none⟩ : Addr).add q) = some u := fun q u hu => by
              have h0 := hB.cell q u hu
              rw [← h0]; congr 1; unfold Addr.add; simp <;> (intro h; exact h.symm)
            have hown4 := hown3.alloc (.cells #[.int .i64 c2] 3)
            have H4 := Lib.hid (H3.out.later ((Below.refl w3.heap.size w3).alloc (Nat.le_refl _) (.cells #[.int .i64 c2] 3)))
            have hG4 := Lib.hid (grown_trans hG3.out (World.grownBy_alloc w3 (.cells #[.int .i64 c2] 3) (some p)))
            have hone : ∀ u ∈ ([.int .i64 c2] : List Value), u.oneCell' = true := fun u hu => by simp at hu; subst hu; rfl
            have hsz3 := hG3.out.size
            have hlt3 := fun k hk => hown3.lt k hk
            clear hB hown3 H3 hG3
            go_wp2_with (at_builtin; refine wpList_append_own _ rfl _ _ 43 rfl w.heap.size 3 i0 _ 1 8 Try.underlying43 hi hz0 hz1 hz2 rfl (by decide) _ (m + 1) _ rfl hown4 ⟨w3.heap.size, 0, none⟩ 1 1 [.int .i64 c2] rfl rfl hnews hone (by unfold maxLen; omega) (by omega) (by simp <;> omega) ?_; intro v' w5 hown5 hgrow5 _; have H5 := Lib.hid (H4.out.grown hgrow5 (fun e => by have := (hlt3 p e).1; omega) (fun e => by have := (hlt3 b e).1; omega)); have hG5 := Lib.hid (grown_own hG4.out hgrow5 (fun k hk => (hlt3 k hk).1)); have hg5 := H5.out.place; obtain ⟨g5, cp5, hv5, _⟩ := own_last hown5 (by rw [List.length_append, opV_len, Hm.out]; rfl); subst hv5)
            have hne2 : ((m : Int) + 1 + 1 == 0) = false := beq_eq_false_iff_ne.2 (by omega)
            go_wp2
            go_roundw
            case rel => exact ⟨j' + 1, c2 :: c :: r, H5, by rw [opV_push, opV_push, List.length_cons, List.length_cons, Hm.out]; exact hown5, HS2, by omega, by omega, by rw [List.length_cons, List.length_cons, Hm.out]; omega, hG5⟩
            case measure => rw [hg5, hpl.out]; omega
    · have hRv : R = j' := by rw [← hS.out, stackF_step, if_neg hjE]
      rw [decide_eq_false hjE] at cM
      subst hRv
      clear hS hown
      go_wp2_with fail
      refine cM.mono ?_
      rintro e2 w2 ⟨rfl, hq⟩
      have H2 := Lib.hid (quiet_rdr hq H.out)
      have hG2 := Lib.hid (quiet_grown hq hG.out)
      clear cM hq H hG
      go_wp2
      go_end0
      exact ⟨rfl, H2.out, hG2.out⟩
end
end Go.Proofs.Ytelbjnanpmdnnaa
