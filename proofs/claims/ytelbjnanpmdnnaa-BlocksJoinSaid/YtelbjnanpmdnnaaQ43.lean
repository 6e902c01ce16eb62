/- Texts of mine in one: Rq. -/
import Derived.Deep.CutRange
import Derived.Test.YtelbjnanpmdnnaaQ42
import Derived.Test.YtelbjnanpmdnnaaQ09
import Derived.Test.YtelbjnanpmdnnaaQ17
namespace Go.Proofs.Ytelbjnanpmdnnaa
section
open Go.RowKit
set_option linter.unusedVariables false
set_option linter.unusedSimpArgs false
theorem wpList_append_dst {P : Program} {w : World} {ops : Array Oper} {rest : List Oper} {o : Oper} {a : Act} {Q : Exit → Act → World → Prop} (hgd : o.guard = none) (s x : Operand) (t : TypeId)
    (ho : o.op = .call { callee := .builtin .append, args := #[s, x], argTypes := #[t, t] })
    (base : Nat) (e : TypeId) (i : TypeInfo) (k : IntKind) (bytes : Nat) (ht : P.underlying t = some (.slice e)) (hi : P.info? e = some i) (hz : i.zero = some (.int k 0))
    (hsize : i.size = 1) (hby : i.bytes = bytes) (v : Value) (acc : List Int) (hs : a.eval s = v) (hd : Dst w base e k v acc)
    (ad : Option Addr) (m c : Nat) (zs : List Int) (hm : zs.length = m) (hx : a.eval x = .slice ad m c) (hr : Reads w k ad c zs) (hnil : ad = none → c = 0)
    (h63 : acc.length + m ≤ maxLen) (hbytes : (acc.length + m) * bytes ≤ 140737488355328) (hbase : base ≤ w.heap.size)
    (h : ∀ v' w', Dst w' base e k v' (acc ++ zs) → Below base w w' → wpList P ops Q rest (a.put o.dst v') w') : wpList P ops Q (o :: rest) a w := by
  obtain ⟨v', w', hrun, r1, r2⟩ := run_append_dst (P := P) w base t o.type e i k bytes ht hi hz hsize hby v acc hd ad m c zs hm hr hnil h63 hbytes hbase
  refine wpList_plain hgd fun K hK => ?_
  unfold Oper.wp
  simp [execOp, ho, resolve, invoke, builtin, hs, hx, hrun, Result.andThen]
  exact hK _ _ (h v' w' r1 r2)
def tkFrm (t : Tk) (frm : Nat) : Tk := ⟨t.kind, frm, t.to, t.text, t.num, t.whole⟩
theorem quotedGo_tk (l : List Int) (mark : Int) (frm : Nat) : ∀ (f i : Nat) (out : List Int), quotedGo f l mark frm i out = tkFrm (quotedGo f l mark 0 i out) frm
  | 0, i, out => rfl
  | f + 1, i, out => by
    rw [quotedGo, quotedGo]
    split
    · rfl
    · split
      · rfl
      · split
        · rfl
        · split
          · exact quotedGo_tk l mark frm f _ _
          · split
            · exact quotedGo_tk l mark frm f _ _
            · split
              · exact quotedGo_tk l mark frm f _ _
              · exact quotedGo_tk l mark frm f _ _
theorem quotedF_tk (l : List Int) (j : Nat) : quotedF l j = tkFrm (quoF l (chA l j) (j + 1) []) j := quotedGo_tk l (chA l j) j _ _ _
def quoCells (k : Nat) : List Value := [.int .i64 5, .int .i64 k, .int .i64 0, .string ⟨#[]⟩, .string ⟨#[]⟩, .bool false]
theorem quo_p1 {w1 : World} {m : Nat} (hz : w1.heap.size = m) (cs : List Value) (t : TypeId) (o : Obj) (e : TypeId) : m ≤ m + 1 ∧ m + 1 < ((w1.alloc o).alloc (.cells cs.toArray t)).drew.heap.size ∧
    Dst ((w1.alloc o).alloc (.cells cs.toArray t)).drew (m + 1 + 1) e .i64 (.slice (some ⟨m, 0, none⟩) 0 0) [] ∧ Blk ((w1.alloc o).alloc (.cells cs.toArray t)).drew (m + 1) cs t ∧ Below m w1 ((w1.alloc o).alloc (.cells cs.toArray t)).drew := by
  subst hz
  have hs : ((w1.alloc o).alloc (.cells cs.toArray t)).drew.heap.size = w1.heap.size + 2 := by show ((w1.alloc o).alloc (.cells cs.toArray t)).heap.size = _; simp
  have hb := Blk.alloc (w := w1.alloc o) cs t
  rw [show (w1.alloc o).heap.size = w1.heap.size + 1 from by simp] at hb
  exact ⟨by omega, by omega, Dst.empty _ (by omega), hb, ((((Below.refl _ w1).alloc (Nat.le_refl _) o).alloc (by simp) _)).drew⟩
theorem quo_p2 {w1 : World} {m : Nat} (hz : w1.heap.size = m) (cs : List Value) (t : TypeId) (o : Obj) (e : TypeId) : m ≤ m ∧ m < ((w1.alloc (.cells cs.toArray t)).alloc o).drew.heap.size ∧
    Dst ((w1.alloc (.cells cs.toArray t)).alloc o).drew (m + 1) e .i64 (.slice (some ⟨m + 1, 0, none⟩) 0 0) [] ∧ Blk ((w1.alloc (.cells cs.toArray t)).alloc o).drew m cs t ∧ Below m w1 ((w1.alloc (.cells cs.toArray t)).alloc o).drew := by
  subst hz
  have hs : ((w1.alloc (.cells cs.toArray t)).alloc o).drew.heap.size = w1.heap.size + 2 := by show ((w1.alloc (.cells cs.toArray t)).alloc o).heap.size = _; simp
  exact ⟨by omega, by omega, Dst.empty _ (by omega), (Blk.alloc cs t).alloc_old o, ((((Below.refl _ w1).alloc (Nat.le_refl _) _).alloc (by simp) o)).drew⟩
set_option maxRecDepth 100000 in
set_option maxHeartbeats 8000000 in
theorem rquoted_any {a : Option Addr} {n cap : Nat} {l : List Int} {w : World} (i : Int) (k : Nat) (h : Src w a n cap l) (hi : i = (k : Int)) (hk : k < n) :
    Calls Try.prog 50 #[.slice a n cap, .int .i64 i] w (Told (tkV (quotedF l k)) w) := by
  subst hi
  obtain ⟨i0, hi, hz0, hz1, hz2⟩ := info_parts Try.info3
  have hsm := h.small
  have HL := Lib.hid h.len
  have HN := Lib.hid (quotedF_tk l k)
  generalize quotedF l k = T at HN ⊢
  generalize hR : quoF l (chA l k) (k + 1) [] = R at HN
  have HR := Lib.hid hR
  have HP := Lib.hid h
  obtain ⟨b, off, rfl, hc0⟩ := h.cell k hk
  have hbw := World.block_lt_of_cell? w _ hc0
  obtain ⟨hcap1, hcap2⟩ := h.cap
  have hkn : (k : Int) < (n : Int) := by omega
  have HC := Lib.hid hc0
  clear h hR hc0
  generalize hmk : chA l k = mark at *
  have HMK := Lib.hid hmk
  clear hmk
  go_enter Try.func50, Try.ntmps50
  go_wp2_with fail
  generalize hW1 : w.alloc (.cells [.int .i64 0, .int .i64 0, .int .i64 0, .string ⟨#[]⟩, .string ⟨#[]⟩, .bool false].toArray 52) = w1 at *
  have hz1' : w1.heap.size = w.heap.size + 1 := by rw [← hW1]; simp
  have hb1 : Below w.heap.size w w1 := by rw [← hW1]; exact (Below.refl _ w).alloc (Nat.le_refl _) _
  have B1 := Lib.hid (show Blk w1 w.heap.size zeroTkR 52 from by rw [← hW1]; exact Blk.alloc _ _)
  have hcw : w1.cell? ⟨b, off + k, none⟩ = some (.int .i64 mark) := (hb1.cell (p := ⟨b, off + k, none⟩) hbw).trans HC.out
  have hbw1 : b < w1.heap.size := by show b < _; have : b < w.heap.size := hbw; omega
  have g2 : ∀ o o', ((w1.alloc o).alloc o').cell? ⟨b, off + k, none⟩ = some (.int .i64 mark) := fun o o' => ((((Below.refl w1.heap.size w1).alloc (Nat.le_refl _) o).alloc (by simp) o').cell (p := ⟨b, off + k, none⟩) hbw1).trans hcw
  have hne1 : ¬ b = w1.heap.size := by omega
  have hne2 : ¬ b = w1.heap.size + 1 := by omega
  have HB1 := Lib.hid hb1
  clear hb1 hW1
  have HZ := Lib.hid hz1'
  go_cut [5, 6, 7, 8] from 11 to 19 (fun s5 s6 s7 s8 wx => ∃ p, s5 = .pointer (some ⟨p, 0, none⟩) ∧ s6 = .int .i64 mark ∧ s8 = .int .i64 ((k : Int) + 1) ∧ w.heap.size + 1 ≤ p ∧ p < wx.heap.size ∧ Dst wx (p + 1) 3 .i64 s7 [] ∧ Blk wx p (quoCells k) 52 ∧ Below (w.heap.size + 1) w1 wx)
  case first =>
    go_region
    all_goals (go_wp2_with fail; go_meet; first | exact ⟨_, rfl, rfl, rfl, quo_p1 HZ.out _ _ _ _⟩ | exact ⟨_, rfl, rfl, rfl, quo_p2 HZ.out _ _ _ _⟩)
  case rest =>
    obtain ⟨p, rfl, rfl, rfl, hp, hpw, hD, hBT, hbc⟩ := hcut
    have hBc := Lib.hid (B1.out.later hbc (Nat.lt_succ_self _))
    have HBC := Lib.hid (HB1.out.trans (hbc.mono (Nat.le_succ _)))
    clear hcw g2 hne1 hne2 hbc HB1 B1
    go_wp2_with fail
    go_loopw [7, 8, 9, 10] (fun ov v _ _ wr => ∃ (j : Nat) (out : List Int), v = .int .i64 j ∧ j ≤ n ∧ Hid (quoF l mark j out = R) ∧ out.length ≤ j ∧ Dst wr (p + 1) 3 .i64 ov out ∧ Hid (Blk wr w.heap.size zeroTkR 52) ∧ Hid (Blk wr p (quoCells k) 52) ∧ Below w.heap.size w wr) (fun _ v _ _ _ => n - (intOf v).toNat)
    case atStart => exact ⟨k + 1, [], by go_num, by omega, HR, by simp, hD, hBc, Lib.hid hBT, HBC.out⟩
    case round =>
      obtain ⟨j, out, rfl, hj, hG, hol, hown, hB, hT, hbl⟩ := hrel
      have hS := Lib.hid (HP.out.later hbl)
      have HBL := Lib.hid hbl
      have hsz : p + 1 ≤ wr.heap.size := hT.out.lt
      clear hbl
      by_cases hlt : j < n
      · have hlt' : (j : Int) < (n : Int) := by omega
        have HLT := Lib.hid (show j < l.length from by rw [HL.out]; exact hlt)
        have hc : wr.cell? ⟨b, off + j, none⟩ = some (.int .i64 (chA l j)) := by
          obtain ⟨b', off', e, hc⟩ := hS.out.cell j hlt
          cases e; exact hc
        have hq : (chA l j != mark) = !isB l j mark := by unfold isB; rfl
        have hq10 : (chA l j == 10) = isB l j 10 := by unfold isB; rfl
        have hq92 : (chA l j != 92) = !isB l j 92 := by unfold isB; rfl
        rcases hm : isB l j mark with _ | _
        · rw [hm] at hq
          rcases h10 : isB l j 10 with _ | _
          · rw [h10] at hq10
            rcases h92 : isB l j 92 with _ | _
            · -- a character
              have e := Lib.hid ((quoF_char (out := out) HLT.out hm h10 h92).symm.trans hG.out)
              rw [h92] at hq92
              clear hm h10 h92 hG
              generalize chA l j = z at *
              go_wp2_with (at_builtin; refine wpList_append_dst rfl _ _ 43 rfl (p + 1) 3 i0 .i64 8 Try.underlying43 hi hz0 hz1 hz2 _ out rfl (hown.alloc _) (some ⟨wr.heap.size, 0, none⟩) 1 1 [z] rfl rfl (reads_new wr .i64 _ 3 1 rfl (by unfold maxLen; omega)) (fun h => by cases h) (by unfold maxLen; omega) (by omega) (by simp <;> omega) ?_; intro v' w3 hown3 hbq)
              have hB3 := Lib.hid ((hB.out.alloc_old _).later hbq (by omega))
              have hT3 := Lib.hid ((hT.out.alloc_old _).later hbq (by omega))
              have hbl3 : Below w.heap.size w w3 := (HBL.out.alloc (by omega) _).trans (hbq.mono (by omega))
              go_roundw
              case rel => exact ⟨j + 1, out ++ [z], by go_num, by omega, e, by rw [List.length_append]; simp; omega, hown3, hB3, hT3, hbl3⟩
              case measure => simp [intOf]; omega
            · rw [h92] at hq92
              by_cases h5 : j + 1 < n
              · have h5' : ((j : Int) + 1 == (n : Int)) = false := beq_eq_false_iff_ne.2 (by omega)
                have h5i : (j : Int) + 1 < (n : Int) := by omega
                have hc1 : wr.cell? ⟨b, off + (j + 1), none⟩ = some (.int .i64 (chA l (j + 1))) := by
                  obtain ⟨b', off', e, hc⟩ := hS.out.cell (j + 1) h5
                  cases e; exact hc
                have hq11 : (chA l (j + 1) == 10) = isB l (j + 1) 10 := by unfold isB; rfl
                rcases h6 : isB l (j + 1) 10 with _ | _
                · -- an escape
                  have e := Lib.hid ((quoF_esc (out := out) (by rw [HL.out]; exact h5) hm h10 h92 h6).symm.trans hG.out)
                  have hbd := valueF_bd (l := l) (j := j) HLT.out
                  rw [HL.out] at hbd
                  rw [h6] at hq11
                  have fv := rvalue_any (j : Int) j hS.out rfl (by omega)
                  clear hm h10 h92 h6 hG
                  generalize (valueF l j).2 = j2 at *
                  generalize (valueF l j).1 = c at *
                  generalize chA l (j + 1) = z1 at *
                  generalize chA l j = z at *
                  go_wp2_with fail
                  refine fv.mono ?_
                  rintro e1 w1' ⟨rfl, hb1⟩
                  have hown1 := hown.later hb1
                  have hB1' := hB.out.later hb1 hB.out.lt
                  have hT1' := hT.out.later hb1 hT.out.lt
                  have hbl1 := HBL.out.trans (hb1.mono HBL.out.size)
                  have hsz1 := hb1.size
                  go_wp2_with (at_builtin; refine wpList_append_dst rfl _ _ 43 rfl (p + 1) 3 i0 .i64 8 Try.underlying43 hi hz0 hz1 hz2 _ out rfl (hown1.alloc _) (some ⟨w1'.heap.size, 0, none⟩) 1 1 [c] rfl rfl (reads_new w1' .i64 _ 3 1 rfl (by unfold maxLen; omega)) (fun h => by cases h) (by unfold maxLen; omega) (by omega) (by simp <;> omega) ?_; intro v' w3 hown3 hbq)
                  have hB3 := Lib.hid ((hB1'.alloc_old _).later hbq (by omega))
                  have hT3 := Lib.hid ((hT1'.alloc_old _).later hbq (by omega))
                  have hbl3 : Below w.heap.size w w3 := (hbl1.alloc (by omega) _).trans (hbq.mono (by omega))
                  go_roundw
                  case rel => exact ⟨j2, out ++ [c], by go_num, by omega, e, by rw [List.length_append]; simp; omega, hown3, hB3, hT3, hbl3⟩
                  case measure => simp [intOf]; omega
                · -- an end of a line behind it
                  have e := Lib.hid ((quoF_line (out := out) (by rw [HL.out]; exact h5) hm h10 h92 h6).symm.trans hG.out)
                  rw [h6] at hq11
                  clear hm h10 h92 h6 hG
                  generalize chA l (j + 1) = z1 at *
                  generalize chA l j = z at *
                  go_wp2_with fail
                  go_roundw
                  case rel => exact ⟨j + 2, out, by go_num, by omega, e, by omega, hown, hB, hT, HBL.out⟩
                  case measure => simp [intOf]; omega
              · have h5' : ((j : Int) + 1 == (n : Int)) = true := beq_iff_eq.2 (by omega)
                have e := Lib.hid ((quoF_last (out := out) HLT.out hm h10 h92 (by rw [HL.out]; omega)).symm.trans hG.out)
                clear hm h10 h92 hG
                generalize chA l j = z at *
                go_wp2_with fail
                go_roundw
                case rel => exact ⟨j + 1, out, by go_num, by omega, e, by omega, hown, hB, hT, HBL.out⟩
                case measure => simp [intOf]; omega
          · -- an end of a line
            rw [h10] at hq10
            have e := Lib.hid ((quoF_bad (out := out) HLT.out hm h10).symm.trans hG.out)
            have r0 := hB.out.cell 0 _ rfl
            have r1 := hB.out.cell 1 _ rfl
            have r2 := hB.out.cell 2 _ rfl
            have r3 := hB.out.cell 3 _ rfl
            have r4 := hB.out.cell 4 _ rfl
            have r5 := hB.out.cell 5 _ rfl
            have q0 := hB.out.frozen 0
            have q1 := hB.out.frozen 1
            have q2 := hB.out.frozen 2
            have q3 := hB.out.frozen 3
            have q4 := hB.out.frozen 4
            have q5 := hB.out.frozen 5
            clear hm h10 hG hq92
            generalize chA l j = z at *
            go_wp2
            refine bodyPost_ret (v := .agg #[.int .i64 6, .int .i64 k, .int .i64 j, .string ⟨#[]⟩, .string ⟨#[]⟩, .bool false]) (by simp [results, Try.results50, go_sem, r0, r1, r2, r3, r4, r5]) rfl ⟨by rw [HN.out, ← e.out]; rfl, ?_⟩
            exact below_set6R HBL.out (Nat.le_refl _) _ _ _ _ _ _
        · -- the mark
          rw [hm] at hq
          have e := Lib.hid ((quoF_mark (out := out) HLT.out hm).symm.trans hG.out)
          clear hm hq10 hq92
          generalize chA l j = z at *
          obtain ⟨a2, c2, hv, hrd, _⟩ := hown.reads
          subst hv
          have cT := rtext_any a2 c2 out.length out wr rfl hrd (by omega)
          clear hG hown
          go_wp2_with fail
          refine cT.mono ?_
          rintro e2 w2 ⟨rfl, hb2⟩
          have hB2 := hB.out.later hb2 (by omega)
          have hT2 := hT.out.later hb2 hT.out.lt
          have hbl2 := HBL.out.trans (hb2.mono (by omega))
          have hne1 : ¬ w.heap.size = p := by omega
          have hne2 : ¬ p = w.heap.size := by omega
          have r0 := hB2.cell 0 _ rfl
          have r1 := hB2.cell 1 _ rfl
          have r2 := hB2.cell 2 _ rfl
          have r3 := hB2.cell 3 _ rfl
          have r4 := hB2.cell 4 _ rfl
          have r5 := hB2.cell 5 _ rfl
          have q0 := hB2.frozen 0
          have q1 := hB2.frozen 1
          have q2 := hB2.frozen 2
          have q3 := hB2.frozen 3
          have q4 := hB2.frozen 4
          have q5 := hB2.frozen 5
          have c0 := hT2.cell 0 _ rfl
          have c1 := hT2.cell 1 _ rfl
          have c2 := hT2.cell 2 _ rfl
          have c3 := hT2.cell 3 _ rfl
          have c4 := hT2.cell 4 _ rfl
          have c5 := hT2.cell 5 _ rfl
          have z0 := hT2.frozen 0
          have z1 := hT2.frozen 1
          have z2 := hT2.frozen 2
          have z3 := hT2.frozen 3
          have z4 := hT2.frozen 4
          have z5 := hT2.frozen 5
          clear cT hb2
          generalize hxt : strOfNums (bytesF out) = txt at *
          have d2 := (((hT2.setCell 3 (.string txt)).setCell 2 (.int .i64 j)).setCell 2 (.int .i64 ((j : Int) + 1))).cell 2 _ rfl
          have d1 := ((hT2.setCell 3 (.string txt)).setCell 2 (.int .i64 j)).cell 2 _ rfl
          go_wp2
          refine bodyPost_ret (v := .agg #[.int .i64 5, .int .i64 k, .int .i64 (j + 1 : Nat), .string txt, .string ⟨#[]⟩, .bool false]) (by simp [results, Try.results50, go_sem, r0, r1, r2, r3, r4, r5]) rfl ⟨by rw [HN.out, ← e.out, ← hxt]; rfl, ?_⟩
          exact below_set6R (((hbl2.setCell (p := ⟨p, 3, none⟩) (by show w.heap.size ≤ p; omega) _).setCell (p := ⟨p, 2, none⟩) (by show w.heap.size ≤ p; omega) _).setCell (p := ⟨p, 2, none⟩) (by show w.heap.size ≤ p; omega) _) (Nat.le_refl _) _ _ _ _ _ _
      · obtain rfl : j = n := by omega
        have hlt' : ¬ (j : Int) < (j : Int) := by omega
        have e := Lib.hid ((quoF_end (out := out) (by rw [HL.out]; exact Nat.le_refl _)).symm.trans hG.out)
        obtain ⟨a2, c2, hv, hrd, _⟩ := hown.reads
        subst hv
        have cT := rtext_any a2 c2 out.length out wr rfl hrd (by omega)
        clear hG hown
        go_wp2_with fail
        refine cT.mono ?_
        rintro e2 w2 ⟨rfl, hb2⟩
        have hB2 := hB.out.later hb2 (by omega)
        have hT2 := hT.out.later hb2 hT.out.lt
        have hbl2 := HBL.out.trans (hb2.mono (by omega))
        have hne1 : ¬ w.heap.size = p := by omega
        have hne2 : ¬ p = w.heap.size := by omega
        have r0 := hB2.cell 0 _ rfl
        have r1 := hB2.cell 1 _ rfl
        have r2 := hB2.cell 2 _ rfl
        have r3 := hB2.cell 3 _ rfl
        have r4 := hB2.cell 4 _ rfl
        have r5 := hB2.cell 5 _ rfl
        have q0 := hB2.frozen 0
        have q1 := hB2.frozen 1
        have q2 := hB2.frozen 2
        have q3 := hB2.frozen 3
        have q4 := hB2.frozen 4
        have q5 := hB2.frozen 5
        have c0 := hT2.cell 0 _ rfl
        have c1 := hT2.cell 1 _ rfl
        have c2 := hT2.cell 2 _ rfl
        have c3 := hT2.cell 3 _ rfl
        have c4 := hT2.cell 4 _ rfl
        have c5 := hT2.cell 5 _ rfl
        have z0 := hT2.frozen 0
        have z1 := hT2.frozen 1
        have z2 := hT2.frozen 2
        have z3 := hT2.frozen 3
        have z4 := hT2.frozen 4
        have z5 := hT2.frozen 5
        clear cT hb2
        generalize hxt : strOfNums (bytesF out) = txt at *
        go_wp2
        refine bodyPost_ret (v := .agg #[.int .i64 5, .int .i64 k, .int .i64 (j : Nat), .string txt, .string ⟨#[]⟩, .bool false]) (by simp [results, Try.results50, go_sem, r0, r1, r2, r3, r4, r5]) rfl ⟨by rw [HN.out, ← e.out, ← hxt]; rfl, ?_⟩
        exact below_set6R ((hbl2.setCell (p := ⟨p, 3, none⟩) (by show w.heap.size ≤ p; omega) _).setCell (p := ⟨p, 2, none⟩) (by show w.heap.size ≤ p; omega) _) (Nat.le_refl _) _ _ _ _ _ _
end
end Go.Proofs.Ytelbjnanpmdnnaa
