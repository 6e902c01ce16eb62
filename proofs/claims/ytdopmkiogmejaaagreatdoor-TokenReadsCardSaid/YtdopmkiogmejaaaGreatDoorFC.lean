/- Several texts of mine in one. -/
import Derived.Test.YtdopmkiogmejaaaGreatDoorFB
import Derived.Test.YtdopmkiogmejaaaGreatDoorAppFull
import Derived.Test.YtdopmkiogmejaaaGreatDoorFA
namespace Go.Proofs.YtdopmkiogmejaaaGreatDoor
section
open Go.RowKit
set_option linter.unusedVariables false
set_option linter.unusedSimpArgs false

theorem wpList_append_dst {P : Program} {w : World} {ops : Array Oper} {rest : List Oper} {o : Oper} {a : Act} {Q : Exit → Act → World → Prop} (hgd : o.guard = none) (s x : Operand) (t : TypeId)
    (ho : o.op = .call { callee := .builtin .append, args := #[s, x], argTypes := #[t, t] })
    (base : Nat) (e : TypeId) (i : TypeInfo) (k : IntKind) (bytes : Nat) (ht : P.underlying t = some (.slice e)) (hi : P.info? e = some i) (hz : i.zero = some (.int k 0))
    (hsize : i.size = 1) (hby : i.bytes = bytes) (v : Value) (acc : List Int) (hs : a.eval s = v) (hd : Dst w base e k v acc)
    (ad : Option Addr) (m c : Nat) (zs : List Int) (hm : zs.length = m) (hx : a.eval x = .slice ad m c) (hr : Reads w k ad c zs) (hnil : ad = none → c = 0)
    (h63 : acc.length + m ≤ maxLen) (hbytes : (acc.length + m) * bytes ≤ 140737488355328) (hbase : base ≤ w.heap.size)
    (h : ∀ v' w', Dst w' base e k v' (acc ++ zs) → Below base w w' → wpList P ops Q rest (a.put o.dst v') w') : wpList P ops Q (o :: rest) a w := by
  obtain ⟨v', w', hrun, r1, r2⟩ := run_append_dst (P := P) w base t o.type e i k bytes ht hi hz hsize hby v acc hd ad m c zs hm hr hnil h63 hbytes hbase
  refine wpList_plain hgd fun K hK => ?_
  unfold Oper.wp
  simp [execOp, ho, resolve, invoke, builtin, hs, hx, hrun, Result.andThen]
  exact hK _ _ (h v' w' r1 r2)

/-- A token with another beginning. -/
def tkFrm (t : Tk) (frm : Nat) : Tk := ⟨t.kind, frm, t.to, t.text, t.num, t.whole⟩
theorem quotedGo_tk (l : List Int) (mark : Int) (frm : Nat) : ∀ (f i : Nat) (out : List Int), quotedGo f l mark frm i out = tkFrm (quotedGo f l mark 0 i out) frm
  | 0, i, out => rfl
  | f + 1, i, out => by
    rw [quotedGo, quotedGo]
    split
    · rfl
    · split
      · rfl
      · split
        · rfl
        · split
          · exact quotedGo_tk l mark frm f _ _
          · split
            · exact quotedGo_tk l mark frm f _ _
            · split
              · exact quotedGo_tk l mark frm f _ _
              · exact quotedGo_tk l mark frm f _ _
theorem quotedF_tk (l : List Int) (j : Nat) : quotedF l j = tkFrm (quoF l (chA l j) (j + 1) []) j := quotedGo_tk l (chA l j) j _ _ _

def quoCells (k : Nat) : List Value := [.int .i64 5, .int .i64 k, .int .i64 0, .string ⟨#[]⟩, .string ⟨#[]⟩, .bool false]
theorem quo_p1 {w1 : World} {m : Nat} (hz : w1.heap.size = m) (cs : List Value) (t : TypeId) (o : Obj) (e : TypeId) : m ≤ m + 1 ∧ m + 1 < ((w1.alloc o).alloc (.cells cs.toArray t)).drew.heap.size ∧
    Dst ((w1.alloc o).alloc (.cells cs.toArray t)).drew (m + 1 + 1) e .i64 (.slice (some ⟨m, 0, none⟩) 0 0) [] ∧ Blk ((w1.alloc o).alloc (.cells cs.toArray t)).drew (m + 1) cs t ∧ Below m w1 ((w1.alloc o).alloc (.cells cs.toArray t)).drew := by
  subst hz
  have hs : ((w1.alloc o).alloc (.cells cs.toArray t)).drew.heap.size = w1.heap.size + 2 := by show ((w1.alloc o).alloc (.cells cs.toArray t)).heap.size = _; simp
  have hb := Blk.alloc (w := w1.alloc o) cs t
  rw [show (w1.alloc o).heap.size = w1.heap.size + 1 from by simp] at hb
  exact ⟨by omega, by omega, Dst.empty _ (by omega), hb, ((((Below.refl _ w1).alloc (Nat.le_refl _) o).alloc (by simp) _)).drew⟩
theorem quo_p2 {w1 : World} {m : Nat} (hz : w1.heap.size = m) (cs : List Value) (t : TypeId) (o : Obj) (e : TypeId) : m ≤ m ∧ m < ((w1.alloc (.cells cs.toArray t)).alloc o).drew.heap.size ∧
    Dst ((w1.alloc (.cells cs.toArray t)).alloc o).drew (m + 1) e .i64 (.slice (some ⟨m + 1, 0, none⟩) 0 0) [] ∧ Blk ((w1.alloc (.cells cs.toArray t)).alloc o).drew m cs t ∧ Below m w1 ((w1.alloc (.cells cs.toArray t)).alloc o).drew := by
  subst hz
  have hs : ((w1.alloc (.cells cs.toArray t)).alloc o).drew.heap.size = w1.heap.size + 2 := by show ((w1.alloc (.cells cs.toArray t)).alloc o).heap.size = _; simp
  exact ⟨by omega, by omega, Dst.empty _ (by omega), (Blk.alloc cs t).alloc_old o, ((((Below.refl _ w1).alloc (Nat.le_refl _) _).alloc (by simp) o)).drew⟩

set_option maxRecDepth 100000 in
set_option maxHeartbeats 8000000 in
theorem rquoted_any {a : Option Addr} {n cap : Nat} {l : List Int} {w : World} (i : Int) (k : Nat) (h : Src w a n cap l) (hi : i = (k : Int)) (hk : k < n) :
    Calls Tryz.prog 73 #[.slice a n cap, .int .i64 i] w (Told (tkV (quotedF l k)) w) := by
  subst hi
  obtain ⟨i0, hi, hz0, hz1, hz2⟩ := info_parts Tryz.info3
  have hsm := h.small
  have HL := Lib.hid h.len
  have HN := Lib.hid (quotedF_tk l k)
  generalize quotedF l k = T at HN ⊢
  generalize hR : quoF l (chA l k) (k + 1) [] = R at HN
  have HR := Lib.hid hR
  have HP := Lib.hid h
  obtain ⟨b, off, rfl, hc0⟩ := h.cell k hk
  have hbw := World.block_lt_of_cell? w _ hc0
  obtain ⟨hcap1, hcap2⟩ := h.cap
  have hkn : (k : Int) < (n : Int) := by omega
  have HC := Lib.hid hc0
  clear h hR hc0
  generalize hmk : chA l k = mark at *
  have HMK := Lib.hid hmk
  clear hmk
  go_enter Tryz.func73, Tryz.ntmps73
  go_wp2_with fail
  generalize hW1 : w.alloc (.cells [.int .i64 0, .int .i64 0, .int .i64 0, .string ⟨#[]⟩, .string ⟨#[]⟩, .bool false].toArray 32) = w1 at *
  have hz1' : w1.heap.size = w.heap.size + 1 := by rw [← hW1]; simp
  have hb1 : Below w.heap.size w w1 := by rw [← hW1]; exact (Below.refl _ w).alloc (Nat.le_refl _) _
  have B1 := Lib.hid (show Blk w1 w.heap.size zeroTkR 32 from by rw [← hW1]; exact Blk.alloc _ _)
  have hcw : w1.cell? ⟨b, off + k, none⟩ = some (.int .i64 mark) := (hb1.cell (p := ⟨b, off + k, none⟩) hbw).trans HC.out
  have hbw1 : b < w1.heap.size := by show b < _; have : b < w.heap.size := hbw; omega
  have g2 : ∀ o o', ((w1.alloc o).alloc o').cell? ⟨b, off + k, none⟩ = some (.int .i64 mark) := fun o o' => ((((Below.refl w1.heap.size w1).alloc (Nat.le_refl _) o).alloc (by simp) o').cell (p := ⟨b, off + k, none⟩) hbw1).trans hcw
  have hne1 : ¬ b = w1.heap.size := by omega
  have hne2 : ¬ b = w1.heap.size + 1 := by omega
  have HB1 := Lib.hid hb1
  clear hb1 hW1
  have HZ := Lib.hid hz1'
  go_cut [5, 6, 7, 8] from 11 to 19 (fun s5 s6 s7 s8 wx => ∃ p, s5 = .pointer (some ⟨p, 0, none⟩) ∧ s6 = .int .i64 mark ∧ s8 = .int .i64 ((k : Int) + 1) ∧ w.heap.size + 1 ≤ p ∧ p < wx.heap.size ∧ Dst wx (p + 1) 3 .i64 s7 [] ∧ Blk wx p (quoCells k) 32 ∧ Below (w.heap.size + 1) w1 wx)
  case first =>
    go_region
    all_goals (go_wp2_with fail; go_meet; first | exact ⟨_, rfl, rfl, rfl, quo_p1 HZ.out _ _ _ _⟩ | exact ⟨_, rfl, rfl, rfl, quo_p2 HZ.out _ _ _ _⟩)
  case rest =>
    obtain ⟨p, rfl, rfl, rfl, hp, hpw, hD, hBT, hbc⟩ := hcut
    have hBc := Lib.hid (B1.out.later hbc (Nat.lt_succ_self _))
    have HBC := Lib.hid (HB1.out.trans (hbc.mono (Nat.le_succ _)))
    clear hcw g2 hne1 hne2 hbc HB1 B1
    go_wp2_with fail
    go_loopw [7, 8, 9, 10] (fun ov v _ _ wr => ∃ (j : Nat) (out : List Int), v = .int .i64 j ∧ j ≤ n ∧ Hid (quoF l mark j out = R) ∧ out.length ≤ j ∧ Dst wr (p + 1) 3 .i64 ov out ∧ Hid (Blk wr w.heap.size zeroTkR 32) ∧ Hid (Blk wr p (quoCells k) 32) ∧ Below w.heap.size w wr) (fun _ v _ _ _ => n - (intOf v).toNat)
    case atStart => exact ⟨k + 1, [], by go_num, by omega, HR, by simp, hD, hBc, Lib.hid hBT, HBC.out⟩
    case round =>
      obtain ⟨j, out, rfl, hj, hG, hol, hown, hB, hT, hbl⟩ := hrel
      have hS := Lib.hid (HP.out.later hbl)
      have HBL := Lib.hid hbl
      have hsz : p + 1 ≤ wr.heap.size := hT.out.lt
      clear hbl
      by_cases hlt : j < n
      · have hlt' : (j : Int) < (n : Int) := by omega
        have HLT := Lib.hid (show j < l.length from by rw [HL.out]; exact hlt)
        have hc : wr.cell? ⟨b, off + j, none⟩ = some (.int .i64 (chA l j)) := by
          obtain ⟨b', off', e, hc⟩ := hS.out.cell j hlt
          cases e; exact hc
        have hq : (chA l j != mark) = !isB l j mark := by unfold isB; rfl
        have hq10 : (chA l j == 10) = isB l j 10 := by unfold isB; rfl
        have hq92 : (chA l j != 92) = !isB l j 92 := by unfold isB; rfl
        rcases hm : isB l j mark with _ | _
        · rw [hm] at hq
          rcases h10 : isB l j 10 with _ | _
          · rw [h10] at hq10
            rcases h92 : isB l j 92 with _ | _
            · -- a character
              have e := Lib.hid ((quoF_char (out := out) HLT.out hm h10 h92).symm.trans hG.out)
              rw [h92] at hq92
              clear hm h10 h92 hG
              generalize chA l j = z at *
              go_wp2_with (at_builtin; refine wpList_append_dst rfl _ _ 28 rfl (p + 1) 3 i0 .i64 8 Tryz.underlying28 hi hz0 hz1 hz2 _ out rfl (hown.alloc _) (some ⟨wr.heap.size, 0, none⟩) 1 1 [z] rfl rfl (reads_new wr .i64 _ 3 1 rfl (by unfold maxLen; omega)) (fun h => by cases h) (by unfold maxLen; omega) (by omega) (by simp <;> omega) ?_; intro v' w3 hown3 hbq)
              have hB3 := Lib.hid ((hB.out.alloc_old _).later hbq (by omega))
              have hT3 := Lib.hid ((hT.out.alloc_old _).later hbq (by omega))
              have hbl3 : Below w.heap.size w w3 := (HBL.out.alloc (by omega) _).trans (hbq.mono (by omega))
              go_roundw
              case rel => exact ⟨j + 1, out ++ [z], by go_num, by omega, e, by rw [List.length_append]; simp; omega, hown3, hB3, hT3, hbl3⟩
              case measure => simp [intOf]; omega
            · rw [h92] at hq92
              by_cases h5 : j + 1 < n
              · have h5' : ((j : Int) + 1 == (n : Int)) = false := beq_eq_false_iff_ne.2 (by omega)
                have h5i : (j : Int) + 1 < (n : Int) := by omega
                have hc1 : wr.cell? ⟨b, off + (j + 1), none⟩ = some (.int .i64 (chA l (j + 1))) := by
                  obtain ⟨b', off', e, hc⟩ := hS.out.cell (j + 1) h5
                  cases e; exact hc
                have hq11 : (chA l (j + 1) == 10) = isB l (j + 1) 10 := by unfold isB; rfl
                rcases h6 : isB l (j + 1) 10 with _ | _
                · -- an escape
                  have e := Lib.hid ((quoF_esc (out := out) (by rw [HL.out]; exact h5) hm h10 h92 h6).symm.trans hG.out)
                  have hbd := valueF_bd (l := l) (j := j) HLT.out
                  rw [HL.out] at hbd
                  rw [h6] at hq11
                  have fv := rvalue_any (j : Int) j hS.out rfl (by omega)
                  clear hm h10 h92 h6 hG
                  generalize (valueF l j).2 = j2 at *
                  generalize (valueF l j).1 = c at *
                  generalize chA l (j + 1) = z1 at *
                  generalize chA l j = z at *
                  go_wp2_with fail
                  refine fv.mono ?_
                  rintro e1 w1' ⟨rfl, hb1⟩
                  have hown1 := hown.later hb1
                  have hB1' := hB.out.later hb1 hB.out.lt
                  have hT1' := hT.out.later hb1 hT.out.lt
                  have hbl1 := HBL.out.trans (hb1.mono HBL.out.size)
                  have hsz1 := hb1.size
                  go_wp2_with (at_builtin; refine wpList_append_dst rfl _ _ 28 rfl (p + 1) 3 i0 .i64 8 Tryz.underlying28 hi hz0 hz1 hz2 _ out rfl (hown1.alloc _) (some ⟨w1'.heap.size, 0, none⟩) 1 1 [c] rfl rfl (reads_new w1' .i64 _ 3 1 rfl (by unfold maxLen; omega)) (fun h => by cases h) (by unfold maxLen; omega) (by omega) (by simp <;> omega) ?_; intro v' w3 hown3 hbq)
                  have hB3 := Lib.hid ((hB1'.alloc_old _).later hbq (by omega))
                  have hT3 := Lib.hid ((hT1'.alloc_old _).later hbq (by omega))
                  have hbl3 : Below w.heap.size w w3 := (hbl1.alloc (by omega) _).trans (hbq.mono (by omega))
                  go_roundw
                  case rel => exact ⟨j2, out ++ [c], by go_num, by omega, e, by rw [List.length_append]; simp; omega, hown3, hB3, hT3, hbl3⟩
                  case measure => simp [intOf]; omega
                · -- an end of a line behind it
                  have e := Lib.hid ((quoF_line (out := out) (by rw [HL.out]; exact h5) hm h10 h92 h6).symm.trans hG.out)
                  rw [h6] at hq11
                  clear hm h10 h92 h6 hG
                  generalize chA l (j + 1) = z1 at *
                  generalize chA l j = z at *
                  go_wp2_with fail
                  go_roundw
                  case rel => exact ⟨j + 2, out, by go_num, by omega, e, by omega, hown, hB, hT, HBL.out⟩
                  case measure => simp [intOf]; omega
              · have h5' : ((j : Int) + 1 == (n : Int)) = true := beq_iff_eq.2 (by omega)
                have e := Lib.hid ((quoF_last (out := out) HLT.out hm h10 h92 (by rw [HL.out]; omega)).symm.trans hG.out)
                clear hm h10 h92 hG
                generalize chA l j = z at *
                go_wp2_with fail
                go_roundw
                case rel => exact ⟨j + 1, out, by go_num, by omega, e, by omega, hown, hB, hT, HBL.out⟩
                case measure => simp [intOf]; omega
          · -- an end of a line
            rw [h10] at hq10
            have e := Lib.hid ((quoF_bad (out := out) HLT.out hm h10).symm.trans hG.out)
            have r0 := hB.out.cell 0 _ rfl
            have r1 := hB.out.cell 1 _ rfl
            have r2 := hB.out.cell 2 _ rfl
            have r3 := hB.out.cell 3 _ rfl
            have r4 := hB.out.cell 4 _ rfl
            have r5 := hB.out.cell 5 _ rfl
            have q0 := hB.out.frozen 0
            have q1 := hB.out.frozen 1
            have q2 := hB.out.frozen 2
            have q3 := hB.out.frozen 3
            have q4 := hB.out.frozen 4
            have q5 := hB.out.frozen 5
            clear hm h10 hG hq92
            generalize chA l j = z at *
            go_wp2
            refine bodyPost_ret (v := .agg #[.int .i64 6, .int .i64 k, .int .i64 j, .string ⟨#[]⟩, .string ⟨#[]⟩, .bool false]) (by simp [results, Tryz.results73, go_sem, r0, r1, r2, r3, r4, r5]) rfl ⟨by rw [HN.out, ← e.out]; rfl, ?_⟩
            exact below_set6R HBL.out (Nat.le_refl _) _ _ _ _ _ _
        · -- the mark
          rw [hm] at hq
          have e := Lib.hid ((quoF_mark (out := out) HLT.out hm).symm.trans hG.out)
          clear hm hq10 hq92
          generalize chA l j = z at *
          obtain ⟨a2, c2, hv, hrd, _⟩ := hown.reads
          subst hv
          have cT := rtext_any a2 c2 out.length out wr rfl hrd (by omega)
          clear hG hown
          go_wp2_with fail
          refine cT.mono ?_
          rintro e2 w2 ⟨rfl, hb2⟩
          have hB2 := hB.out.later hb2 (by omega)
          have hT2 := hT.out.later hb2 hT.out.lt
          have hbl2 := HBL.out.trans (hb2.mono (by omega))
          have hne1 : ¬ w.heap.size = p := by omega
          have hne2 : ¬ p = w.heap.size := by omega
          have r0 := hB2.cell 0 _ rfl
          have r1 := hB2.cell 1 _ rfl
          have r2 := hB2.cell 2 _ rfl
          have r3 := hB2.cell 3 _ rfl
          have r4 := hB2.cell 4 _ rfl
          have r5 := hB2.cell 5 _ rfl
          have q0 := hB2.frozen 0
          have q1 := hB2.frozen 1
          have q2 := hB2.frozen 2
          have q3 := hB2.frozen 3
          have q4 := hB2.frozen 4
          have q5 := hB2.frozen 5
          have c0 := hT2.cell 0 _ rfl
          have c1 := hT2.cell 1 _ rfl
          have c2 := hT2.cell 2 _ rfl
          have c3 := hT2.cell 3 _ rfl
          have c4 := hT2.cell 4 _ rfl
          have c5 := hT2.cell 5 _ rfl
          have z0 := hT2.frozen 0
          have z1 := hT2.frozen 1
          have z2 := hT2.frozen 2
          have z3 := hT2.frozen 3
          have z4 := hT2.frozen 4
          have z5 := hT2.frozen 5
          clear cT hb2
          generalize hxt : strOfNums (bytesF out) = txt at *
          have d2 := (((hT2.setCell 3 (.string txt)).setCell 2 (.int .i64 j)).setCell 2 (.int .i64 ((j : Int) + 1))).cell 2 _ rfl
          have d1 := ((hT2.setCell 3 (.string txt)).setCell 2 (.int .i64 j)).cell 2 _ rfl
          go_wp2
          refine bodyPost_ret (v := .agg #[.int .i64 5, .int .i64 k, .int .i64 (j + 1 : Nat), .string txt, .string ⟨#[]⟩, .bool false]) (by simp [results, Tryz.results73, go_sem, r0, r1, r2, r3, r4, r5]) rfl ⟨by rw [HN.out, ← e.out, ← hxt]; rfl, ?_⟩
          exact below_set6R (((hbl2.setCell (p := ⟨p, 3, none⟩) (by show w.heap.size ≤ p; omega) _).setCell (p := ⟨p, 2, none⟩) (by show w.heap.size ≤ p; omega) _).setCell (p := ⟨p, 2, none⟩) (by show w.heap.size ≤ p; omega) _) (Nat.le_refl _) _ _ _ _ _ _
      · obtain rfl : j = n := by omega
        have hlt' : ¬ (j : Int) < (j : Int) := by omega
        have e := Lib.hid ((quoF_end (out := out) (by rw [HL.out]; exact Nat.le_refl _)).symm.trans hG.out)
        obtain ⟨a2, c2, hv, hrd, _⟩ := hown.reads
        subst hv
        have cT := rtext_any a2 c2 out.length out wr rfl hrd (by omega)
        clear hG hown
        go_wp2_with fail
        refine cT.mono ?_
        rintro e2 w2 ⟨rfl, hb2⟩
        have hB2 := hB.out.later hb2 (by omega)
        have hT2 := hT.out.later hb2 hT.out.lt
        have hbl2 := HBL.out.trans (hb2.mono (by omega))
        have hne1 : ¬ w.heap.size = p := by omega
        have hne2 : ¬ p = w.heap.size := by omega
        have r0 := hB2.cell 0 _ rfl
        have r1 := hB2.cell 1 _ rfl
        have r2 := hB2.cell 2 _ rfl
        have r3 := hB2.cell 3 _ rfl
        have r4 := hB2.cell 4 _ rfl
        have r5 := hB2.cell 5 _ rfl
        have q0 := hB2.frozen 0
        have q1 := hB2.frozen 1
        have q2 := hB2.frozen 2
        have q3 := hB2.frozen 3
        have q4 := hB2.frozen 4
        have q5 := hB2.frozen 5
        have c0 := hT2.cell 0 _ rfl
        have c1 := hT2.cell 1 _ rfl
        have c2 := hT2.cell 2 _ rfl
        have c3 := hT2.cell 3 _ rfl
        have c4 := hT2.cell 4 _ rfl
        have c5 := hT2.cell 5 _ rfl
        have z0 := hT2.frozen 0
        have z1 := hT2.frozen 1
        have z2 := hT2.frozen 2
        have z3 := hT2.frozen 3
        have z4 := hT2.frozen 4
        have z5 := hT2.frozen 5
        clear cT hb2
        generalize hxt : strOfNums (bytesF out) = txt at *
        go_wp2
        refine bodyPost_ret (v := .agg #[.int .i64 5, .int .i64 k, .int .i64 (j : Nat), .string txt, .string ⟨#[]⟩, .bool false]) (by simp [results, Tryz.results73, go_sem, r0, r1, r2, r3, r4, r5]) rfl ⟨by rw [HN.out, ← e.out, ← hxt]; rfl, ?_⟩
        exact below_set6R ((hbl2.setCell (p := ⟨p, 3, none⟩) (by show w.heap.size ≤ p; omega) _).setCell (p := ⟨p, 2, none⟩) (by show w.heap.size ≤ p; omega) _) (Nat.le_refl _) _ _ _ _ _ _
end

section
open Go.RowKit
set_option linter.unusedVariables false
set_option linter.unusedSimpArgs false

theorem restGo_tk (l : List Int) (frm : Nat) : ∀ (f i : Nat), restGo f l frm i = tkFrm (restGo f l 0 i) frm
  | 0, i => rfl
  | f + 1, i => by
    rw [restGo, restGo]
    split
    · rfl
    · split
      · rfl
      · split
        · exact restGo_tk l frm f _
        · exact restGo_tk l frm f _
theorem restF_tk (l : List Int) (frm i : Nat) : restF l frm i = tkFrm (restF l 0 i) frm := restGo_tk l frm _ _
theorem urlGo_tk (l : List Int) (frm : Nat) : ∀ (f i : Nat) (out : List Int), urlGo f l frm i out = tkFrm (urlGo f l 0 i out) frm
  | 0, i, out => rfl
  | f + 1, i, out => by
    rw [urlGo, urlGo]
    split
    · rfl
    · split
      · rfl
      · split
        · exact restF_tk l frm _
        · split
          · exact restF_tk l frm _
          · split
            · exact urlGo_tk l frm f _ _
            · exact urlGo_tk l frm f _ _
theorem urlF_tk (l : List Int) (frm i : Nat) : urlF l frm i = tkFrm (urlS l i []) frm := urlGo_tk l frm _ _ _

set_option maxRecDepth 100000 in
set_option maxHeartbeats 8000000 in
theorem rurl_any {a : Option Addr} {n cap : Nat} {l : List Int} {w : World} (fr i : Int) (frm k : Nat) (h : Src w a n cap l) (hf : fr = (frm : Int)) (hi : i = (k : Int)) (hk : k ≤ n) :
    Calls Tryz.prog 115 #[.slice a n cap, .int .i64 fr, .int .i64 i] w (Told (tkV (urlF l frm k)) w) := by
  subst hi
  subst hf
  obtain ⟨i0, hi, hz0, hz1, hz2⟩ := info_parts Tryz.info3
  have hsm := h.small
  have HL := Lib.hid h.len
  have HN := Lib.hid (urlF_tk l frm k)
  generalize urlF l frm k = T at HN ⊢
  generalize hR : urlS l k [] = R at HN
  have HR := Lib.hid hR
  have HP := Lib.hid h
  clear h hR
  have own0 := World.ownsRow_made (base := w.heap.size + 1) (e := 3) (size := 1) (w.alloc (.cells zeroTkR.toArray 32)) #[] 0 (by simp) (by simp [maxLen]) (by simp)
  have own1 : ((w.alloc (.cells zeroTkR.toArray 32)).alloc (.cells #[] 3)).ownsRow (w.heap.size + 1) 3 1 (.slice (some ⟨w.heap.size + 1, 0, none⟩) 0 0) 0 [] := by simpa using own0
  have HO := Lib.hid own1
  clear own0 own1
  have HB0 := Lib.hid (Blk.alloc (w := w) zeroTkR 32)
  go_enter Tryz.func115, Tryz.ntmps115
  go_wp2_with fail
  go_loopw [7, 8, 9, 10, 11, 12] (fun ov v _ _ _ _ wr => ∃ (j : Nat) (out : List Int), v = .int .i64 j ∧ j ≤ n ∧ Hid (urlS l j out = R) ∧ out.length ≤ j ∧ wr.ownsRow (w.heap.size + 1) 3 1 ov out.length (out.map (Value.int .i64)) ∧ Hid (Blk wr w.heap.size zeroTkR 32) ∧ Below w.heap.size w wr) (fun _ v _ _ _ _ _ => n - (intOf v).toNat)
  case atStart => exact ⟨k, [], rfl, hk, HR, by simp, HO.out, Lib.hid (HB0.out.alloc_old _), ((Below.refl _ _).alloc (Nat.le_refl _) _).alloc (by simp) _⟩
  case round =>
    obtain ⟨j, out, rfl, hj, hG, hol, hown, hB, hbl⟩ := hrel
    have hS := Lib.hid (HP.out.later hbl)
    have HBL := Lib.hid hbl
    have hsz : w.heap.size + 1 ≤ wr.heap.size := hB.out.lt
    clear hbl
    have HSle := Lib.hid (spacesF_le l j (by rw [HL.out]; exact hj))
    have HSge := Lib.hid (spacesGo_le l (l.length + 1) j).1
    generalize hT : spacesF l j = s
    have HT0 := hT
    unfold spacesF at HT0
    rw [HL.out] at HT0
    have HT := Lib.hid HT0
    have HTs := Lib.hid hT
    have hjs : j ≤ s := by have := HSge.out; rw [← hT]; exact this
    have hsn : s ≤ n := by have := HSle.out; rw [hT, HL.out] at this; exact this
    clear HT0 hT HSle HSge
    go_wp2_with fail
    go_loopw [9] (fun v wx => ∃ (f q : Nat), v = .int .i64 q ∧ Hid (spacesGo f l q = s) ∧ n < q + f ∧ q ≤ n ∧ wx = wr) (fun v _ => n - (intOf v).toNat)
    case atStart => exact ⟨n + 1, j, rfl, HT, by omega, hj, rfl⟩
    case round =>
      obtain ⟨f, q, rfl, hG2, hf, hq, rfl⟩ := hrel
      have g0 := rspaceAt (q : Int) q hS.out rfl
      rcases hd : spB l q with _ | _
      · have hE : s = q := by rw [← hG2.out]; exact spacesGo_stop f hd
        subst hE
        have HSP := Lib.hid hd
        rw [hd] at g0
        clear hG2 hd HT
        by_cases hsl : s < n
        · have hsl' : ¬ ((n : Int) ≤ (s : Int)) := by omega
          have HSL := Lib.hid (show s < l.length from by rw [HL.out]; exact hsl)
          obtain ⟨b, off, rfl, hc⟩ := hS.out.cell s hsl
          have q41 : (chA l s == 41) = isB l s 41 := rfl
          rcases h41 : isB l s 41 with _ | _
          · rw [h41] at q41
            have fr := rrest_any (s : Int) (frm : Int) s frm hS.out rfl rfl (by omega)
            by_cases hjs2 : j < s
            · -- behind blanks
              have hjs2' : ((j : Int) < (s : Int)) := by omega
              have e := Lib.hid ((urlS_rest (out := out) (by rw [HTs.out]; exact HSL.out) (by rw [HTs.out]; exact h41) (by rw [HTs.out]; exact hjs2)).symm.trans hG.out)
              have hRr : restF l frm s = T := by rw [HN.out, ← e.out, HTs.out]; exact restF_tk l frm s
              rw [hRr] at fr
              clear hRr e hG hown h41 HSP HTs
              generalize chA l s = z at *
              go_wp2_with (go_at_call 72; (with_reducible refine g0.mono ?_); rintro e wq ⟨rfl, hwq⟩; replace hwq := hwq.symm; subst hwq)
              refine fr.mono ?_
              rintro e w2 ⟨rfl, hb2⟩
              have hB2 := hB.out.later hb2 (by omega)
              have hbl2 := HBL.out.trans (hb2.mono (by omega))
              have r0 := hB2.cell 0 _ rfl
              have r1 := hB2.cell 1 _ rfl
              have r2 := hB2.cell 2 _ rfl
              have r3 := hB2.cell 3 _ rfl
              have r4 := hB2.cell 4 _ rfl
              have r5 := hB2.cell 5 _ rfl
              have q0 := hB2.frozen 0
              have q1 := hB2.frozen 1
              have q2 := hB2.frozen 2
              have q3 := hB2.frozen 3
              have q4 := hB2.frozen 4
              have q5 := hB2.frozen 5
              clear fr hb2
              obtain ⟨kd, frr, to_, tx, nm, wh⟩ := T
              unfold tkV tkCells
              go_wp2
              refine bodyPost_ret (v := tkV ⟨kd, frr, to_, tx, nm, wh⟩) (by simp [results, Tryz.results115, go_sem, tkV, tkCells, r0, r1, r2, r3, r4, r5]) rfl ⟨rfl, ?_⟩
              exact below_set6R hbl2 (Nat.le_refl _) _ _ _ _ _ _
            · obtain rfl : s = j := by omega
              have hjs2' : ¬ ((s : Int) < (s : Int)) := by omega
              have qa : (chA l s == 34) = isB l s 34 := rfl
              have qb : (chA l s == 39) = isB l s 39 := rfl
              have qc : (chA l s == 40) = isB l s 40 := rfl
              have qd : (chA l s == 92) = isB l s 92 := rfl
              have fh := fun w => rhidden_any (chA l s) w (chA_ch HP.out.pre s)
              have fe := resc_any (s : Int) s hS.out rfl (by omega)
              have hub : urlBad l s = (isB l s 34 || isB l s 39 || isB l s 40 || hiddenB (chA l s) || (isB l s 92 && !escB l s)) := rfl
              rcases hu : urlBad l s with _ | _
              · rcases h92 : isB l s 92 with _ | _
                · -- a character
                  have e := Lib.hid ((urlS_char (out := out) HSL.out HSP.out h41 hu h92).symm.trans hG.out)
                  rw [hu, h92] at hub
                  rw [h92] at qd
                  clear hG h41 hu h92 HSP HTs fr
                  generalize hiddenB (chA l s) = rh at *
                  generalize isB l s 34 = ra at *
                  generalize isB l s 39 = rb at *
                  generalize isB l s 40 = rc at *
                  generalize chA l s = z at *
                  have hk4 : ra = false ∧ rb = false ∧ rc = false ∧ rh = false := by revert hub; cases ra <;> cases rb <;> cases rc <;> cases rh <;> simp
                  obtain ⟨rfl, rfl, rfl, rfl⟩ := hk4
                  clear hub fe
                  go_wp2_with (first | (go_at_call 72; (with_reducible refine g0.mono ?_); rintro e wq ⟨rfl, hwq⟩; replace hwq := hwq.symm; subst hwq) | (go_at_call 143; (with_reducible refine (fh _).mono ?_); rintro e wq ⟨rfl, hwq⟩; replace hwq := hwq.symm; subst hwq) | (at_builtin; refine wpList_append_reads rfl _ _ 28 rfl (w.heap.size + 1) 3 i0 .i64 8 Tryz.underlying28 hi hz0 hz1 hz2 _ out.length out rfl (hown.alloc _) rfl (some ⟨wr.heap.size, 0, none⟩) 1 1 [z] rfl rfl (reads_new wr .i64 _ 3 1 rfl (by unfold maxLen; omega)) (fun h => by cases h) (by unfold maxLen; omega) (by omega) (by simp <;> omega) ?_; intro v' w3 hown3 hgrow3))
                  have hB3 : Blk w3 w.heap.size zeroTkR 32 := (hB.out.alloc_old _).kept hgrow3 (fun e => by have := (hown.lt _ e).1; omega)
                  have hbl3 : Below w.heap.size w w3 := (HBL.out.alloc (by omega) _).grown hgrow3 (by simp <;> omega) (fun q hq => by have := (hown.lt q hq).1; omega)
                  go_roundw
                  case rel => exact ⟨s + 1, out ++ [z], by go_num, by omega, e, by rw [List.length_append]; simp; omega, hown3, Lib.hid hB3, hbl3⟩
                  case measure => simp [intOf]; omega
                · -- an escape
                  have e := Lib.hid ((urlS_esc (out := out) HSL.out HSP.out h41 hu h92).symm.trans hG.out)
                  rw [hu, h92] at hub
                  rw [h92] at qd
                  have hbd := valueF_bd (l := l) (j := s) HSL.out
                  rw [HL.out] at hbd
                  have fv := rvalue_any (s : Int) s hS.out rfl (by omega)
                  clear hG h41 hu h92 HSP HTs fr
                  generalize hiddenB (chA l s) = rh at *
                  generalize isB l s 34 = ra at *
                  generalize isB l s 39 = rb at *
                  generalize isB l s 40 = rc at *
                  generalize escB l s = re at *
                  generalize chA l s = z at *
                  generalize (valueF l s).2 = j2 at *
                  generalize (valueF l s).1 = c at *
                  have hk4 : ra = false ∧ rb = false ∧ rc = false ∧ rh = false ∧ re = true := by revert hub; cases ra <;> cases rb <;> cases rc <;> cases rh <;> cases re <;> simp
                  obtain ⟨rfl, rfl, rfl, rfl, rfl⟩ := hk4
                  clear hub
                  go_wp2_with (first | (go_at_call 72; (with_reducible refine g0.mono ?_); rintro e wq ⟨rfl, hwq⟩; replace hwq := hwq.symm; subst hwq) | (go_at_call 143; (with_reducible refine (fh _).mono ?_); rintro e wq ⟨rfl, hwq⟩; replace hwq := hwq.symm; subst hwq) | (go_at_call 81; (with_reducible refine fe.mono ?_); rintro e wq ⟨rfl, hwq⟩; replace hwq := hwq.symm; subst hwq))
                  refine fv.mono ?_
                  rintro e1 w1 ⟨rfl, hb1⟩
                  have hown1 := owns_later hown hb1
                  have hB1 := hB.out.later hb1 hB.out.lt
                  have hbl1 := HBL.out.trans (hb1.mono HBL.out.size)
                  have hsz1 := hb1.size
                  go_wp2_with (first | (at_builtin; refine wpList_append_reads rfl _ _ 28 rfl (w.heap.size + 1) 3 i0 .i64 8 Tryz.underlying28 hi hz0 hz1 hz2 _ out.length out rfl (hown1.alloc _) rfl (some ⟨w1.heap.size, 0, none⟩) 1 1 [c] rfl rfl (reads_new w1 .i64 _ 3 1 rfl (by unfold maxLen; omega)) (fun h => by cases h) (by unfold maxLen; omega) (by omega) (by simp <;> omega) ?_; intro v' w3 hown3 hgrow3))
                  have hB3 : Blk w3 w.heap.size zeroTkR 32 := (hB1.alloc_old _).kept hgrow3 (fun e => by have := (hown1.lt _ e).1; omega)
                  have hbl3 : Below w.heap.size w w3 := (hbl1.alloc (by omega) _).grown hgrow3 (by simp <;> omega) (fun q hq => by have := (hown1.lt q hq).1; omega)
                  go_roundw
                  case rel => exact ⟨j2, out ++ [c], by go_num, by omega, e, by rw [List.length_append]; simp; omega, hown3, Lib.hid hB3, hbl3⟩
                  case measure => simp [intOf]; omega
              · -- one that may not stand there
                have e := Lib.hid ((urlS_bad (out := out) HSL.out HSP.out h41 hu).symm.trans hG.out)
                have hRr : restF l frm s = T := by rw [HN.out, ← e.out]; exact restF_tk l frm s
                rw [hRr] at fr
                rw [hu] at hub
                clear hRr e hG hown h41 HSP HTs hu
                generalize hiddenB (chA l s) = rh at *
                generalize isB l s 34 = ra at *
                generalize isB l s 39 = rb at *
                generalize isB l s 40 = rc at *
                generalize isB l s 92 = rd at *
                generalize escB l s = re at *
                generalize chA l s = z at *
                have hk5 : ra = true ∨ (ra = false ∧ rb = true) ∨ (ra = false ∧ rb = false ∧ rc = true) ∨ (ra = false ∧ rb = false ∧ rc = false ∧ rh = true) ∨ (ra = false ∧ rb = false ∧ rc = false ∧ rh = false ∧ rd = true ∧ re = false) := by revert hub; cases ra <;> cases rb <;> cases rc <;> cases rh <;> cases rd <;> cases re <;> simp
                clear hub
                rcases hk5 with rfl | ⟨rfl, rfl⟩ | ⟨rfl, rfl, rfl⟩ | ⟨rfl, rfl, rfl, rfl⟩ | ⟨rfl, rfl, rfl, rfl, rfl, rfl⟩
                all_goals
                  go_wp2_with (first | (go_at_call 72; (with_reducible refine g0.mono ?_); rintro e wq ⟨rfl, hwq⟩; replace hwq := hwq.symm; subst hwq) | (go_at_call 143; (with_reducible refine (fh _).mono ?_); rintro e wq ⟨rfl, hwq⟩; replace hwq := hwq.symm; subst hwq) | (go_at_call 81; (with_reducible refine fe.mono ?_); rintro e wq ⟨rfl, hwq⟩; replace hwq := hwq.symm; subst hwq))
                  refine fr.mono ?_
                  rintro e w2 ⟨rfl, hb2⟩
                  have hB2 := hB.out.later hb2 (by omega)
                  have hbl2 := HBL.out.trans (hb2.mono (by omega))
                  have r0 := hB2.cell 0 _ rfl
                  have r1 := hB2.cell 1 _ rfl
                  have r2 := hB2.cell 2 _ rfl
                  have r3 := hB2.cell 3 _ rfl
                  have r4 := hB2.cell 4 _ rfl
                  have r5 := hB2.cell 5 _ rfl
                  have q0 := hB2.frozen 0
                  have q1 := hB2.frozen 1
                  have q2 := hB2.frozen 2
                  have q3 := hB2.frozen 3
                  have q4 := hB2.frozen 4
                  have q5 := hB2.frozen 5
                  clear fr hb2
                  obtain ⟨kd, frr, to_, tx, nm, wh⟩ := T
                  unfold tkV tkCells
                  go_wp2
                  refine bodyPost_ret (v := tkV ⟨kd, frr, to_, tx, nm, wh⟩) (by simp [results, Tryz.results115, go_sem, tkV, tkCells, r0, r1, r2, r3, r4, r5]) rfl ⟨rfl, ?_⟩
                  exact below_set6R hbl2 (Nat.le_refl _) _ _ _ _ _ _
          · -- the end of it
            have e := Lib.hid ((urlS_close (out := out) (by rw [HTs.out]; exact HSL.out) (by rw [HTs.out]; exact h41)).symm.trans hG.out)
            rw [HTs.out] at e
            rw [h41] at q41
            clear h41 HSP HTs
            generalize chA l s = z at *
            obtain ⟨a2, c2, hv, hrd⟩ := Reads.of_owns hown
            subst hv
            have cT := fun wx (hb : Below wr.heap.size wr wx) => rtext_any a2 c2 out.length out wx rfl (hrd.later hb) (by omega)
            clear hG hown
            go_wp2_with (go_at_call 72; (with_reducible refine g0.mono ?_); rintro e wq ⟨rfl, hwq⟩; replace hwq := hwq.symm; subst hwq)
            refine (cT _ (Below.refl _ _)).mono ?_
            rintro e w2 ⟨rfl, hb2⟩
            have hB2 := hB.out.later hb2 (by omega)
            have hbl2 := HBL.out.trans (hb2.mono (by omega))
            have r0 := hB2.cell 0 _ rfl
            have r1 := hB2.cell 1 _ rfl
            have r2 := hB2.cell 2 _ rfl
            have r3 := hB2.cell 3 _ rfl
            have r4 := hB2.cell 4 _ rfl
            have r5 := hB2.cell 5 _ rfl
            have q0 := hB2.frozen 0
            have q1 := hB2.frozen 1
            have q2 := hB2.frozen 2
            have q3 := hB2.frozen 3
            have q4 := hB2.frozen 4
            have q5 := hB2.frozen 5
            clear cT hb2
            go_wp2
            refine bodyPost_ret (v := .agg #[.int .i64 7, .int .i64 frm, .int .i64 (s + 1 : Nat), .string (strOfNums (bytesF out)), .string ⟨#[]⟩, .bool false]) (by simp [results, Tryz.results115, go_sem, r0, r1, r2, r3, r4, r5]) rfl ⟨by rw [HN.out, ← e.out]; rfl, ?_⟩
            exact below_set6R hbl2 (Nat.le_refl _) _ _ _ _ _ _
        · obtain rfl : s = n := by omega
          have hsl' : ((s : Int) ≤ (s : Int)) := by omega
          have e := Lib.hid ((urlS_end (out := out) (i := j) (by rw [HTs.out, HL.out]; exact Nat.le_refl _)).symm.trans hG.out)
          rw [HL.out] at e
          clear HSP HTs hsl
          obtain ⟨a2, c2, hv, hrd⟩ := Reads.of_owns hown
          subst hv
          have cT := fun wx (hb : Below wr.heap.size wr wx) => rtext_any a2 c2 out.length out wx rfl (hrd.later hb) (by omega)
          clear hG hown
          go_wp2_with (go_at_call 72; (with_reducible refine g0.mono ?_); rintro e wq ⟨rfl, hwq⟩; replace hwq := hwq.symm; subst hwq)
          refine (cT _ (Below.refl _ _)).mono ?_
          rintro e w2 ⟨rfl, hb2⟩
          have hB2 := hB.out.later hb2 (by omega)
          have hbl2 := HBL.out.trans (hb2.mono (by omega))
          have r0 := hB2.cell 0 _ rfl
          have r1 := hB2.cell 1 _ rfl
          have r2 := hB2.cell 2 _ rfl
          have r3 := hB2.cell 3 _ rfl
          have r4 := hB2.cell 4 _ rfl
          have r5 := hB2.cell 5 _ rfl
          have q0 := hB2.frozen 0
          have q1 := hB2.frozen 1
          have q2 := hB2.frozen 2
          have q3 := hB2.frozen 3
          have q4 := hB2.frozen 4
          have q5 := hB2.frozen 5
          clear cT hb2
          go_wp2
          refine bodyPost_ret (v := .agg #[.int .i64 7, .int .i64 frm, .int .i64 (s : Nat), .string (strOfNums (bytesF out)), .string ⟨#[]⟩, .bool false]) (by simp [results, Tryz.results115, go_sem, r0, r1, r2, r3, r4, r5]) rfl ⟨by rw [HN.out, ← e.out]; rfl, ?_⟩
          exact below_set6R hbl2 (Nat.le_refl _) _ _ _ _ _ _
      · have hqn : q < n := by have := lt_of_spB hd; rw [HL.out] at this; exact this
        obtain ⟨f, rfl⟩ : ∃ g, f = g + 1 := ⟨f - 1, by omega⟩
        have hG3 : Hid (spacesGo f l (q + 1) = s) := Lib.hid (by rw [← hG2.out]; conv => rhs; rw [spacesGo, if_pos hd])
        rw [hd] at g0
        clear hG2 hd
        go_wp2_with fail
        refine g0.mono ?_
        rintro e wq ⟨rfl, hwq⟩; replace hwq := hwq.symm; subst hwq
        go_wp2
        go_roundw
        case rel => exact ⟨f, q + 1, by go_num, hG3, by omega, by omega, by first | rfl | trivial⟩
        case measure => simp [intOf]; omega
end

section
open Go.RowKit Go.Shelf
set_option linter.unusedVariables false
set_option linter.unusedSimpArgs false

theorem map_u8_inj : ∀ {xs ys : List Int}, U8 xs → U8 ys → xs.map u8 = ys.map u8 → xs = ys
  | [], [], _, _, _ => rfl
  | [], y :: ys, _, _, h => by simp at h
  | x :: xs, [], _, _, h => by simp at h
  | x :: xs, y :: ys, hx, hy, h => by
    rw [List.map_cons, List.map_cons, List.cons.injEq] at h
    have h1 := map_u8_inj (fun z hz => hx z (List.mem_cons_of_mem _ hz)) (fun z hz => hy z (List.mem_cons_of_mem _ hz)) h.2
    obtain ⟨a0, a1⟩ := hx x (List.mem_cons_self ..)
    obtain ⟨b0, b1⟩ := hy y (List.mem_cons_self ..)
    have h2 := congrArg UInt8.toNat h.1
    unfold u8 at h2
    rw [UInt8.toNat_ofNat', UInt8.toNat_ofNat'] at h2
    rw [h1, show x = y by omega]
/-- A name in small letters is that of urls. -/
theorem low_url (zs : List Int) (h : U8 zs) : ((lowS (strOfNums zs)).toList == [117, 114, 108]) = urlName zs := by
  have hl : lowL (strB (strOfNums zs)) = zs.map smallF := lowL_nums h
  have hu : U8 (zs.map smallF) := by
    intro c hc
    obtain ⟨z, hz, rfl⟩ := List.mem_map.1 hc
    have := h z hz
    unfold smallF; split <;> omega
  unfold lowS urlName
  rw [hl, ByteArray.toList_eq, Bool.eq_iff_iff, beq_iff_eq, decide_eq_true_eq]
  constructor
  · intro e
    refine map_u8_inj hu (fun z hz => ?_) e
    simp at hz; omega
  · intro e
    rw [e]; rfl

set_option maxRecDepth 100000 in
set_option maxHeartbeats 8000000 in
theorem rcalled_paren {a : Option Addr} {n cap : Nat} {l : List Int} {w : World} (i : Int) (k : Nat) (h : Src w a n cap l) (hi : i = (k : Int)) (hk : k < n) (h40 : isB l (namesF l k).2 40 = true) :
    Calls Tryz.prog 78 #[.slice a n cap, .int .i64 i] w (Told (tkV (calledF l k)) w) := by
  subst hi
  have hsm := h.small
  have HL := Lib.hid h.len
  have hC : Hid (calledF l k = if urlName (bytesF (namesF l k).1) && !isB l (spacesF l ((namesF l k).2 + 1)) 34 && !isB l (spacesF l ((namesF l k).2 + 1)) 39 then urlF l k (spacesF l ((namesF l k).2 + 1)) else ⟨2, k, (namesF l k).2 + 1, bytesF (namesF l k).1, [], false⟩) := Lib.hid (by
    unfold calledF
    rw [if_neg (show ¬ ((!isB l (namesF l k).2 40) = true) from by rw [h40]; decide)])
  generalize calledF l k = R at *
  have hto := (namesF_le l k).2 (by rw [HL.out]; omega)
  rw [HL.out] at hto
  have hnl := namesF_len l k
  have hbl := bytesF_len (namesF l k).1
  have hsz : (strOfNums (bytesF (namesF l k).1)).size ≤ 1000000 := by rw [strOfNums_size]; omega
  have hlow := low_url (bytesF (namesF l k).1) (textF_u8 _)
  have cSm := fun w => rlower_any (strOfNums (bytesF (namesF l k).1)) w hsz
  generalize hW0 : w.alloc (.cells zeroTkR.toArray 32) = W0
  have hb0 : Below w.heap.size w W0 := by rw [← hW0]; exact (Below.refl _ w).alloc (Nat.le_refl _) _
  have HB0 := Lib.hid (show Blk W0 w.heap.size zeroTkR 32 from by rw [← hW0]; exact Blk.alloc _ _)
  have cN := rnames_any (k : Int) k (h.later hb0) rfl (by omega)
  have HP := Lib.hid h
  have HW0 := Lib.hid hW0
  have HBz := Lib.hid hb0
  have hmn : (namesF l k).2 < n := by have := lt_of_isB h40 (by decide); rw [HL.out] at this; exact this
  clear h hsz hnl hbl hW0 hb0
  generalize hto' : (namesF l k).2 = m at *
  generalize bytesF (namesF l k).1 = txt at *
  clear hto' hto
  go_enter Tryz.func78, Tryz.ntmps78
  go_wp2_with fail
  rw [show w.alloc (Obj.cells #[.int .i64 0, .int .i64 0, .int .i64 0, .string ⟨#[]⟩, .string ⟨#[]⟩, .bool false] 32) = W0 from HW0.out]
  refine cN.mono ?_
  rintro e w1 ⟨rfl, hb1⟩
  have hB1 := HB0.out.later hb1 HB0.out.lt
  have hbl1 := HBz.out.trans (hb1.mono HBz.out.size)
  have HBL := Lib.hid hbl1
  have HB := Lib.hid hB1
  have hS := Lib.hid (HP.out.later hbl1)
  have f1 := ris_any (m : Int) m 40 hS.out rfl (by decide)
  rw [h40] at f1
  clear cN hb1 hbl1 hB1
  have HSle := Lib.hid (spacesF_le l (m + 1) (by rw [HL.out]; omega))
  have HSge := Lib.hid (spacesGo_le l (l.length + 1) (m + 1)).1
  generalize hT : spacesF l (m + 1) = s at *
  have HT0 := hT
  unfold spacesF at HT0
  rw [HL.out] at HT0
  have HT := Lib.hid HT0
  have hjs : m + 1 ≤ s := by have := HSge.out; rw [← hT]; exact this
  have hsn : s ≤ n := by have := HSle.out; rw [HL.out] at this; exact this
  clear HT0 hT HSle HSge h40
  go_wp2_with (go_at_call 76; (with_reducible refine f1.mono ?_); rintro e wq ⟨rfl, hwq⟩; replace hwq := hwq.symm; subst hwq)
  clear f1
  go_loopw [7] (fun v wx => ∃ (f q : Nat), v = .int .i64 q ∧ Hid (spacesGo f l q = s) ∧ n < q + f ∧ q ≤ n ∧ wx = w1) (fun v _ => n - (intOf v).toNat)
  case atStart => exact ⟨n + 1, m + 1, by go_num, HT, by omega, by omega, by first | rfl | trivial⟩
  case round =>
    obtain ⟨f, q, rfl, hG2, hf, hq, rfl⟩ := hrel
    have g0 := rspaceAt (q : Int) q hS.out rfl
    rcases hd : spB l q with _ | _
    · have hE : s = q := by rw [← hG2.out]; exact spacesGo_stop f hd
      subst hE
      rw [hd] at g0
      clear hG2 hd HT
      have f3 := fun w' hb => ris_any (s : Int) s 34 (Src.later (w := wr) (w' := w') hS.out hb) rfl (by decide)
      have f4 := fun w' hb => ris_any (s : Int) s 39 (Src.later (w := wr) (w' := w') hS.out hb) rfl (by decide)
      have cU := fun w' hb => rurl_any (k : Int) (s : Int) k s (Src.later (w := wr) (w' := w') hS.out hb) rfl rfl hsn
      generalize isB l s 34 = p at *
      generalize isB l s 39 = q' at *
      rw [show (urlName txt && !p && !q') = (urlName txt && !p && !q') from rfl] at hC
      have hC2 := hC.out
      have HC2 := Lib.hid hC2
      clear hC hC2
      generalize urlName txt = u at *
      by_cases hu : (u && !p && !q') = true
      · have e := HC2.out
        rw [if_pos hu] at e
        simp only [Bool.and_eq_true, Bool.not_eq_true'] at hu
        obtain ⟨⟨rfl, rfl⟩, rfl⟩ := hu
        rw [← e] at cU
        clear e HC2
        go_wp2_with (first
          | (go_at_call 72; (with_reducible refine g0.mono ?_); rintro e wq ⟨rfl, hwq⟩; replace hwq := hwq.symm; subst hwq)
          | (go_at_call 76; first | ((with_reducible refine (f3 _ hb2).mono ?_); rintro e w' ⟨rfl, hwq⟩; replace hwq := hwq.symm; subst hwq) | ((with_reducible refine (f4 _ hb2).mono ?_); rintro e w' ⟨rfl, hwq⟩; replace hwq := hwq.symm; subst hwq))
          | (go_at_call 57; (with_reducible refine (cSm _).mono ?_); rintro e w2 ⟨rfl, hb2⟩))
        refine (cU _ hb2).mono ?_
        rintro e w3 ⟨rfl, hb3⟩
        have hB3 := (HB.out.later hb2 HB.out.lt).later hb3 (HB.out.later hb2 HB.out.lt).lt
        have hbl3 := HBL.out.trans ((below_trans hb2 hb3).mono HBL.out.size)
        have r0 := hB3.cell 0 _ rfl
        have r1 := hB3.cell 1 _ rfl
        have r2 := hB3.cell 2 _ rfl
        have r3 := hB3.cell 3 _ rfl
        have r4 := hB3.cell 4 _ rfl
        have r5 := hB3.cell 5 _ rfl
        have q0 := hB3.frozen 0
        have q1 := hB3.frozen 1
        have q2 := hB3.frozen 2
        have q3 := hB3.frozen 3
        have q4 := hB3.frozen 4
        have q5 := hB3.frozen 5
        clear cU hb3
        obtain ⟨kd, fr, to_, tx, nm, wh⟩ := R
        unfold tkV tkCells
        go_wp2
        refine bodyPost_ret (v := tkV ⟨kd, fr, to_, tx, nm, wh⟩) (by simp [results, Tryz.results78, go_sem, tkV, tkCells, r0, r1, r2, r3, r4, r5]) rfl ⟨rfl, ?_⟩
        exact below_set6R hbl3 (Nat.le_refl _) _ _ _ _ _ _
      · have e := HC2.out
        rw [if_neg hu] at e
        have he := Lib.hid e
        clear e HC2 cU
        have key : (u = false) ∨ (u = true ∧ p = true) ∨ (u = true ∧ p = false ∧ q' = true) := by
          revert hu; cases u <;> cases p <;> cases q' <;> simp
        clear hu
        rcases key with rfl | ⟨rfl, rfl⟩ | ⟨rfl, rfl, rfl⟩
        all_goals
          go_wp2_with (first
            | (go_at_call 72; (with_reducible refine g0.mono ?_); rintro e wq ⟨rfl, hwq⟩; replace hwq := hwq.symm; subst hwq)
            | (go_at_call 76; first | ((with_reducible refine (f3 _ hb2).mono ?_); rintro e w' ⟨rfl, hwq⟩; replace hwq := hwq.symm; subst hwq) | ((with_reducible refine (f4 _ hb2).mono ?_); rintro e w' ⟨rfl, hwq⟩; replace hwq := hwq.symm; subst hwq))
            | (go_at_call 57; (with_reducible refine (cSm _).mono ?_); rintro e w2 ⟨rfl, hb2⟩; have hB3 := HB.out.later hb2 HB.out.lt; have hbl3 := HBL.out.trans (hb2.mono HBL.out.size); have r0 := hB3.cell 0 _ rfl; have r1 := hB3.cell 1 _ rfl; have r2 := hB3.cell 2 _ rfl; have r3 := hB3.cell 3 _ rfl; have r4 := hB3.cell 4 _ rfl; have r5 := hB3.cell 5 _ rfl; have q0 := hB3.frozen 0; have q1 := hB3.frozen 1; have q2 := hB3.frozen 2; have q3 := hB3.frozen 3; have q4 := hB3.frozen 4; have q5 := hB3.frozen 5))
          refine bodyPost_ret (v := .agg #[.int .i64 2, .int .i64 k, .int .i64 (m + 1 : Nat), .string (strOfNums txt), .string ⟨#[]⟩, .bool false]) (by simp [results, Tryz.results78, go_sem, r0, r1, r2, r3, r4, r5]) rfl ⟨by rw [he.out]; rfl, ?_⟩
          exact below_set6R hbl3 (Nat.le_refl _) _ _ _ _ _ _
    · have hqn : q < n := by have := lt_of_spB hd; rw [HL.out] at this; exact this
      obtain ⟨f, rfl⟩ : ∃ g, f = g + 1 := ⟨f - 1, by omega⟩
      have hG3 : Hid (spacesGo f l (q + 1) = s) := Lib.hid (by rw [← hG2.out]; conv => rhs; rw [spacesGo, if_pos hd])
      rw [hd] at g0
      clear hG2 hd
      go_wp2_with fail
      refine g0.mono ?_
      rintro e wq ⟨rfl, hwq⟩; replace hwq := hwq.symm; subst hwq
      go_wp2
      go_roundw
      case rel => exact ⟨f, q + 1, by go_num, hG3, by omega, by omega, by first | rfl | trivial⟩
      case measure => simp [intOf]; omega

theorem rcalled_any {b off n cap : Nat} {l : List Int} {w : World} (i : Int) (k : Nat) (h : Src w (some ⟨b, off, none⟩) n cap l) (hi : i = (k : Int)) (hk : k < n) :
    Calls Tryz.prog 78 #[.slice (some ⟨b, off, none⟩) n cap, .int .i64 i] w (Told (tkV (calledF l k)) w) := by
  rcases h40 : isB l (namesF l k).2 40 with _ | _
  · exact rcalled_ident i k h hi hk h40
  · exact rcalled_paren i k h hi hk h40
end
end Go.Proofs.YtdopmkiogmejaaaGreatDoor
