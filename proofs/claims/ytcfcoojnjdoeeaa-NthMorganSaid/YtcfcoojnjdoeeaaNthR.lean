/- Rows of truths by the document, and their parts: walks. -/
import Derived.Test.YtcfcoojnjdoeeaaNthQ
import Derived.OwnWalk
import Derived.Deep.AppendLies
namespace Go.Proofs.Ytcfcoojnjdoeeaa
open Go.RowKit

theorem RdB.of_owns {w : World} {base : Nat} {e : TypeId} {v : Value} {n : Nat} {S : Nat → Bool} (h : w.ownsRow base e 1 v n ((rowOf S n).map Value.bool)) :
    ∃ a cap, v = .slice a n cap ∧ RdB w a n cap (fun i => S (i + 1)) := by
  rcases h.2 with ⟨rfl, h0⟩ | ⟨g, cap, cur, rfl, hg, hh, hn, hcap, hsz, htake⟩
  · subst h0
    exact ⟨none, 0, rfl, by omega, by unfold maxLen; omega, .inl rfl⟩
  · refine ⟨_, cap, rfl, hn, hcap, .inr ⟨g, 0, rfl, (Array.getElem?_eq_some_iff.1 hh).1, fun j hj => ?_⟩⟩
    have hx := h.cells (g := g) rfl j (.bool (S (j + 1))) (by rw [List.getElem?_map, rowOf_at S hj]; rfl)
    rw [← hx]; congr 1; unfold Addr.add; simp

/-- One truth behind a row of one's own. -/
theorem wpList_append_bool {P : Program} {w : World} {ops : Array Oper} {rest : List Oper} {o : Oper} {a : Act} {Q : Exit → Act → World → Prop} (hgd : o.guard = none) (s x : Operand) (t : TypeId)
    (ho : o.op = .call { callee := .builtin .append, args := #[s, x], argTypes := #[t, t] })
    (base : Nat) (e : TypeId) (ht : P.underlying t = some (.slice e)) (hinfo : (P.info? e).map (fun i => (i.zero, i.size, i.bytes)) = some (some (.bool false), 1, 1))
    (v : Value) (n : Nat) (S : Nat → Bool) (hs : a.eval s = v) (w0 : World) (b : Bool) (hw : w = w0.alloc (.cells #[.bool b] e)) (hown : w0.ownsRow base e 1 v n ((rowOf S n).map Value.bool)) (hx : a.eval x = .slice (some ⟨w0.heap.size, 0, none⟩) 1 1)
    (hb : b = S (n + 1)) (hn : n ≤ 1000000) (hbase : base ≤ w0.heap.size)
    (h : ∀ v' w', w'.ownsRow base e 1 v' (n + 1) ((rowOf S (n + 1)).map Value.bool) → w.grownBy w' v.ownBlock → wpList P ops Q rest (a.put o.dst v') w') : wpList P ops Q (o :: rest) a w := by
  subst hw
  subst hb
  obtain ⟨i, hi, hzz⟩ := Option.map_eq_some_iff.1 hinfo
  simp only [Prod.mk.injEq] at hzz
  obtain ⟨hz, hsz, hby⟩ := hzz
  refine wpList_append_own _ hgd s x t ho base e i (.bool false) 1 1 ht hi hz hsz hby rfl (by decide) v n _ hs (hown.alloc _) ⟨w0.heap.size, 0, none⟩ 1 1 [.bool (S (n + 1))] hx rfl
    (World.news_of_block (cs := #[.bool (S (n + 1))]) (t := e) (fr := (0, 0)) (heap_alloc_new w0 _)) (by simp [Value.oneCell']) (by unfold maxLen; omega) (by omega) (by simp; omega) (fun v' w' h1 h2 _ => h v' w' (by rw [rowOf_snoc, List.map_append]; exact h1) h2)

/-- What gives a row. -/
def ToldRow (S : Nat → Bool) (n : Nat) (w : World) (e : Ending) (w' : World) : Prop := ∃ a cap, e = .returned (.slice a n cap) ∧ RdB w' a n cap (fun i => S (i + 1)) ∧ Below w.heap.size w w'

set_option maxRecDepth 100000 in
set_option maxHeartbeats 2000000 in
theorem row_any (a b : Int) (n : Nat) (w : World) (ha : -1099511627776 ≤ a ∧ a ≤ 1099511627776) (hb : -1099511627776 ≤ b ∧ b ≤ 1099511627776) (hn : n ≤ 1000000) :
    Calls Try.prog 10 #[.agg #[.int .i64 a, .int .i64 b], .int .i64 n] w (ToldRow (hasN a b) n w) := by
  have own0 := Lib.hid (World.ownsRow_made (base := w.heap.size + 1) (e := 4) (size := 1) (w.alloc (.cells #[.int .i64 a, .int .i64 b] 23)) #[] 0 (by simp) (by simp [maxLen]) (by simp))
  have hX := Lib.hid ((Blk.alloc (w := w) [.int .i64 a, .int .i64 b] 23).alloc_old (.cells #[] 4))
  have hH := fun k w hk => rhas_any a b (k : Int) w ha hb hk
  have B0 : Below w.heap.size w ((w.alloc (.cells #[.int .i64 a, .int .i64 b] 23)).alloc (.cells #[] 4)) := ((Below.refl _ w).alloc (Nat.le_refl _) _).alloc (by simp) _
  go_enter Try.func10, Try.ntmps10
  go_wp2
  go_loopw [5, 6] (fun v i wr => ∃ k : Nat, k ≤ n ∧ i = .int .i64 ((k : Int) + 1) ∧ wr.ownsRow (w.heap.size + 1) 4 1 v k ((rowOf (hasN a b) k).map Value.bool) ∧ Blk wr w.heap.size [.int .i64 a, .int .i64 b] 23 ∧ w.heap.size + 1 ≤ wr.heap.size ∧ Below w.heap.size w wr)
    (fun _ i _ => n + 1 - (intOf i).toNat)
  case atStart =>
    refine ⟨0, by omega, by rfl, ?_, hX.out, by simp, B0⟩
    have := own0.out
    rw [show (w.alloc (.cells #[.int .i64 a, .int .i64 b] 23)).heap.size = w.heap.size + 1 by simp] at this
    exact this
  case round =>
    obtain ⟨k, hk, rfl, hown, hB, hsz, hbl⟩ := hrel
    clear own0 hX B0
    by_cases hlt : k < n
    · have hlt' : (k : Int) + 1 ≤ (n : Int) := by omega
      have c0 := hB.cell 0 _ rfl
      have c1 := hB.cell 1 _ rfl
      have hc := fun w => hH ((k : Int) + 1) w (by omega)
      have he : hasF a b ((k : Int) + 1) = hasN a b (k + 1) := rfl
      rw [he] at hc
      have HB := Lib.hid hB
      have HO := Lib.hid hown
      obtain ⟨av, cv, rfl⟩ : ∃ av cv, _ = Value.slice av k cv := by
        obtain ⟨x, y, hxy, _⟩ := RdB.of_owns hown
        exact ⟨x, y, hxy⟩
      clear hB hown he hH
      go_wp2_with (first
        | (go_at_call 20; refine (hc _).mono ?_; rintro e wq ⟨rfl, hwq⟩; replace hwq := hwq.symm; subst hwq)
        | (at_builtin; refine wpList_append_bool rfl _ _ 26 rfl (w.heap.size + 1) 4 Try.underlying26 TryinfoBool _ k (hasN a b) rfl wr _ rfl HO.out rfl rfl (by omega) hsz ?_; intro v' w2 hown2 hgrow2))
      have hbl2 := (hbl.alloc hbl.size (.cells #[.bool (hasN a b (k + 1))] 4)).grown hgrow2 (by simp; omega) (fun j hj => Nat.le_of_succ_le (HO.out.lt j hj).1)
      go_roundw
      case rel => exact ⟨k + 1, by omega, by go_num, hown2, (HB.out.alloc_old _).kept hgrow2 (fun e => by have := (HO.out.lt _ e).1; omega), by have := hgrow2.size; simp at this; omega, hbl2⟩
      case measure => simp [intOf]; omega
    · obtain rfl : k = n := by omega
      obtain ⟨av, cv, rfl, hr⟩ := RdB.of_owns hown
      have HR := Lib.hid hr
      clear hown hB hH hr
      go_wp2
      go_ret
      exact ⟨av, cv, rfl, HR.out, hbl⟩
set_option maxRecDepth 100000 in
set_option maxHeartbeats 4000000 in
theorem rparts_any (a : Option Addr) (cap : Nat) (S : Nat → Bool) (h p : Nat) (w : World) (hr : RdB w a 400 cap (fun i => S (i + 1))) (L : LeastP S h p) (hsz : h + p ≤ 200) :
    Calls Try.prog 29 #[.slice a 400 cap] w (ToldB (.tuple #[.int .i64 h, .int .i64 p]) w) := by
  have hp := L.pos
  have HR := Lib.hid hr
  have L := Lib.hid L
  clear hr
  go_enter Try.func29, Try.ntmps29
  go_wp2
  go_loopw [5, 6] (fun i _ wr => ∃ q : Nat, 1 ≤ q ∧ q ≤ p ∧ i = .int .i64 q ∧ Below w.heap.size w wr) (fun i _ _ => p + 1 - (intOf i).toNat)
  case atStart => exact ⟨1, by omega, by omega, rfl, Below.refl _ _⟩
  case round =>
    obtain ⟨q, hq1, hq2, rfl, hbl⟩ := hrel
    have hq3 : 2 * (q : Int) ≤ 400 := by omega
    have HRr := Lib.hid (HR.out.later hbl)
    go_wp2
    go_loopw [6] (fun v wr2 => ∃ h' : Nat, h' ≤ 400 - q ∧ v = .int .i64 h' ∧ Hid (descend S q (400 - q) = descend S q h') ∧ Below wr.heap.size wr wr2) (fun v _ => (intOf v).toNat)
    case atStart => exact ⟨400 - q, by omega, by congr 1; omega, Lib.hid rfl, Below.refl _ _⟩
    case round =>
      obtain ⟨h', hh, rfl, hdd, hbl3⟩ := hrel
      have hbl2 := hbl.trans (hbl3.mono hbl.size)
      rcases Nat.eq_zero_or_pos h' with h0 | h0
      · subst h0
        have hd : descend S q (400 - q) = 0 := hdd.out
        have hqp : q = p := by
          by_cases c : q = p
          · exact c
          · have hno := descend_none L.out hsz hq1 (by omega)
            rw [hd] at hno
            omega
        subst hqp
        obtain rfl : 0 = h := hd.symm.trans (descend_head L.out (by omega))
        have g0 : decide (0 < ((0 : Nat) : Int)) = false := rfl
        have g1 : (q : Int) ≤ 200 := by omega
        clear hdd hd
        go_wp2_with fail
        go_quiet (fail)
        go_wp2
        go_ret2
        exact ⟨ret_tup (by simp) rfl, by first | exact below_drewN hbl2 _ | exact hbl2⟩
      · obtain ⟨m, rfl⟩ : ∃ m, h' = m + 1 := ⟨h' - 1, by omega⟩
        have RR := (HRr.out.later hbl3)
        obtain ⟨b, off, hA, hc1⟩ := rdB_at RR m (by omega)
        obtain ⟨b2, off2, hA2, hc2⟩ := rdB_at RR (m + q) (by omega)
        subst hA
        obtain ⟨rfl, rfl⟩ : b = b2 ∧ off = off2 := by injection hA2 with e; injection e with e1 e2; exact ⟨e1, e2⟩
        clear hA2 RR
        rw [show ((m + 1 : Nat) : Int) = (m : Int) + 1 by omega]
        have hw1 : IntKind.i64.wrap ((m : Int) + 1 - 1) = m := by rw [IntWalk.i64_in _ (by omega)]; omega
        have hw2 : IntKind.i64.wrap ((m : Int) + (q : Int)) = (m : Int) + q := by rw [IntWalk.i64_in _ (by omega)]
        have b1 : (0 : Int) ≤ (m : Int) + q := by omega
        have b2 : (m : Int) + q < 400 := by omega
        have b3 : ((m : Int) + (q : Int)).toNat = m + q := by omega
        have b4 : (m : Int) < 400 := by omega
        have b5 : (0 : Int) ≤ (m : Int) := by omega
        have g0 : decide (0 < (m : Int) + 1) = true := decide_eq_true (by omega)
        by_cases he : S (m + 1) = S (m + 1 + q)
        · have HD := Lib.hid (show descend S q (400 - q) = descend S q m by rw [hdd.out]; exact if_pos he)
          rw [show m + q + 1 = m + 1 + q by omega, ← he] at hc2
          clear hdd he
          generalize S (m + 1) = r at *
          have nr : (r == r) = true := beq_self_eq_true _
          go_wp2_with fail
          go_quiet (fail)
          go_wp2
          go_roundw
          case rel => exact ⟨m, by omega, by first | rfl | (congr 1), HD, below_drewN hbl3 _⟩
          case measure => simp [intOf]
        · have hd : descend S q (400 - q) = m + 1 := by rw [hdd.out]; exact if_neg he
          rw [show m + q + 1 = m + 1 + q by omega] at hc2
          clear hdd
          have hne : ∀ r s : Bool, r ≠ s → (r == s) = false := fun r s x => beq_eq_false_iff_ne.2 x
          have nr := hne _ _ he
          clear hne
          generalize S (m + 1) = r at *
          generalize S (m + 1 + q) = s at *
          by_cases hqp : q = p
          · subst hqp
            obtain rfl : m + 1 = h := (hd.symm.trans (descend_head L.out (by omega)))
            have hle : (m : Int) + 1 + (q : Int) ≤ 200 := by omega
            clear hd
            cases r <;> cases s
            · exact absurd rfl he
            rotate_right
            · exact absurd rfl he
            all_goals
              clear he
              go_wp2_with fail
              go_quiet (fail)
              go_wp2
              go_ret2
              exact ⟨ret_tup (by omega) rfl, below_drewN hbl2 _⟩
          · have hno := descend_none L.out hsz hq1 (by omega)
            rw [hd] at hno
            have hle : ¬ (m : Int) + 1 + (q : Int) ≤ 200 := by omega
            clear hd
            cases r <;> cases s
            · exact absurd rfl he
            rotate_right
            · exact absurd rfl he
            all_goals
              clear he
              go_wp2_with fail
              go_quiet (fail)
              go_wp2
              go_roundw
              case rel => exact ⟨q + 1, by omega, by omega, by go_num, below_drewN hbl2 _⟩
              case measure => simp [intOf]; omega
end Go.Proofs.Ytcfcoojnjdoeeaa
