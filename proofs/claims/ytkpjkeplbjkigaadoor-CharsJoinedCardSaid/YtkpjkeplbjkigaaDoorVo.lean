/- The parts between blanks, by the document: the walk. -/
import Derived.Test.YtkpjkeplbjkigaaDoorVn
import Derived.Laws.AppendOwn
import Derived.OwnWalk
import Derived.Deep.AppendLies
namespace Go.Proofs.YtkpjkeplbjkigaaDoor
open Go.RowKit
set_option linter.unusedVariables false

/-- One more string behind a row of one's own. -/
theorem wpList_append_str {P : Program} {w : World} {ops : Array Oper} {rest : List Oper} {o : Oper} {a : Act} {Q : Exit → Act → World → Prop} (hgd : o.guard = none) (s x : Operand) (t : TypeId)
    (ho : o.op = .call { callee := .builtin .append, args := #[s, x], argTypes := #[t, t] })
    (base : Nat) (e : TypeId) (ht : P.underlying t = some (.slice e)) (hinfo : (P.info? e).map (fun i => (i.zero, i.size, i.bytes)) = some (some (.string ⟨#[]⟩), 1, 16))
    (v : Value) (n : Nat) (ss : List ByteArray) (hs : a.eval s = v) (w0 : World) (b : ByteArray) (hw : w = w0.alloc (.cells #[.string b] e)) (hown : w0.ownsRow base e 1 v n (ss.map Value.string)) (hx : a.eval x = .slice (some ⟨w0.heap.size, 0, none⟩) 1 1)
    (hn : n ≤ 1000001) (hbase : base ≤ w0.heap.size)
    (h : ∀ v' w', w'.ownsRow base e 1 v' (n + 1) ((ss ++ [b]).map Value.string) → w.grownBy w' v.ownBlock → wpList P ops Q rest (a.put o.dst v') w') : wpList P ops Q (o :: rest) a w := by
  subst hw
  obtain ⟨i, hi, hzz⟩ := Option.map_eq_some_iff.1 hinfo
  simp only [Prod.mk.injEq] at hzz
  obtain ⟨hz, hsz, hby⟩ := hzz
  refine wpList_append_own _ hgd s x t ho base e i (.string ⟨#[]⟩) 1 16 ht hi hz hsz hby rfl (by decide) v n _ hs (hown.alloc _) ⟨w0.heap.size, 0, none⟩ 1 1 [.string b] hx rfl
    (World.news_of_block (cs := #[.string b]) (t := e) (fr := (0, 0)) (heap_alloc_new w0 _)) (by simp [Value.oneCell']) (by unfold maxLen; omega) (by omega) (by simp; omega) (fun v' w' h1 h2 _ => h v' w' (by rw [List.map_append]; exact h1) h2)

theorem TrydinfoStr : (Tryd.prog.info? 9).map (fun i => (i.zero, i.size, i.bytes)) = some (some (.string ⟨#[]⟩), 1, 16) := by kernel_rfl

theorem strB_app (a b : ByteArray) : strB (a ++ b) = strB a ++ strB b := by unfold strB; simp
/-- How far the parts have come. -/
def RN (s : ByteArray) (k : Nat) (ss : List ByteArray) (p : ByteArray) : Prop :=
  if k ≤ s.size then ss.map strB ++ wordsGo (strB p) ((strB s).drop k) = words (strB s) else ss.map strB = words (strB s)
theorem RN.start (s : ByteArray) : RN s 0 [] ⟨#[]⟩ := by unfold RN; rw [if_pos (Nat.zero_le _)]; rfl
theorem RN.take {s : ByteArray} {k : Nat} {ss : List ByteArray} {p : ByteArray} (h : RN s k ss p) (hk : k < s.size) (hb : blankB (s[k]'hk) = false) : RN s (k + 1) ss (p ++ s.extract k (k + 1)) := by
  unfold RN at h ⊢
  rw [if_pos (Nat.le_of_lt hk)] at h
  rw [if_pos (show k + 1 ≤ s.size from hk), strB_app, strB_extract]
  rw [drop_at s k hk, wordsGo, if_neg (by rw [hb]; simp)] at h
  rw [drop_at s k hk, Nat.add_sub_cancel_left]
  exact h
theorem RN.more {s : ByteArray} {k : Nat} {ss : List ByteArray} {p : ByteArray} (h : RN s k ss p) (hk : k < s.size) (hb : blankB (s[k]'hk) = true) (hp : strB p ≠ []) : RN s (k + 1) (ss ++ [p]) ⟨#[]⟩ := by
  unfold RN at h ⊢
  rw [if_pos (Nat.le_of_lt hk), drop_at s k hk, wordsGo, if_pos hb, if_neg hp, ← List.append_assoc] at h
  rw [if_pos (show k + 1 ≤ s.size from hk), List.map_append]
  exact h
theorem RN.none {s : ByteArray} {k : Nat} {ss : List ByteArray} (h : RN s k ss ⟨#[]⟩) (hk : k < s.size) (hb : blankB (s[k]'hk) = true) : RN s (k + 1) ss ⟨#[]⟩ := by
  unfold RN at h ⊢
  rw [if_pos (Nat.le_of_lt hk), drop_at s k hk, wordsGo, if_pos hb, if_pos (show strB ⟨#[]⟩ = [] from rfl), List.nil_append] at h
  rw [if_pos (show k + 1 ≤ s.size from hk)]
  exact h
theorem RN.lastMore {s : ByteArray} {ss : List ByteArray} {p : ByteArray} (h : RN s s.size ss p) (hp : strB p ≠ []) : RN s (s.size + 1) (ss ++ [p]) ⟨#[]⟩ := by
  unfold RN at h ⊢
  rw [if_pos (Nat.le_refl _), List.drop_eq_nil_of_le (by rw [strB_len]; exact Nat.le_refl _), wordsGo, if_neg hp] at h
  rw [if_neg (by omega), List.map_append]
  exact h
theorem RN.lastNone {s : ByteArray} {ss : List ByteArray} (h : RN s s.size ss ⟨#[]⟩) : RN s (s.size + 1) ss ⟨#[]⟩ := by
  unfold RN at h ⊢
  rw [if_pos (Nat.le_refl _), List.drop_eq_nil_of_le (by rw [strB_len]; exact Nat.le_refl _), wordsGo, if_pos (show strB ⟨#[]⟩ = [] from rfl), List.append_nil] at h
  rw [if_neg (by omega)]
  exact h

theorem own_slice {w : World} {base e size n : Nat} {v : Value} {xs : List Value} (h : w.ownsRow base e size v n xs) : ∃ av cv, v = .slice av n cv := by
  rcases h.2 with ⟨rfl, h0⟩ | ⟨g, cap, cur, rfl, _⟩
  · exact ⟨none, 0, by rw [h0]⟩
  · exact ⟨_, cap, rfl⟩

/-- What gives the parts. -/
def ToldWords (s : ByteArray) (w : World) (e : Ending) (w' : World) : Prop := ∃ (v : Value) (ss : List ByteArray), e = .returned v ∧ w'.ownsRow w.heap.size 9 1 v ss.length (ss.map Value.string) ∧ ss.map strB = words (strB s) ∧ ss.length ≤ s.size + 1 ∧ Below w.heap.size w w'

set_option maxRecDepth 100000 in
set_option maxHeartbeats 4000000 in
theorem rnames_any (s : ByteArray) (w : World) (hs : s.size ≤ 1000000) : Calls Tryd.prog 15 #[.string s] w (ToldWords s w) := by
  have own0 := Lib.hid (World.ownsRow_made (base := w.heap.size) (e := 9) (size := 1) w #[] 0 (Nat.le_refl _) (by simp [maxLen]) (by simp))
  go_enter Tryd.func15, Tryd.ntmps15
  go_wp2
  go_loopw [3, 4, 5] (fun v pv i wr => ∃ (k : Nat) (ss : List ByteArray) (p : ByteArray), k ≤ s.size + 1 ∧ i = .int .i64 k ∧ pv = .string p ∧ p.size ≤ k ∧ wr.ownsRow w.heap.size 9 1 v ss.length (ss.map Value.string) ∧ ss.length ≤ k ∧ Hid (RN s k ss p) ∧ Below w.heap.size w wr)
    (fun _ _ i _ => s.size + 1 - (intOf i).toNat)
  case atStart => exact ⟨0, [], ⟨#[]⟩, by omega, rfl, rfl, by decide, own0.out, by simp, Lib.hid (RN.start s), (Below.refl _ w).alloc (Nat.le_refl _) _⟩
  case round =>
    obtain ⟨k, ss, p, hk, rfl, rfl, hp, hown, hss, hrn, hbl⟩ := hrel
    have hwz := hbl.size
    obtain ⟨n, hn⟩ : ∃ n, ss.length = n := ⟨_, rfl⟩
    rw [hn] at hown hss
    obtain ⟨av, cv, rfl⟩ := own_slice hown
    have HOWN := Lib.hid hown
    clear hown own0
    by_cases hlt : k < s.size
    · have hlt' : (k : Int) < (s.size : Int) := by omega
      have hle' : (k : Int) ≤ (s.size : Int) := by omega
      have hne' : ((k : Int) == (s.size : Int)) = false := beq_eq_false_iff_ne.2 (by omega)
      have hb8 := (s[k]'hlt).toNat_lt
      by_cases hp0 : strB p = []
      all_goals rcases blank_cases (s[k]'hlt) with ⟨hq, hbk⟩ | ⟨hq, hbk⟩
      · rcases (show (s[k]'hlt).toNat = 32 ∨ ((s[k]'hlt).toNat = 9 ∨ (s[k]'hlt).toNat = 10 ∨ (s[k]'hlt).toNat = 12 ∨ (s[k]'hlt).toNat = 13) by omega) with q | q
        · have HQ := Lib.hid hq
          clear hq
          have n1 : ((((s[k]'hlt).toNat : Nat) : Int) == 32) = true := beq_iff_eq.2 (by omega)
          obtain rfl := str_empty p hp0
          have HR2 := Lib.hid (hrn.out.none hlt hbk)
          clear q hbk hrn hp0
          go_wp2
          go_roundw
          case rel => exact ⟨k + 1, ss, ⟨#[]⟩, by omega, by go_num, rfl, by (show 0 ≤ _); omega, by rw [hn]; exact HOWN.out, by omega, HR2, hbl⟩
          case measure => simp [intOf]; omega
        · have HQ := Lib.hid hq
          clear hq
          have n1 : ((((s[k]'hlt).toNat : Nat) : Int) == 32) = false := beq_eq_false_iff_ne.2 (by omega)
          have n2 : (9 : Int) ≤ (((s[k]'hlt).toNat : Nat) : Int) := by omega
          have n3 : (((s[k]'hlt).toNat : Nat) : Int) ≤ (13 : Int) := by omega
          have n4 : ((((s[k]'hlt).toNat : Nat) : Int) == 11) = false := beq_eq_false_iff_ne.2 (by omega)
          obtain rfl := str_empty p hp0
          have HR2 := Lib.hid (hrn.out.none hlt hbk)
          clear q hbk hrn hp0
          go_wp2
          go_roundw
          case rel => exact ⟨k + 1, ss, ⟨#[]⟩, by omega, by go_num, rfl, by (show 0 ≤ _); omega, by rw [hn]; exact HOWN.out, by omega, HR2, hbl⟩
          case measure => simp [intOf]; omega
      · rcases (show (s[k]'hlt).toNat < 9 ∨ (13 < (s[k]'hlt).toNat ∧ (s[k]'hlt).toNat ≠ 32) ∨ (9 ≤ (s[k]'hlt).toNat ∧ (s[k]'hlt).toNat ≤ 13 ∧ (s[k]'hlt).toNat = 11) by omega) with q | q | q
        · have HQ := Lib.hid hq
          clear hq
          have n1 : ((((s[k]'hlt).toNat : Nat) : Int) == 32) = false := beq_eq_false_iff_ne.2 (by omega)
          have n2 : ¬ (9 : Int) ≤ (((s[k]'hlt).toNat : Nat) : Int) := by omega
          have HR2 := Lib.hid (hrn.out.take hlt hbk)
          have hz : (s.extract k (k + 1)).size = 1 := by rw [ByteArray.size_extract]; omega
          have hcat : ¬ 9223372036854775807 < p.size + (s.extract k (k + 1)).size := by omega
          have hz2 : (p ++ s.extract k (k + 1)).size ≤ k + 1 := by rw [ByteArray.size_append]; omega
          have HZ2 := Lib.hid hz2
          clear q hbk hrn hp0 hz hz2
          go_wp2
          go_roundw
          case rel => exact ⟨k + 1, ss, p ++ s.extract k (k + 1), by omega, by go_num, rfl, HZ2.out, by rw [hn]; exact HOWN.out, by omega, HR2, hbl⟩
          case measure => simp [intOf]; omega
        · have HQ := Lib.hid hq
          clear hq
          have n1 : ((((s[k]'hlt).toNat : Nat) : Int) == 32) = false := beq_eq_false_iff_ne.2 (by omega)
          have n2 : (9 : Int) ≤ (((s[k]'hlt).toNat : Nat) : Int) := by omega
          have n3 : ¬ (((s[k]'hlt).toNat : Nat) : Int) ≤ (13 : Int) := by omega
          have HR2 := Lib.hid (hrn.out.take hlt hbk)
          have hz : (s.extract k (k + 1)).size = 1 := by rw [ByteArray.size_extract]; omega
          have hcat : ¬ 9223372036854775807 < p.size + (s.extract k (k + 1)).size := by omega
          have hz2 : (p ++ s.extract k (k + 1)).size ≤ k + 1 := by rw [ByteArray.size_append]; omega
          have HZ2 := Lib.hid hz2
          clear q hbk hrn hp0 hz hz2
          go_wp2
          go_roundw
          case rel => exact ⟨k + 1, ss, p ++ s.extract k (k + 1), by omega, by go_num, rfl, HZ2.out, by rw [hn]; exact HOWN.out, by omega, HR2, hbl⟩
          case measure => simp [intOf]; omega
        · have HQ := Lib.hid hq
          clear hq
          have n1 : ((((s[k]'hlt).toNat : Nat) : Int) == 32) = false := beq_eq_false_iff_ne.2 (by omega)
          have n2 : (9 : Int) ≤ (((s[k]'hlt).toNat : Nat) : Int) := by omega
          have n3 : (((s[k]'hlt).toNat : Nat) : Int) ≤ (13 : Int) := by omega
          have n4 : ((((s[k]'hlt).toNat : Nat) : Int) == 11) = true := beq_iff_eq.2 (by omega)
          have HR2 := Lib.hid (hrn.out.take hlt hbk)
          have hz : (s.extract k (k + 1)).size = 1 := by rw [ByteArray.size_extract]; omega
          have hcat : ¬ 9223372036854775807 < p.size + (s.extract k (k + 1)).size := by omega
          have hz2 : (p ++ s.extract k (k + 1)).size ≤ k + 1 := by rw [ByteArray.size_append]; omega
          have HZ2 := Lib.hid hz2
          clear q hbk hrn hp0 hz hz2
          go_wp2
          go_roundw
          case rel => exact ⟨k + 1, ss, p ++ s.extract k (k + 1), by omega, by go_num, rfl, HZ2.out, by rw [hn]; exact HOWN.out, by omega, HR2, hbl⟩
          case measure => simp [intOf]; omega
      · rcases (show (s[k]'hlt).toNat = 32 ∨ ((s[k]'hlt).toNat = 9 ∨ (s[k]'hlt).toNat = 10 ∨ (s[k]'hlt).toNat = 12 ∨ (s[k]'hlt).toNat = 13) by omega) with q | q
        · have HQ := Lib.hid hq
          clear hq
          have n1 : ((((s[k]'hlt).toNat : Nat) : Int) == 32) = true := beq_iff_eq.2 (by omega)
          have HR2 := Lib.hid (hrn.out.more hlt hbk hp0)
          have hpn := ne_empty hp0
          clear q hbk hrn hp0
          go_wp2_with (at_builtin; refine wpList_append_str rfl _ _ 26 rfl w.heap.size 9 Tryd.underlying26 TrydinfoStr _ n ss rfl wr p rfl HOWN.out rfl (by omega) hwz ?_; intro v' w2 hown2 hgrow2)
          have hbl2 : Below w.heap.size w w2 := (hbl.alloc hwz _).grown hgrow2 (by simp <;> omega) (fun j hj => (HOWN.out.lt j hj).1)
          go_roundw
          case rel => exact ⟨k + 1, ss ++ [p], ⟨#[]⟩, by omega, by go_num, rfl, by (show 0 ≤ _); omega, by rw [List.length_append, hn]; exact hown2, by rw [List.length_append, hn]; simp <;> omega, HR2, hbl2⟩
          case measure => simp [intOf]; omega
        · have HQ := Lib.hid hq
          clear hq
          have n1 : ((((s[k]'hlt).toNat : Nat) : Int) == 32) = false := beq_eq_false_iff_ne.2 (by omega)
          have n2 : (9 : Int) ≤ (((s[k]'hlt).toNat : Nat) : Int) := by omega
          have n3 : (((s[k]'hlt).toNat : Nat) : Int) ≤ (13 : Int) := by omega
          have n4 : ((((s[k]'hlt).toNat : Nat) : Int) == 11) = false := beq_eq_false_iff_ne.2 (by omega)
          have HR2 := Lib.hid (hrn.out.more hlt hbk hp0)
          have hpn := ne_empty hp0
          clear q hbk hrn hp0
          go_wp2_with (at_builtin; refine wpList_append_str rfl _ _ 26 rfl w.heap.size 9 Tryd.underlying26 TrydinfoStr _ n ss rfl wr p rfl HOWN.out rfl (by omega) hwz ?_; intro v' w2 hown2 hgrow2)
          have hbl2 : Below w.heap.size w w2 := (hbl.alloc hwz _).grown hgrow2 (by simp <;> omega) (fun j hj => (HOWN.out.lt j hj).1)
          go_roundw
          case rel => exact ⟨k + 1, ss ++ [p], ⟨#[]⟩, by omega, by go_num, rfl, by (show 0 ≤ _); omega, by rw [List.length_append, hn]; exact hown2, by rw [List.length_append, hn]; simp <;> omega, HR2, hbl2⟩
          case measure => simp [intOf]; omega
      · rcases (show (s[k]'hlt).toNat < 9 ∨ (13 < (s[k]'hlt).toNat ∧ (s[k]'hlt).toNat ≠ 32) ∨ (9 ≤ (s[k]'hlt).toNat ∧ (s[k]'hlt).toNat ≤ 13 ∧ (s[k]'hlt).toNat = 11) by omega) with q | q | q
        · have HQ := Lib.hid hq
          clear hq
          have n1 : ((((s[k]'hlt).toNat : Nat) : Int) == 32) = false := beq_eq_false_iff_ne.2 (by omega)
          have n2 : ¬ (9 : Int) ≤ (((s[k]'hlt).toNat : Nat) : Int) := by omega
          have HR2 := Lib.hid (hrn.out.take hlt hbk)
          have hz : (s.extract k (k + 1)).size = 1 := by rw [ByteArray.size_extract]; omega
          have hcat : ¬ 9223372036854775807 < p.size + (s.extract k (k + 1)).size := by omega
          have hz2 : (p ++ s.extract k (k + 1)).size ≤ k + 1 := by rw [ByteArray.size_append]; omega
          have HZ2 := Lib.hid hz2
          clear q hbk hrn hp0 hz hz2
          go_wp2
          go_roundw
          case rel => exact ⟨k + 1, ss, p ++ s.extract k (k + 1), by omega, by go_num, rfl, HZ2.out, by rw [hn]; exact HOWN.out, by omega, HR2, hbl⟩
          case measure => simp [intOf]; omega
        · have HQ := Lib.hid hq
          clear hq
          have n1 : ((((s[k]'hlt).toNat : Nat) : Int) == 32) = false := beq_eq_false_iff_ne.2 (by omega)
          have n2 : (9 : Int) ≤ (((s[k]'hlt).toNat : Nat) : Int) := by omega
          have n3 : ¬ (((s[k]'hlt).toNat : Nat) : Int) ≤ (13 : Int) := by omega
          have HR2 := Lib.hid (hrn.out.take hlt hbk)
          have hz : (s.extract k (k + 1)).size = 1 := by rw [ByteArray.size_extract]; omega
          have hcat : ¬ 9223372036854775807 < p.size + (s.extract k (k + 1)).size := by omega
          have hz2 : (p ++ s.extract k (k + 1)).size ≤ k + 1 := by rw [ByteArray.size_append]; omega
          have HZ2 := Lib.hid hz2
          clear q hbk hrn hp0 hz hz2
          go_wp2
          go_roundw
          case rel => exact ⟨k + 1, ss, p ++ s.extract k (k + 1), by omega, by go_num, rfl, HZ2.out, by rw [hn]; exact HOWN.out, by omega, HR2, hbl⟩
          case measure => simp [intOf]; omega
        · have HQ := Lib.hid hq
          clear hq
          have n1 : ((((s[k]'hlt).toNat : Nat) : Int) == 32) = false := beq_eq_false_iff_ne.2 (by omega)
          have n2 : (9 : Int) ≤ (((s[k]'hlt).toNat : Nat) : Int) := by omega
          have n3 : (((s[k]'hlt).toNat : Nat) : Int) ≤ (13 : Int) := by omega
          have n4 : ((((s[k]'hlt).toNat : Nat) : Int) == 11) = true := beq_iff_eq.2 (by omega)
          have HR2 := Lib.hid (hrn.out.take hlt hbk)
          have hz : (s.extract k (k + 1)).size = 1 := by rw [ByteArray.size_extract]; omega
          have hcat : ¬ 9223372036854775807 < p.size + (s.extract k (k + 1)).size := by omega
          have hz2 : (p ++ s.extract k (k + 1)).size ≤ k + 1 := by rw [ByteArray.size_append]; omega
          have HZ2 := Lib.hid hz2
          clear q hbk hrn hp0 hz hz2
          go_wp2
          go_roundw
          case rel => exact ⟨k + 1, ss, p ++ s.extract k (k + 1), by omega, by go_num, rfl, HZ2.out, by rw [hn]; exact HOWN.out, by omega, HR2, hbl⟩
          case measure => simp [intOf]; omega
    · by_cases hk2 : k = s.size
      · subst hk2
        have hne' : ((s.size : Int) == (s.size : Int)) = true := beq_self_eq_true _
        by_cases hp0 : strB p = []
        · obtain rfl := str_empty p hp0
          have HR2 := Lib.hid hrn.out.lastNone
          clear hrn hp0 hlt
          go_wp2
          go_roundw
          case rel => exact ⟨s.size + 1, ss, ⟨#[]⟩, by omega, by go_num, rfl, by (show 0 ≤ _); omega, by rw [hn]; exact HOWN.out, by omega, HR2, hbl⟩
          case measure => simp [intOf]
        · have HR2 := Lib.hid (hrn.out.lastMore hp0)
          have hpn := ne_empty hp0
          clear hrn hp0 hlt
          go_wp2_with (at_builtin; refine wpList_append_str rfl _ _ 26 rfl w.heap.size 9 Tryd.underlying26 TrydinfoStr _ n ss rfl wr p rfl HOWN.out rfl (by omega) hwz ?_; intro v' w2 hown2 hgrow2)
          have hbl2 : Below w.heap.size w w2 := (hbl.alloc hwz _).grown hgrow2 (by simp <;> omega) (fun j hj => (HOWN.out.lt j hj).1)
          go_roundw
          case rel => exact ⟨s.size + 1, ss ++ [p], ⟨#[]⟩, by omega, by go_num, rfl, by (show 0 ≤ _); omega, by rw [List.length_append, hn]; exact hown2, by rw [List.length_append, hn]; simp <;> omega, HR2, hbl2⟩
          case measure => simp [intOf]
      · obtain rfl : k = s.size + 1 := by omega
        have HR2 : Hid (ss.map strB = words (strB s)) := by
          refine Lib.hid ?_
          have := hrn.out
          unfold RN at this
          rwa [if_neg (by omega)] at this
        have hnl : ¬ (((s.size + 1 : Nat) : Int) ≤ (s.size : Int)) := by omega
        have HN := Lib.hid hn
        clear hrn hlt hk2 hn
        go_wp2
        go_ret
        exact ⟨_, ss, rfl, by rw [HN.out]; exact HOWN.out, HR2.out, by rw [HN.out]; exact hss, hbl⟩
end Go.Proofs.YtkpjkeplbjkigaaDoor
