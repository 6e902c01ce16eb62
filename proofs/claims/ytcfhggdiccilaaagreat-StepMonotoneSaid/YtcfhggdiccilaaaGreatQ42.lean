/- Texts of mine in one: St6 St8 St9. -/
import Derived.Shelf.Abstract
import Derived.FnLit
import Derived.Test.YtcfhggdiccilaaaGreatQ34
import Derived.Test.YtcfhggdiccilaaaGreatQ41
import Derived.Test.YtcfhggdiccilaaaGreatQ38
import Derived.Test.YtcfhggdiccilaaaGreatQ40
import Derived.Laws.CopyOwn
namespace Go.Proofs.YtcfhggdiccilaaaGreat
section
open Go.RowKit Go.Shelf
set_option linter.unusedVariables false
set_option linter.unusedSimpArgs false
theorem any_take {xs : List Int} {f : Int → Bool} {k : Nat} {x : Int} (h : xs[k]? = some x) : (xs.take (k + 1)).any f = ((xs.take k).any f || f x) := by rw [take_snoc h, List.any_append]; simp
theorem any_mem {xs : List Int} {f : Int → Bool} {x : Int} (h : x ∈ xs) (hf : f x = true) : xs.any f = true := List.any_eq_true.2 ⟨x, h, hf⟩
def IdxP (b : Bool) (w : World) (e : Ending) (w' : World) : Prop := ∃ r : Int, e = .returned (.int .i64 r) ∧ decide (0 ≤ r) = b ∧ Below w.heap.size w w'
set_option maxRecDepth 100000 in
set_option maxHeartbeats 2000000 in
theorem idx_any {w : World} {a : Option Addr} {n c : Nat} {xs : List Int} (hx : IntsAt (· < w.heap.size) w a n c xs) (g : Nat) (p : Value) (f : Int → Bool) (eg : ∀ args w, (callFunc g args).run Tryz.prog w = .ok (.enter g args) w) (hf : ∀ (i : Int) (w' : World), Below w.heap.size w w' → Calls Tryz.prog g #[p, .int .i64 i] w' (Told (.bool (f i)) w')) :
    Calls Tryz.prog 45 #[.slice a n c, .func (.func g) #[p] #[]] w (IdxP (xs.any f) w) := by
  have HX := Lib.hid hx
  have HXN := Lib.hid (show n = xs.length from hx.1)
  have hnm : n ≤ 140737488351232 := hx.2.2.1.2
  have HF := Lib.hid hf
  obtain ⟨R, hR⟩ : ∃ R, xs.any f = R := ⟨_, rfl⟩
  have HR := Lib.hid hR
  rw [hR]
  clear hx hf hR
  go_enter Tryz.func45, Tryz.ntmps45
  go_wp2
  go_loopw [8] (fun iv wr => ∃ i : Nat, i ≤ n ∧ iv = .int .i64 i ∧ Hid ((xs.take i).any f = false) ∧ Hid (Below w.heap.size w wr)) (fun iv _ => n - (intOf iv).toNat)
  case atStart => exact ⟨0, Nat.zero_le _, rfl, Lib.hid rfl, Lib.hid (Below.refl _ _)⟩
  case round =>
    obtain ⟨i, hi, rfl, HA, HB⟩ := hrel
    by_cases hlt : i < n
    · obtain ⟨x, hxx⟩ : ∃ x, xs[i]? = some x := ⟨_, List.getElem?_eq_getElem (by rw [← HXN.out]; exact hlt)⟩
      obtain ⟨b, off, rfl, hb, hc⟩ := HX.out.at i x hxx
      rw [Nat.mul_one] at hc
      have u0 : wr.cell? ⟨b, off + i, none⟩ = some (.int .i64 x) := (HB.out.cell (p := ⟨b, off + i, none⟩) hb).trans hc
      have hiI : (0 : Int) ≤ (i : Int) := by omega
      have hiI2 : (i : Int) < (n : Int) := by omega
      have cF := HF.out x wr HB.out
      have HTK := Lib.hid (any_take (f := f) hxx)
      have HMM := Lib.hid (fun h => any_mem (f := f) (List.mem_of_getElem? hxx) h)
      have HFX : ∃ q, f x = q := ⟨_, rfl⟩
      clear hxx hc hb
      obtain ⟨q, hq⟩ := HFX
      rw [hq] at HTK cF
      cases q with
      | true =>
        obtain rfl : R = true := by rw [← HR.out]; exact HMM.out hq
        clear hq
        go_wp2_with (go_at_fn g; refine cF.mono ?_; rintro e w' ⟨rfl, hb1⟩; have H1 := Lib.hid (HB.out.trans (hb1.mono HB.out.size)))
        go_ret
        exact ⟨_, rfl, decide_eq_true hiI, H1.out⟩
      | false =>
        clear hq
        go_wp2_with (go_at_fn g; refine cF.mono ?_; rintro e w' ⟨rfl, hb1⟩; have H1 := Lib.hid (HB.out.trans (hb1.mono HB.out.size)))
        go_roundw
        case rel => exact ⟨i + 1, by omega, by go_num, Lib.hid (by rw [HTK.out, HA.out]; rfl), H1⟩
        case measure => simp [intOf]; omega
    · obtain rfl : i = n := by omega
      have hiI2 : ¬ (i : Int) < (i : Int) := by omega
      obtain rfl : R = false := by
        have := HA.out
        rw [List.take_of_length_le (by rw [← HXN.out]; exact Nat.le_refl _), HR.out] at this
        exact this
      go_wp2
      go_ret
      exact ⟨_, rfl, by decide, HB.out⟩
set_option maxRecDepth 100000 in
set_option maxHeartbeats 1000000 in
theorem cont_any {w : World} {a : Option Addr} {n c : Nat} {xs : List Int} (hx : IntsAt (· < w.heap.size) w a n c xs) (g : Nat) (p : Value) (f : Int → Bool) (eg : ∀ args w, (callFunc g args).run Tryz.prog w = .ok (.enter g args) w) (hf : ∀ (i : Int) (w' : World), Below w.heap.size w w' → Calls Tryz.prog g #[p, .int .i64 i] w' (Told (.bool (f i)) w')) :
    Calls Tryz.prog 32 #[.slice a n c, .func (.func g) #[p] #[]] w (Told (.bool (xs.any f)) w) := by
  have fI := idx_any hx g p f eg hf
  clear hx hf
  generalize xs.any f = R at *
  go_enter Tryz.func32, Tryz.ntmps32
  go_wp2_with (go_at_call 45; (with_reducible refine fI.mono ?_); rintro e w1 ⟨r, rfl, hr, hb1⟩; have H1 := Lib.hid hb1; have HRR := Lib.hid hr; clear fI)
  go_ret
  exact ⟨rfl, H1.out⟩
end

section
open Go.RowKit Go.Shelf
set_option linter.unusedVariables false
set_option linter.unusedSimpArgs false
def countsB (rows : List RowF) (truths : List Bool) (c : CtF) : Bool := if c.rows = [] then true else c.rows.any (rowI rows truths)
theorem BoolsAt.later {w w' : World} {a : Option Addr} {n c : Nat} {bs : List Bool} (h : BoolsAt (· < w.heap.size) w a n c bs) (hb : Below w.heap.size w w') : BoolsAt (· < w'.heap.size) w' a n c bs := h.move (fun b hb' => ⟨Nat.lt_of_lt_of_le hb' hb.size, hb.block b hb'⟩)
theorem IntsAt.later {w w' : World} {a : Option Addr} {n c : Nat} {bs : List Int} (h : IntsAt (· < w.heap.size) w a n c bs) (hb : Below w.heap.size w w') : IntsAt (· < w'.heap.size) w' a n c bs := h.move (fun b hb' => ⟨Nat.lt_of_lt_of_le hb' hb.size, hb.block b hb'⟩)
set_option maxRecDepth 100000 in
set_option maxHeartbeats 1000000 in
theorem counts_any {w : World} {g : Nat} {P : PlV} {rows : List RowF} {ctrs : List CtF} {ta : Option Addr} {tn tc : Nat} {truths : List Bool} (hg : Blk w g (fitC P ta tn tc) 58) (h : PlOk w P rows ctrs) (ht : BoolsAt (· < w.heap.size) w ta tn tc truths) {c : CtF} {a : Option Addr} {n cc : Nat} (hc : IntsAt (· < w.heap.size) w a n cc c.rows) :
    Calls Tryz.prog 21 #[.pointer (some ⟨g, 0, none⟩), .agg #[.int .i64 c.a, .int .i64 c.b, .slice a n cc]] w (Told (.bool (countsB rows truths c)) w) := by
  have hb0 := (Below.refl w.heap.size w).alloc (Nat.le_refl _) (.cells #[.int .i64 c.a, .int .i64 c.b, .slice a n cc] 62)
  have HB := Lib.hid hb0
  have D0 := Blk.alloc (w := w) (T := 62) [.int .i64 c.a, .int .i64 c.b, .slice a n cc]
  have d2 := D0.cell 2 _ rfl
  have fC := cont_any (hc.later hb0) 33 (.pointer (some ⟨g, 0, none⟩)) (rowI rows truths) (enters_of Tryz.func33 (by kernel_rfl) rfl) (fun i w' hb => row5_any ((hg.later hb0 hg.lt).later hb (hg.later hb0 hg.lt).lt) ((h.rd.later hb0).later hb) h.steps h.first ((ht.later hb0).later hb) i)
  have hn : n = c.rows.length := hc.1
  unfold countsB
  clear D0 hb0
  by_cases h0 : n = 0
  · rw [if_pos (List.length_eq_zero_iff.1 (by omega))]
    subst h0
    clear hg h ht hc fC hn
    go_enter Tryz.func21, Tryz.ntmps21
    go_wp2
    go_ret
    exact ⟨rfl, HB.out⟩
  · rw [if_neg (fun e => h0 (by rw [hn, e]; rfl))]
    have q0 : ((n : Int) == 0) = false := beq_eq_false_iff_ne.2 (by omega)
    generalize c.rows.any (rowI rows truths) = R at *
    clear hg h ht hc hn
    go_enter Tryz.func21, Tryz.ntmps21
    go_wp2_with (go_at_call 32; (with_reducible refine fC.mono ?_); rintro e w1 ⟨rfl, hb1⟩; have H1 := Lib.hid (HB.out.trans (hb1.mono HB.out.size)); clear fC)
    go_ret
    exact ⟨rfl, H1.out⟩
def moreF (a b n : Int) : Int := foldI (spanF [(a, b)]).1 (spanF [(a, b)]).2 (foldI (spanF [(a, b)]).1 (spanF [(a, b)]).2 n + 1)
theorem foldI_bd (h p n M : Int) (hp : 1 ≤ p) (h0 : 0 ≤ n) (hn : n ≤ M) (hh : 0 ≤ h) : 0 ≤ foldI h p n ∧ foldI h p n ≤ max M (h + p) := by
  unfold foldI
  by_cases c : n ≤ h
  · rw [if_pos c]; omega
  · rw [if_neg c]
    have h1 := Int.emod_nonneg (n - h - 1) (show p ≠ 0 by omega)
    have h2 := Int.emod_lt_of_pos (n - h - 1) (show 0 < p by omega)
    omega
set_option maxRecDepth 100000 in
set_option maxHeartbeats 1000000 in
theorem more_any {w : World} (c : CtF) (a : Option Addr) (n cc : Nat) (hab : (-1000000 ≤ c.a ∧ c.a ≤ 1000000) ∧ (-1000000 ≤ c.b ∧ c.b ≤ 1000000)) (i : Int) (hi : 0 ≤ i ∧ i ≤ 1099511627776) :
    Calls Tryz.prog 22 #[.agg #[.int .i64 c.a, .int .i64 c.b, .slice a n cc], .int .i64 i] w (Told (.int .i64 (moreF c.a c.b i)) w) := by
  have hb0 := (Below.refl w.heap.size w).alloc (Nat.le_refl _) (.cells #[.int .i64 c.a, .int .i64 c.b, .slice a n cc] 62)
  have D0 := Blk.alloc (w := w) (T := 62) [.int .i64 c.a, .int .i64 c.b, .slice a n cc]
  have d0 := D0.cell 0 _ rfl
  have d1 := D0.cell 1 _ rfl
  have hb1 := hb0.alloc hb0.size (.cells #[.int .i64 c.a, .int .i64 c.b] 60)
  have HB := Lib.hid hb1
  have D1 := Blk.alloc (w := w.alloc (.cells #[.int .i64 c.a, .int .i64 c.b, .slice a n cc] 62)) (T := 60) [.int .i64 c.a, .int .i64 c.b]
  rw [show (w.alloc (.cells #[.int .i64 c.a, .int .i64 c.b, .slice a n cc] 62)).heap.size = w.heap.size + 1 from by simp] at D1
  have hF : Fits [(c.a, c.b)] := fun x hx => by obtain rfl := List.mem_singleton.1 hx; dsimp only; omega
  have fS := span_any (some ⟨w.heap.size + 1, 0, none⟩) 1 1 [(c.a, c.b)] rfl (by omega) _ (.inr ⟨w.heap.size + 1, 0, rfl, D1.lt, fun i x hi => by
    cases i with
    | zero => obtain rfl := Option.some.inj hi; exact ⟨D1.cell 0 _ rfl, D1.cell 1 _ rfl⟩
    | succ i => simp at hi⟩) hF
  have hbd := spanF_bd [(c.a, c.b)] hF
  have hsm : (spanF [(c.a, c.b)]).2 ≤ 1099511627776 := by
    show mulF 1 (spanR c.a) ≤ _
    unfold mulF spanR
    have h1 : Nat.gcd 1 (max c.a.natAbs 1) = 1 := Nat.gcd_one_left _
    rw [h1]
    split
    · rename_i hc
      have : 4611686018427387904 / max c.a.natAbs 1 ≥ 1 := Nat.div_pos (by omega) (by omega)
      omega
    · omega
  unfold moreF
  generalize spanF [(c.a, c.b)] = hp at *
  obtain ⟨h, p⟩ := hp
  dsimp only at *
  have hfb := foldI_bd h p i 1099511627776 (by omega) hi.1 hi.2 (by omega)
  have fF1 := fun w => fold_any h p i w (by omega) (by omega) (by omega)
  have fF2 := fun w => fold_any h p (foldI h p i + 1) w (by omega) (by omega) (by omega)
  have hq1 : -9223372036854775808 ≤ foldI h p i + 1 ∧ foldI h p i + 1 ≤ 9223372036854775807 := by omega
  generalize foldI h p i = q at *
  generalize foldI h p (q + 1) = r at *
  clear hF D0 D1 hb0 hb1 hsm hbd hab hi
  go_enter Tryz.func22, Tryz.ntmps22
  go_wp2_with (first
    | (go_at_call 34; (with_reducible refine fS.mono ?_); rintro e w1 ⟨rfl, hb1⟩; have H1 := Lib.hid (HB.out.trans (hb1.mono HB.out.size)); clear fS)
    | (go_at_call 35; (with_reducible refine (fF1 _).mono ?_); rintro e w2 ⟨rfl, rfl⟩)
    | (go_at_call 35; (with_reducible refine (fF2 _).mono ?_); rintro e w2 ⟨rfl, rfl⟩))
  go_ret
  exact ⟨rfl, H1.out⟩
end

section
open Go.RowKit
set_option linter.unusedVariables false
set_option linter.unusedSimpArgs false
theorem setRow_grown (w : World) (g : Nat) (cs : Array Value) : w.grownBy (w.setRow g cs) (some g) := ⟨rfl, rfl, rfl, by simp, fun k _ hk => setRow_other w g k cs (fun e => hk (by rw [e]))⟩
theorem wpList_copy_grown {P : Program} {w : World} {ops : Array Oper} {rest : List Oper} {o : Oper} {a : Act} {Q : Exit → Act → World → Prop} (hgd : o.guard = none) (d s : Operand) (dT sT : TypeId)
    (ho : o.op = .call { callee := .builtin .copy, args := #[d, s], argTypes := #[dT, sT] }) (elem : TypeId) (hu : P.underlying dT = some (.slice elem)) (hsz : (P.info? elem).map (·.size) = some 1)
    (g : Nat) (sp : Option Addr) (dLen dCap sLen sCap : Nat) (hd : a.eval d = .slice (some ⟨g, 0, none⟩) dLen dCap) (hs : a.eval s = .slice sp sLen sCap)
    (cur : List Value) (t : TypeId) (hg : Blk w g cur t) (cs : List Value) (hn : cs.length = Nat.min sLen dLen)
    (hpos : 0 < cs.length → ∃ ad, sp = some ad ∧ ∀ j v, cs[j]? = some v → w.cell? (ad.add j) = some v)
    (hfit : cs.length ≤ cur.length) (h1 : ∀ v ∈ cs, v.oneCell' = true)
    (h : ∀ w', Hid (Blk w' g (splice cur 0 cs) t) → w.grownBy w' (some g) → wpList P ops Q rest (a.put o.dst (goInt cs.length)) w') :
    wpList P ops Q (o :: rest) a w := by
  have hg' : w.heap[g]? = some (.cells cur.toArray t (0, 0)) := hg
  by_cases h0 : cs.length = 0
  · obtain rfl : cs = [] := List.eq_nil_of_length_eq_zero h0
    refine wpList_copy_nothing hgd d s dT sT ho elem hu hsz _ sp dLen dCap sLen sCap hd hs (by simpa using hn.symm) ?_
    exact h w (show _ = _ by simpa [splice] using hg') (World.grownBy.refl _ _)
  · obtain ⟨ad, rfl, hsrc⟩ := hpos (by omega)
    refine wpList_copy_own hgd d s dT sT ho elem hu hsz g 0 dLen dCap ad sLen sCap hd hs cur.toArray t hg' cs hn hsrc (by simpa using hfit) h1 ?_
    exact h _ (show _ = _ by simpa [splice] using setRow_heap w g _ _ t _ hg') (setRow_grown _ _ _)
theorem splice_B (outs src : List Bool) : splice (outs.map Value.bool) 0 ((src.take outs.length).map Value.bool) = (copyB outs src).map Value.bool := by
  unfold splice copyB
  rw [List.take_zero, List.nil_append, List.map_append, List.length_map, List.length_take, Nat.zero_add, ← List.map_drop]
  congr 2
  by_cases h : src.length ≤ outs.length
  · rw [Nat.min_eq_right h]
  · rw [Nat.min_eq_left (by omega), List.drop_of_length_le (Nat.le_refl _), List.drop_of_length_le (by omega)]
theorem splice_I (outs src : List Int) : splice (outs.map (Value.int .i64)) 0 ((src.take outs.length).map (Value.int .i64)) = (copyI outs src).map (Value.int .i64) := by
  unfold splice copyI
  rw [List.take_zero, List.nil_append, List.map_append, List.length_map, List.length_take, Nat.zero_add, ← List.map_drop]
  congr 2
  by_cases h : src.length ≤ outs.length
  · rw [Nat.min_eq_right h]
  · rw [Nat.min_eq_left (by omega), List.drop_of_length_le (Nat.le_refl _), List.drop_of_length_le (by omega)]
theorem addB (b o n : Nat) : (⟨b, o, none⟩ : Addr).add n = ⟨b, o + n, none⟩ := by simp [Addr.add]
theorem bools_src {ok : Nat → Prop} {w : World} {a : Option Addr} {n c m : Nat} {bs : List Bool} (h : BoolsAt ok w a n c bs) : ((bs.take m).map Value.bool).length = Nat.min n m ∧ (0 < ((bs.take m).map Value.bool).length → ∃ ad, a = some ad ∧ ∀ j v, ((bs.take m).map Value.bool)[j]? = some v → w.cell? (ad.add j) = some v) ∧ (∀ v ∈ (bs.take m).map Value.bool, v.oneCell' = true) := by
  refine ⟨by rw [List.length_map, List.length_take, h.1, Nat.min_comm], fun hp => ?_, fun v hv => ?_⟩
  · obtain ⟨_, _, _, h4⟩ := h
    rcases h4 with rfl | ⟨b, off, rfl, hb, hc⟩
    · simp at hp
    · refine ⟨_, rfl, fun j v hv => ?_⟩
      rw [List.getElem?_map] at hv
      obtain ⟨x, hx, rfl⟩ := Option.map_eq_some_iff.1 hv
      have hx2 : bs[j]? = some x := by
        rw [List.getElem?_take] at hx
        split at hx
        · exact hx
        · cases hx
      have := hc j x hx2
      rw [Nat.mul_one] at this
      rw [addB b off j]
      exact this
  · obtain ⟨x, _, rfl⟩ := List.mem_map.1 hv
    rfl
theorem ints_src {ok : Nat → Prop} {w : World} {a : Option Addr} {n c m : Nat} {bs : List Int} (h : IntsAt ok w a n c bs) : ((bs.take m).map (Value.int .i64)).length = Nat.min n m ∧ (0 < ((bs.take m).map (Value.int .i64)).length → ∃ ad, a = some ad ∧ ∀ j v, ((bs.take m).map (Value.int .i64))[j]? = some v → w.cell? (ad.add j) = some v) ∧ (∀ v ∈ (bs.take m).map (Value.int .i64), v.oneCell' = true) := by
  refine ⟨by rw [List.length_map, List.length_take, h.1, Nat.min_comm], fun hp => ?_, fun v hv => ?_⟩
  · obtain ⟨_, _, _, h4⟩ := h
    rcases h4 with rfl | ⟨b, off, rfl, hb, hc⟩
    · simp at hp
    · refine ⟨_, rfl, fun j v hv => ?_⟩
      rw [List.getElem?_map] at hv
      obtain ⟨x, hx, rfl⟩ := Option.map_eq_some_iff.1 hv
      have hx2 : bs[j]? = some x := by
        rw [List.getElem?_take] at hx
        split at hx
        · exact hx
        · cases hx
      have := hc j x hx2
      rw [Nat.mul_one] at this
      rw [addB b off j]
      exact this
  · obtain ⟨x, _, rfl⟩ := List.mem_map.1 hv
    rfl
def nxtI (rows : List RowF) (truths : List Bool) (ctrs : List CtF) (base : List Int) (i : Nat) : List Int :=
  (List.range base.length).map fun j => match ctrs[j]? with
    | some c => if j < i ∧ countsB rows truths c = true then moreF c.a c.b (atI base j) else atI base j
    | none => atI base j
theorem nxtI_get (rows : List RowF) (truths : List Bool) (ctrs : List CtF) (base : List Int) (i j : Nat) : (nxtI rows truths ctrs base i)[j]? = if j < base.length then some (match ctrs[j]? with
    | some c => if j < i ∧ countsB rows truths c = true then moreF c.a c.b (atI base j) else atI base j
    | none => atI base j) else none := by
  unfold nxtI
  rw [List.getElem?_map]
  by_cases h : j < base.length
  · rw [List.getElem?_range h, if_pos h]; rfl
  · rw [List.getElem?_eq_none (by rw [List.length_range]; omega), if_neg h]; rfl
theorem nxtI_len (rows : List RowF) (truths : List Bool) (ctrs : List CtF) (base : List Int) (i : Nat) : (nxtI rows truths ctrs base i).length = base.length := by unfold nxtI; simp
theorem nxtI_zero (rows : List RowF) (truths : List Bool) (ctrs : List CtF) (base : List Int) : nxtI rows truths ctrs base 0 = base := by
  apply List.ext_getElem?
  intro j
  rw [nxtI_get]
  by_cases h : j < base.length
  · rw [if_pos h]
    have hb : base[j]? = some (atI base j) := by unfold atI; rw [List.getElem?_eq_getElem h]; rfl
    rw [hb]
    cases ctrs[j]? with
    | none => rfl
    | some c => simp
  · rw [if_neg h, List.getElem?_eq_none (by omega)]
theorem nxtI_yes {rows : List RowF} {truths : List Bool} {ctrs : List CtF} {base : List Int} {i : Nat} {c : CtF} (hc : ctrs[i]? = some c) (hi : i < base.length) (h : countsB rows truths c = true) : nxtI rows truths ctrs base (i + 1) = (nxtI rows truths ctrs base i).set i (moreF c.a c.b (atI base i)) := by
  apply List.ext_getElem?
  intro j
  rw [List.getElem?_set, nxtI_get, nxtI_get, nxtI_len]
  by_cases hij : i = j
  · subst hij
    rw [if_pos rfl, if_pos hi, if_pos hi, hc]
    dsimp only
    rw [if_pos ⟨Nat.lt_succ_self i, h⟩]
  · rw [if_neg hij]
    by_cases hj : j < base.length
    · rw [if_pos hj, if_pos hj]
      cases ctrs[j]? with
      | none => rfl
      | some c' =>
        dsimp only
        by_cases hji : j < i
        · simp [hji, show j < i + 1 by omega]
        · simp [hji, show ¬ j < i + 1 by omega]
    · rw [if_neg hj, if_neg hj]
theorem nxtI_no {rows : List RowF} {truths : List Bool} {ctrs : List CtF} {base : List Int} {i : Nat} {c : CtF} (hc : ctrs[i]? = some c) (h : countsB rows truths c = false) : nxtI rows truths ctrs base (i + 1) = nxtI rows truths ctrs base i := by
  apply List.ext_getElem?
  intro j
  rw [nxtI_get, nxtI_get]
  by_cases hj : j < base.length
  · rw [if_pos hj, if_pos hj]
    by_cases hij : i = j
    · subst hij
      rw [hc]
      simp [h]
    · cases ctrs[j]? with
      | none => rfl
      | some c' =>
        dsimp only
        by_cases hji : j < i
        · simp [hji, show j < i + 1 by omega]
        · simp [hji, show ¬ j < i + 1 by omega]
  · rw [if_neg hj, if_neg hj]
theorem nxtI_at {rows : List RowF} {truths : List Bool} {ctrs : List CtF} {base : List Int} {i : Nat} (hi : i < base.length) : (nxtI rows truths ctrs base i)[i]? = some (atI base i) := by
  rw [nxtI_get, if_pos hi]
  cases ctrs[i]? with
  | none => rfl
  | some c => simp
theorem copyI_bd {dst src : List Int} {M : Int} (h0 : ∀ x ∈ dst, 0 ≤ x ∧ x ≤ M) (h1 : ∀ x ∈ src, 0 ≤ x ∧ x ≤ M) (i : Nat) (hM : 0 ≤ M) : 0 ≤ atI (copyI dst src) i ∧ atI (copyI dst src) i ≤ M := by
  unfold atI
  cases hq : (copyI dst src)[i]? with
  | none => exact ⟨Int.le_refl _, hM⟩
  | some x =>
    have hm := List.mem_of_getElem? hq
    unfold copyI at hm
    rcases List.mem_append.1 hm with hm | hm
    · exact h1 x (List.mem_of_mem_take hm)
    · exact h0 x (List.mem_of_mem_drop hm)
end
end Go.Proofs.YtcfhggdiccilaaaGreat
