/- The ring of a set behind a number: walks. -/
import Derived.Test.YtcfcoojnjdoeeaaNthX2
import Derived.ArgAppend
import Derived.Laws.AppendOwnNone
namespace Go.Proofs.Ytcfcoojnjdoeeaa
open Go.RowKit

theorem rdB_cells {w : World} {b off n cap : Nat} {f : Nat → Bool} (h : RdB w (some ⟨b, off, none⟩) n cap f) :
    ∀ j u, ((List.range n).map fun i => Value.bool (f i))[j]? = some u → w.cell? ((⟨b, off, none⟩ : Addr).add j) = some u := by
  intro j u hu
  have hj : j < n := by
    have := (List.getElem?_eq_some_iff.1 hu).1
    simpa using this
  rw [List.getElem?_map, List.getElem?_range hj] at hu
  obtain rfl := Option.some.inj hu
  obtain ⟨b', off', e, hc⟩ := rdB_at h j hj
  injection e with e; injection e with e1 e2
  subst e1 e2
  rw [show (⟨b, off, none⟩ : Addr).add j = ⟨b, off + j, none⟩ from by simp [Addr.add]]
  exact hc

/-- One row of truths behind another one that has no room. -/
theorem run_append_fullB {P : Program} (w : World) (t ty : TypeId) (e : TypeId) (ht : P.underlying t = some (.slice e)) (hinfo : (P.info? e).map (fun i => (i.zero, i.size, i.bytes)) = some (some (.bool false), 1, 1))
    (b off n : Nat) (f : Nat → Bool) (hf : RdB w (some ⟨b, off, none⟩) n n f) (b2 off2 m c : Nat) (g : Nat → Bool) (hg : RdB w (some ⟨b2, off2, none⟩) m c g) (h63 : n + m ≤ 1000000) (hn1 : 1 ≤ n) :
    ∃ a' c' w', (Builtin.append_ #[t, t] ty #[.slice (some ⟨b, off, none⟩) n n, .slice (some ⟨b2, off2, none⟩) m c]).run P w = .ok (.slice (some a') (n + m) c') w' ∧ RdB w' (some a') (n + m) c' (fun i => if i < n then f i else g (i - n)) ∧ Below w.heap.size w w' := by
  obtain ⟨i, hi, hzz⟩ := Option.map_eq_some_iff.1 hinfo
  simp only [Prod.mk.injEq] at hzz
  obtain ⟨hz, hsz, hby⟩ := hzz
  by_cases h0 : m = 0
  · subst h0
    refine ⟨⟨b, off, none⟩, n, w, ?_, ?_, Below.refl _ _⟩
    · have := run_append_room_cells (P := P) w t ty e i ht hi b off n n ⟨b2, off2, none⟩ 0 c [] (by simp) (by intro j u hu; simp at hu) (by simp) (by omega) (by intro j hj; simp at hj) (by intro j hj; simp at hj)
      simpa [World.setCells] using this
    · exact hf.congr (fun i hi => by rw [if_pos hi])
  · obtain ⟨v', w', hrun, hown, hgr⟩ := run_append_arg_grows (P := P) w t ty e i (.bool false) 1 1 ht hi hz hsz hby rfl (by decide) ⟨b, off, none⟩ n n ((List.range n).map fun i => .bool (f i)) (by simp) (rdB_cells hf)
      ⟨b2, off2, none⟩ m c ((List.range m).map fun i => .bool (g i)) (by simp) (rdB_cells hg) (by omega) (by unfold maxLen; omega) (by omega)
    rcases hown.2 with ⟨rfl, h1⟩ | ⟨gb, cap, cur, rfl, hgb, hh, hn, hcap, hcs, htake⟩
    · omega
    · refine ⟨⟨gb, 0, none⟩, cap, w', hrun, ⟨hn, hcap, .inr ⟨gb, 0, rfl, (Array.getElem?_eq_some_iff.1 hh).1, fun j hj => ?_⟩⟩, Below.of_grown hgr (Nat.le_refl _) (by rintro _ ⟨⟩)⟩
      have hx := hown.cells (g := gb) rfl j (.bool (if j < n then f j else g (j - n))) (by
        by_cases c : j < n
        · rw [List.getElem?_append_left (by simpa using c), List.getElem?_map, List.getElem?_range c, if_pos c]; rfl
        · rw [List.getElem?_append_right (by simp; omega), List.length_map, List.length_range, List.getElem?_map, List.getElem?_range (by omega), if_neg c]; rfl)
      rw [← hx]; congr 1; unfold Addr.add; simp

theorem step_append_fullB {P : Program} {ops : Array Oper} {o : Oper} {a : Act} {w : World} {K : Act → World → Prop} {Q : Exit → Act → World → Prop} {E : Prop}
    (hgd : o.guard = none) (s x : Operand) (t : TypeId) (ho : o.op = Op.call { callee := Callee.builtin Builtin.append, args := #[s, x], argTypes := #[t, t] })
    (e : TypeId) (ht : P.underlying t = some (.slice e)) (hinfo : (P.info? e).map (fun i => (i.zero, i.size, i.bytes)) = some (some (.bool false), 1, 1))
    (b off n : Nat) (f : Nat → Bool) (b2 off2 m c : Nat) (g : Nat → Bool) (hs : a.eval s = .slice (some ⟨b, off, none⟩) n n) (hx : a.eval x = .slice (some ⟨b2, off2, none⟩) m c) (h63 : n + m ≤ 1000000) (hn1 : 1 ≤ n)
    (hf : RdB w (some ⟨b, off, none⟩) n n f) (hg : RdB w (some ⟨b2, off2, none⟩) m c g)
    (h : ∀ a' c' w', RdB w' (some a') (n + m) c' (fun i => if i < n then f i else g (i - n)) → Below w.heap.size w w' → K (a.put o.dst (.slice (some a') (n + m) c')) w') :
    if Region.wanted o (yielded ops a.tmps) = true then Oper.wp P o a w K Q else E := by
  have hw : Region.wanted o (yielded ops a.tmps) = true := by simp [Region.wanted, hgd]
  rw [if_pos hw]
  obtain ⟨a', c', w', hrun, r1, r2⟩ := run_append_fullB (P := P) w t o.type e ht hinfo b off n f hf b2 off2 m c g hg h63 hn1
  unfold Oper.wp
  simp [execOp, ho, resolve, invoke, builtin, hs, hx, hrun, Result.andThen]
  exact h a' c' w' r1 r2

/-- What ringBehind gives. -/
def ToldRing (S : Nat → Bool) (p n : Nat) (w : World) (e : Ending) (w' : World) : Prop := ∃ b off cap, e = .returned (.slice (some ⟨b, off, none⟩) p cap) ∧ RdB w' (some ⟨b, off, none⟩) p cap (fun i => S (n + 1 + i)) ∧ Below w.heap.size w w'

theorem rdB_some {w : World} {a : Addr} {n cap : Nat} {f : Nat → Bool} (h : RdB w (some a) n cap f) (hn : 1 ≤ n) : a = ⟨a.block, a.off, none⟩ := by
  rcases h.2.2 with h0 | ⟨b, off, e, _⟩
  · omega
  · injection e with e; subst e; rfl

set_option maxRecDepth 100000 in
set_option maxHeartbeats 4000000 in
theorem ring_any (w : World) (v : Value) (S : Nat → Bool) (h p n : Nat) (hs : IsSet w v S h p) (hn : h ≤ n ∧ n ≤ 4096) :
    Calls Try.prog 36 #[v, .int .i64 n] w (ToldRing S p n w) := by
  obtain ⟨n1, n2⟩ := hn
  have L := Lib.hid hs.parts
  have hp := hs.parts.pos
  have hsz := hs.small
  have H := Lib.hid hs
  obtain ⟨a, m, c, rfl⟩ := isSet_val hs
  clear hs
  have B1 : Below w.heap.size w (w.alloc (.cells #[.int .i64 h, .slice a m c] 28)) := ((Below.refl _ w).alloc (Nat.le_refl _) _)
  have hX := Lib.hid (Blk.alloc (w := w) [.int .i64 h, .slice a m c] 28)
  have hmod := Nat.mod_lt (n - h) hp
  have hmm : ((n : Int) - (h : Int)) % (p : Int) = (((n - h) % p : Nat) : Int) := by rw [show (n : Int) - h = ((n - h : Nat) : Int) by omega]; simp
  have np : ((p : Int) == 0) = false := beq_eq_false_iff_ne.2 (by omega)
  have HMM := Lib.hid hmm
  have HK := Lib.hid (show ∀ i, i < p → S (n + 1 + i) = if i < p - (n - h) % p then S (h + 1 + ((n - h) % p + i)) else S (h + 1 + (i - (p - (n - h) % p))) from fun i hi => by
    have e := Nat.div_add_mod (n - h) p
    split
    · rw [← per_mul L.out.per (h + 1 + ((n - h) % p + i)) ((n - h) / p) (by omega)]
      congr 1; omega
    · rw [← per_mul L.out.per (h + 1 + (i - (p - (n - h) % p))) ((n - h) / p + 1) (by omega), Nat.mul_add]
      congr 1; omega)
  clear hmm
  generalize hk : (n - h) % p = k at *
  clear hk
  go_enter Try.func36, Try.ntmps36
  go_wp2_with fail
  refine (list_any _ _ S h p (H.out.later B1)).mono ?_
  rintro e w1 ⟨a1, c1, rfl, hr1, hb1⟩
  obtain ⟨b, off, rfl, -⟩ := rdB_at hr1 0 (by omega)
  have hX1 := hX.out.later hb1 (lt_of_block hX.out)
  have c0 := hX1.cell 0 _ rfl
  have cc1 := hX1.cell 1 _ rfl
  have B2 := B1.trans (hb1.mono B1.size)
  have hc1 : h + p ≤ c1 ∧ c1 ≤ 9223372036854775807 := by have := hr1.1; have := hr1.2.1; unfold maxLen at this; omega
  obtain ⟨q1, q2⟩ := hc1
  have HR1 := Lib.hid hr1
  clear hr1 hX hX1 H L
  have i1 : (0 : Int) ≤ (h : Int) := by omega
  have i2 : (h : Int) ≤ (h : Int) + (p : Int) := by omega
  have i3 : (h : Int) + (p : Int) ≤ (c1 : Int) := by omega
  have i4 : ¬ c1 = h := by omega
  have i5 : ¬ h + p = h := by omega
  have hw1 : wrap64 (((n : Int) - (h : Int)) % (p : Int)) = k := by rw [HMM.out]; unfold wrap64; omega
  have i6 : (1 : Int) ≤ (p : Int) := by omega
  go_wp2
  rw [show h + p - h = p by omega, HMM.out]
  have j1 : (0 : Int) ≤ (k : Int) := by omega
  have j2 : (k : Int) ≤ (p : Int) := by omega
  have j3 : ¬ p = k := by omega
  have j4 : ¬ p - k = 0 := by omega
  have hD := rdB_drop HR1.out h (by omega) b off rfl
  have hD1 : RdB w1.drew (some ⟨b, off + h, none⟩) p p (fun i => S (h + 1 + i)) := by
    refine ⟨Nat.le_refl _, by unfold maxLen; omega, ?_⟩
    rcases hD.2.2 with h0 | ⟨b', o', e, hl, hc⟩
    · omega
    · exact .inr ⟨b', o', e, hl, fun i hi => by have := hc i (by omega); simp only [show h + i + 1 = h + 1 + i by omega] at this; exact this⟩
  have hA : RdB w1.drew (some ⟨b, off + h + k, none⟩) (p - k) (p - k) (fun i => S (h + 1 + (k + i))) := rdB_drop hD1 k (by omega) b (off + h) rfl
  have hB : RdB w1.drew (some ⟨b, off + h, none⟩) k p (fun i => S (h + 1 + i)) := rdB_take hD1 k (by omega)
  have HA := Lib.hid hA
  have HB := Lib.hid hB
  clear hD hD1 hA hB c0 cc1 hw1 i1 i2 i3 i4 i5
  have B3 : Below w.heap.size w w1.drew := B2.drew
  go_region_held3 (fun w' => Below w.heap.size w w') (first | exact B3 | exact B3.trans (hb2.mono B3.size)) (first
    | (refine step_append_fullB rfl _ _ 26 rfl 4 Try.underlying26 TryinfoBool b (off + h + k) (p - k) (fun i => S (h + 1 + (k + i))) b (off + h) k p (fun i => S (h + 1 + i)) rfl rfl (by omega) (by omega) HA.out HB.out ?_; intro a' c' w2 hr2 hb2))
  obtain ⟨b', off', hb', -⟩ := rdB_at hr2 0 (by omega)
  injection hb' with hb'
  subst hb'
  have HR2 := Lib.hid hr2
  clear hr2
  rw [show p - k + k = p by omega]
  go_wp2
  go_ret
  refine ⟨b', off', c', rfl, ?_, B3.trans (hb2.mono B3.size)⟩
  have hr2 := HR2.out
  rw [show p - k + k = p by omega] at hr2
  exact hr2.congr fun i hi => (HK.out i hi).symm

/-- What roundOfBoth gives. -/
def ToldBoth (a b : Nat → Bool) (p q : Nat) (w : World) (e : Ending) (w' : World) : Prop := ∃ q1 q2, e = .returned (.int .i64 (mulF q1 q2 : Nat)) ∧ LeastDiv (meet a b q (Nat.gcd p q)) p q1 ∧ LeastDiv (meet b a p (Nat.gcd p q)) q q2 ∧ Below w.heap.size w w'

set_option maxRecDepth 100000 in
set_option maxHeartbeats 4000000 in
theorem round_any (b1 o1 p c1 b2 o2 q c2 : Nat) (a b : Nat → Bool) (w : World) (hp : 1 ≤ p ∧ p ≤ 4096) (hq : 1 ≤ q ∧ q ≤ 4096) (pa : Per a p) (pb : Per b q) (hr1 : RdB w (some ⟨b1, o1, none⟩) p c1 a) (hr2 : RdB w (some ⟨b2, o2, none⟩) q c2 b) :
    Calls Try.prog 35 #[.slice (some ⟨b1, o1, none⟩) p c1, .slice (some ⟨b2, o2, none⟩) q c2] w (ToldBoth a b p q w) := by
  obtain ⟨p1, p2⟩ := hp
  obtain ⟨q1, q2⟩ := hq
  have HR1 := Lib.hid hr1
  have HR2 := Lib.hid hr2
  have m1 := Lib.hid (meet_per (q := q) (b := b) pa)
  have m2 := Lib.hid (show Per (meet b a p (Nat.gcd p q)) q by rw [Nat.gcd_comm]; exact meet_per pb)
  have hg : 1 ≤ Nat.gcd p q ∧ Nat.gcd p q ≤ 4096 := ⟨Nat.gcd_pos_of_pos_left _ (by omega), Nat.le_trans (Nat.gcd_le_left _ (by omega)) p2⟩
  have cD := fun w => divisor_any p q w (by omega) (by omega)
  have hTB : ∀ e w', ToldBoth a b p q w e w' ↔ ∃ q1 q2, e = .returned (.int .i64 (mulF q1 q2 : Nat)) ∧ LeastDiv (meet a b q (Nat.gcd p q)) p q1 ∧ LeastDiv (meet b a p (Nat.gcd p q)) q q2 ∧ Below w.heap.size w w' := fun e w' => Iff.rfl
  have HTB := Lib.hid hTB
  clear hr1 hr2 hTB pa pb
  generalize Nat.gcd p q = g at *
  go_enter Try.func35, Try.ntmps35
  go_wp2_with fail
  refine (cD _).mono ?_
  rintro e w1 ⟨rfl, hb1⟩
  go_wp2_with fail
  refine (meeting_any b1 o1 p c1 b2 o2 q c2 g a b w1 p2 q2 hg (HR1.out.later hb1) (HR2.out.later hb1)).mono ?_
  rintro e w2 ⟨x1, rfl, hx1, hb2⟩
  have B2 := hb1.trans (hb2.mono hb1.size)
  go_wp2_with fail
  refine (leastRound_any x1 0 p p _ w2 ⟨p1, p2⟩ m1.out hx1).mono ?_
  rintro e w3 ⟨r1, rfl, hD1, hb3⟩
  have B3 := B2.trans (hb3.mono B2.size)
  have HD1 := Lib.hid hD1
  have l1 : 1 ≤ r1 ∧ r1 ≤ 4096 := ⟨hD1.pos, Nat.le_trans (Nat.le_of_dvd p1 hD1.dvd) p2⟩
  clear hD1
  go_wp2_with fail
  refine (meeting_any b2 o2 q c2 b1 o1 p c1 g b a w3 q2 p2 hg (HR2.out.later B3) (HR1.out.later B3)).mono ?_
  rintro e w4 ⟨x2, rfl, hx2, hb4⟩
  have B4 := B3.trans (hb4.mono B3.size)
  go_wp2_with fail
  refine (leastRound_any x2 0 q q _ w4 ⟨q1, q2⟩ m2.out hx2).mono ?_
  rintro e w5 ⟨r2, rfl, hD2, hb5⟩
  have B5 := B4.trans (hb5.mono B4.size)
  have HD2 := Lib.hid hD2
  have l2 : 1 ≤ r2 ∧ r2 ≤ 4096 := ⟨hD2.pos, Nat.le_trans (Nat.le_of_dvd q1 hD2.dvd) q2⟩
  clear hD2
  go_wp2_with fail
  refine (multiple_any r1 r2 w5 ⟨l1.1, by omega⟩ ⟨l2.1, by omega⟩).mono ?_
  rintro e w6 ⟨rfl, hb6⟩
  have B6 := B5.trans (hb6.mono B5.size)
  go_wp2
  go_ret
  exact (HTB.out _ _).2 ⟨r1, r2, rfl, HD1.out, HD2.out, B6⟩
end Go.Proofs.Ytcfcoojnjdoeeaa
