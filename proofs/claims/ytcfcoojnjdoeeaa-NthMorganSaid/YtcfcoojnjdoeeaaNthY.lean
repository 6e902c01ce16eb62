/- What is in both of two sets, or in one: walks. -/
import Derived.Test.YtcfcoojnjdoeeaaNthB
namespace Go.Proofs.Ytcfcoojnjdoeeaa
open Go.RowKit

set_option maxRecDepth 100000 in
set_option maxHeartbeats 1000000 in
theorem inter1_any (v u : Value) (S T : Nat → Bool) (h p k q : Nat) (n bx by' : Nat) (w : World) (hs : IsSet w v S h p) (ht : IsSet w u T k q) (hn : 1 ≤ n ∧ n ≤ 4611686018427387904)
    (hT : ∃ a m c, v = .agg #[.int .i64 h, .slice a m c] ∧ Blk w bx [.int .i64 h, .slice a m c] 28) (hU : ∃ a m c, u = .agg #[.int .i64 k, .slice a m c] ∧ Blk w by' [.int .i64 k, .slice a m c] 28) :
    Calls Try.prog 34 #[.int .i64 n, .pointer (some ⟨bx, 0, none⟩), .pointer (some ⟨by', 0, none⟩)] w (ToldB (.bool (S n && T n)) w) := by
  obtain ⟨a, m, c, rfl, hB⟩ := hT
  obtain ⟨a', m', c', rfl, hB'⟩ := hU
  have c0 := hB.cell 0 _ rfl
  have c1 := hB.cell 1 _ rfl
  have hl := lt_of_block hB'
  have HB' := Lib.hid hB'
  have hc := hasS_any w _ S h p hs n hn
  have hc2 := fun w' (hb : Below w.heap.size w w') => hasS_any w' _ T k q (ht.later hb) n hn
  clear hs hB ht hB' hn
  generalize S n = r at *
  generalize T n = s at *
  cases r
  · go_enter Try.func34, Try.ntmps34
    go_wp2_with (go_at_call 22; refine hc.mono ?_; rintro e w' ⟨rfl, hb⟩)
    go_ret
    exact ⟨rfl, hb⟩
  · go_enter Try.func34, Try.ntmps34
    go_wp2_with fail
    refine hc.mono ?_
    rintro e w' ⟨rfl, hb⟩
    have hB2 := HB'.out.later hb hl
    have c2 := hB2.cell 0 _ rfl
    have c3 := hB2.cell 1 _ rfl
    have hc3 := hc2 _ hb
    clear hc hc2 hB2
    go_wp2_with fail
    refine hc3.mono ?_
    rintro e w2 ⟨rfl, hb2⟩
    go_wp2
    go_ret
    exact ⟨rfl, hb.trans (hb2.mono hb.size)⟩

theorem inter1_enters : ∀ args w, (callFunc 34 args).run Try.prog w = .ok (.enter 34 args) w := enters_of Try.func34 (by kernel_rfl) rfl

/-- What Inter gives. -/
def GivesBoth (S : Nat → Bool) (H P : Nat) (w : World) (e : Ending) (w' : World) : Prop := ∃ h p, GivesSetE S h p w e w' ∧ h ≤ H ∧ p ≤ P

theorem keep4 {W0 w' : World} {b b' : Nat} {c0 c1 c2 c3 : Value} (h0 : W0.cell? ⟨b, 0, none⟩ = some c0) (h1 : W0.cell? ⟨b, 1, none⟩ = some c1) (h2 : W0.cell? ⟨b', 0, none⟩ = some c2) (h3 : W0.cell? ⟨b', 1, none⟩ = some c3) (hb : Below W0.heap.size W0 w') :
    w'.cell? ⟨b, 0, none⟩ = some c0 ∧ w'.cell? ⟨b, 1, none⟩ = some c1 ∧ w'.cell? ⟨b', 0, none⟩ = some c2 ∧ w'.cell? ⟨b', 1, none⟩ = some c3 ∧ Below W0.heap.size W0 w' :=
  ⟨(hb.cell (p := ⟨b, 0, none⟩) (World.block_lt_of_cell? _ _ h0)).trans h0, (hb.cell (p := ⟨b, 1, none⟩) (World.block_lt_of_cell? _ _ h1)).trans h1, (hb.cell (p := ⟨b', 0, none⟩) (World.block_lt_of_cell? _ _ h2)).trans h2, (hb.cell (p := ⟨b', 1, none⟩) (World.block_lt_of_cell? _ _ h3)).trans h3, hb⟩

theorem below_from2 {w W0 w' : World} (h : Below w.heap.size w W0) (k : Below W0.heap.size W0 w') : Below w.heap.size w w' := h.trans (k.mono h.size)

set_option maxRecDepth 100000 in
set_option maxHeartbeats 8000000 in
theorem inter_any (w : World) (v u : Value) (S T : Nat → Bool) (g p k q : Nat) (hs : IsSet w v S g p) (ht : IsSet w u T k q) (hfit : max g k + p * q ≤ 4096) :
    Calls Try.prog 15 #[v, u] w (GivesBoth (fun n => S n && T n) (max g k) (p * q) w) := by
  have LS := Lib.hid hs.parts
  have LT := Lib.hid ht.parts
  have hp := hs.parts.pos
  have hq := ht.parts.pos
  have sz1 := hs.small
  have sz2 := ht.small
  have H := Lib.hid hs
  have H' := Lib.hid ht
  obtain ⟨a, n, c, rfl⟩ := isSet_val hs
  obtain ⟨a', n', c', rfl⟩ := isSet_val ht
  clear hs ht
  have e1 : (w.alloc (.cells #[.int .i64 g, .slice a n c] 28)).heap.size = w.heap.size + 1 := by simp
  have e2 : ((w.alloc (.cells #[.int .i64 g, .slice a n c] 28)).alloc (.cells #[.int .i64 k, .slice a' n' c'] 28)).heap.size = w.heap.size + 1 + 1 := by simp
  have hX := Lib.hid (((Blk.alloc (w := w) [.int .i64 g, .slice a n c] 28).alloc_old (.cells #[.int .i64 k, .slice a' n' c'] 28)).alloc_old (.cells #[.int .i64 0, .slice none 0 0] 28))
  have hY := (Blk.alloc (w := w.alloc (.cells #[.int .i64 g, .slice a n c] 28)) [.int .i64 k, .slice a' n' c'] 28).alloc_old (.cells #[.int .i64 0, .slice none 0 0] 28)
  have hZ := Blk.alloc (w := (w.alloc (.cells #[.int .i64 g, .slice a n c] 28)).alloc (.cells #[.int .i64 k, .slice a' n' c'] 28)) [.int .i64 0, .slice none 0 0] 28
  have B1 := Lib.hid ((((Below.refl _ w).alloc (Nat.le_refl _) (.cells #[.int .i64 g, .slice a n c] 28)).alloc (by simp) (.cells #[.int .i64 k, .slice a' n' c'] 28)).alloc (by simp; omega) (.cells #[.int .i64 0, .slice none 0 0] 28))
  rw [e1] at hY
  rw [e2] at hZ
  have HY := Lib.hid hY
  have HZ := Lib.hid hZ
  have hm2 : max g k ≤ 4096 := by omega
  have hmax : max (g : Int) (k : Int) = ((max g k : Nat) : Int) := by omega
  have m1 : g ≤ max g k := by omega
  have m2 : k ≤ max g k := by omega
  have HMX := Lib.hid hmax
  clear hY hZ e1 e2 hmax
  go_enter Try.func15, Try.ntmps15
  go_wp2
  all_goals
    generalize hW : ((w.alloc (.cells #[.int .i64 g, .slice a n c] 28)).alloc (.cells #[.int .i64 k, .slice a' n' c'] 28)).alloc (.cells #[.int .i64 0, .slice none 0 0] 28) = W at *
    clear hW
    first
      | rw [show (k : Int) = ((max g k : Nat) : Int) by omega]
      | rw [show (g : Int) = ((max g k : Nat) : Int) by omega]
    generalize hmk : max g k = m at *
    have HMK := Lib.hid hmk
    clear hmk
    have BW : Below w.heap.size w W.drew := B1.out.drew
    have x0 : W.drew.cell? ⟨w.heap.size, 0, none⟩ = some (.int .i64 g) := hX.out.cell 0 _ rfl
    have x1 : W.drew.cell? ⟨w.heap.size, 1, none⟩ = some (.slice a n c) := hX.out.cell 1 _ rfl
    have y0 : W.drew.cell? ⟨w.heap.size + 1, 0, none⟩ = some (.int .i64 k) := HY.out.cell 0 _ rfl
    have y1 : W.drew.cell? ⟨w.heap.size + 1, 1, none⟩ = some (.slice a' n' c') := HY.out.cell 1 _ rfl
    have HS1 := Lib.hid (H.out.later BW)
    have HT1 := Lib.hid (H'.out.later BW)
    have pS := Lib.hid (show Per (fun i => S (m + 1 + i)) p from fun i => by
      show S (m + 1 + (i + p)) = S (m + 1 + i)
      rw [← Nat.add_assoc]; exact LS.out.per _ (by omega))
    have pT := Lib.hid (show Per (fun i => T (m + 1 + i)) q from fun i => by
      show T (m + 1 + (i + q)) = T (m + 1 + i)
      rw [← Nat.add_assoc]; exact LT.out.per _ (by omega))
    go_region_held3 (fun w' => w'.cell? ⟨w.heap.size, 0, none⟩ = some (.int .i64 g) ∧ w'.cell? ⟨w.heap.size, 1, none⟩ = some (.slice a n c) ∧ w'.cell? ⟨w.heap.size + 1, 0, none⟩ = some (.int .i64 k) ∧ w'.cell? ⟨w.heap.size + 1, 1, none⟩ = some (.slice a' n' c') ∧ Below W.drew.heap.size W.drew w')
      (first
        | exact ⟨x0, x1, y0, y1, Below.refl _ _⟩
        | exact keep4 x0 x1 y0 y1 bC
        | exact keep4 x0 x1 y0 y1 bB
        | exact keep4 x0 x1 y0 y1 bA)
      (first
        | (go_at_call 36; (with_reducible refine (ring_any _ (.agg #[.int .i64 g, .slice a n c]) S g p m HS1.out ⟨m1, hm2⟩).mono ?_); rintro e wA ⟨b1, o1, cp1, rfl, hr1, bA⟩)
        | (go_at_call 36; (with_reducible refine (ring_any _ (.agg #[.int .i64 k, .slice a' n' c']) T k q m (HT1.out.later bA) ⟨m2, hm2⟩).mono ?_); rintro e wB ⟨b2, o2, cp2, rfl, hr2, hB⟩; have bB := bA.trans (hB.mono bA.size))
        | (go_at_call 35; (with_reducible refine (round_any b1 o1 p cp1 b2 o2 q cp2 _ _ _ ⟨hp, by omega⟩ ⟨hq, by omega⟩ pS.out pT.out (hr1.later hB) hr2).mono ?_); rintro e wC ⟨q1, q2, rfl, D1, D2, hC⟩; have bC := bB.trans (hC.mono bB.size)))
    have hq1 : 1 ≤ q1 ∧ q1 ≤ p := ⟨D1.pos, Nat.le_of_dvd hp D1.dvd⟩
    have hq2 : 1 ≤ q2 ∧ q2 ≤ q := ⟨D2.pos, Nat.le_of_dvd hq D2.dvd⟩
    have hqq : q1 * q2 ≤ p * q := Nat.mul_le_mul hq1.2 hq2.2
    have hr := inter_round LS.out LT.out m1 m2 D1 D2
    rw [mulF_lcm q1 q2 hq2.1 (by omega)]
    have hlcm : Nat.lcm q1 q2 ≤ q1 * q2 := Nat.le_of_dvd (Nat.mul_pos hq1.1 hq2.1) (Nat.lcm_dvd (Nat.dvd_mul_right _ _) (Nat.dvd_mul_left _ _))
    have hlp : 1 ≤ Nat.lcm q1 q2 := Nat.lcm_pos hq1.1 hq2.1
    obtain ⟨r1, r2⟩ := hr
    have hL := least_of_descend (S := fun n => S n && T n) (m := m) hlp r1 r2
    have hdm := descend_le (fun n => S n && T n) (Nat.lcm q1 q2) m
    generalize Nat.lcm q1 q2 = r at *
    have hrpq : r ≤ p * q := by omega
    clear r1 r2 D1 D2 hlcm hqq hq1 hq2 hr1 hr2
    have hXC := Lib.hid (show Blk wC w.heap.size [.int .i64 g, .slice a n c] 28 from Blk.later (w := W.drew) hX.out bC (lt_of_block hX.out))
    have hYC := Lib.hid (show Blk wC (w.heap.size + 1) [.int .i64 k, .slice a' n' c'] 28 from Blk.later (w := W.drew) HY.out bC (lt_of_block HY.out))
    have hZC := Lib.hid (show Blk wC (w.heap.size + 1 + 1) [.int .i64 0, .slice none 0 0] 28 from Blk.later (w := W.drew) HZ.out bC (lt_of_block HZ.out))
    have hSC := Lib.hid (HS1.out.later bC)
    have hTC := Lib.hid (HT1.out.later bC)
    have hBC := Lib.hid (BW.trans (bC.mono BW.size))
    have hsz3 : w.heap.size + 1 + 1 < wC.heap.size := lt_of_block hZC.out
    obtain ⟨d, hd⟩ : ∃ d, descend (fun n => S n && T n) r m = d := ⟨_, rfl⟩
    rw [hd] at hL hdm
    have HD := Lib.hid hd
    have HL := Lib.hid hL
    clear hd hL x0 x1 y0 y1 HS1 HT1 bA bB bC hB hC B1 hX HY HZ BW H H' pS pT LS LT
    go_wp2
    go_loopw [7] (fun v wr => ∃ h' : Nat, h' ≤ m ∧ v = .int .i64 h' ∧ Hid (descend (fun n => S n && T n) r h' = d) ∧ Below wC.heap.size wC wr) (fun v _ => (intOf v).toNat)
    case atStart => exact ⟨m, Nat.le_refl _, rfl, HD, Below.refl _ _⟩
    case round =>
      obtain ⟨h', hh, rfl, hdd, hbl⟩ := hrel
      clear HD
      rcases Nat.eq_zero_or_pos h' with h0 | h0
      · subst h0
        obtain rfl : 0 = d := hdd.out
        clear hdd
        go_wp2_with fail
        have hbX : Below wC.heap.size wC wr := hbl
        have hsl := hbX.size
        have hPr : PredW 34 #[.pointer (some ⟨w.heap.size, 0, none⟩), .pointer (some ⟨w.heap.size + 1, 0, none⟩)] (fun n => S n && T n) (0 + r) wr := ⟨inter1_enters, fun W' n hW h1 h2 =>
          inter1_any _ _ S T g p k q n w.heap.size (w.heap.size + 1) W' ((hSC.out.later hbX).later hW) ((hTC.out.later hbX).later hW) ⟨h1, by omega⟩
            ⟨a, _, c, rfl, (hXC.out.later hbX (lt_of_block hXC.out)).later hW (Nat.lt_of_lt_of_le (lt_of_block hXC.out) hbX.size)⟩ ⟨a', _, c', rfl, (hYC.out.later hbX (lt_of_block hYC.out)).later hW (Nat.lt_of_lt_of_le (lt_of_block hYC.out) hbX.size)⟩⟩
        refine (bounded_any 34 #[.pointer (some ⟨w.heap.size, 0, none⟩), .pointer (some ⟨w.heap.size + 1, 0, none⟩)] (fun n => S n && T n) 0 r HL.out (by omega) wr hPr).mono ?_
        rintro e wF ⟨vF, rfl, hsF, hfF, hbF⟩
        obtain ⟨aF, nF, cF, rfl⟩ := isSet_val hsF
        have hbF2 := hbX.trans (hbF.mono hbX.size)
        have hZF := hZC.out.later hbF2 (lt_of_block hZC.out)
        have z0 := hZF.cell 0 _ rfl
        have z1 := hZF.cell 1 _ rfl
        have fz0 := hZF.frozen 0
        have fz1 := hZF.frozen 1
        have hf' := hfF.mono (C := w.heap.size + 1 + 1 + 1) (by omega)
        have hs3 := isSet_setCell (isSet_setCell hsF _ ⟨w.heap.size + 1 + 1, 0, none⟩ (.int .i64 (0 : Nat)) hf' (by simp)) _ ⟨w.heap.size + 1 + 1, 1, none⟩ (.slice aF nF cF) hf' (by simp)
        have BF := ((below_from2 hBC.out hbF2).setCell (p := ⟨w.heap.size + 1 + 1, 0, none⟩) (by simp; omega) (.int .i64 (0 : Nat))).setCell (p := ⟨w.heap.size + 1 + 1, 1, none⟩) (by simp; omega) (.slice aF nF cF)
        have hf3 := hf'.mono (C := w.heap.size + 1) (by omega)
        have HSF := Lib.hid hs3
        have HFF := Lib.hid hf3
        have HBF := Lib.hid BF
        clear hs3 hsF hfF hf' hf3 BF hZF hPr
        go_wp2
        refine bodyPost_ret (v := .tuple #[.agg #[.int .i64 (0 : Nat), .slice aF nF cF], .nilIface]) (by simp [results, Try.results15, go_sem, z0, z1]) rfl ⟨0, r, ⟨_, rfl, HSF.out, HFF.out, HBF.out⟩, by have := HMK.out; omega, hrpq⟩
      · obtain ⟨j, rfl⟩ : ∃ j, h' = j + 1 := ⟨h' - 1, by omega⟩
        have cI := fun n W' (hb : Below wr.heap.size wr W') hn => inter1_any _ _ S T g p k q n w.heap.size (w.heap.size + 1) W' ((hSC.out.later hbl).later hb) ((hTC.out.later hbl).later hb) hn
          ⟨a, _, c, rfl, (hXC.out.later hbl (lt_of_block hXC.out)).later hb (Nat.lt_of_lt_of_le (lt_of_block hXC.out) hbl.size)⟩ ⟨a', _, c', rfl, (hYC.out.later hbl (lt_of_block hYC.out)).later hb (Nat.lt_of_lt_of_le (lt_of_block hYC.out) hbl.size)⟩
        have cI1 := cI (j + 1) wr (Below.refl _ _) ⟨by omega, by omega⟩
        have cI2 := fun W' hb => cI (j + 1 + r) W' hb ⟨by omega, by omega⟩
        rw [show ((j + 1 + r : Nat) : Int) = (j : Int) + 1 + r by omega] at cI2
        rw [show ((j + 1 : Nat) : Int) = (j : Int) + 1 by omega] at cI1 ⊢
        have hdj : descend (fun n => S n && T n) r (j + 1) = if (S (j + 1) && T (j + 1)) = (S (j + 1 + r) && T (j + 1 + r)) then descend (fun n => S n && T n) r j else j + 1 := rfl
        rw [hdj] at hdd
        clear hdj cI
        generalize (S (j + 1) && T (j + 1)) = r1 at *
        generalize (S (j + 1 + r) && T (j + 1 + r)) = r2 at *
        by_cases he : r1 = r2
        · subst he
          have HN := Lib.hid (show descend (fun n => S n && T n) r j = d by have := hdd.out; rwa [if_pos rfl] at this)
          clear hdd
          have nr : (r1 == r1) = true := beq_self_eq_true _
          go_wp2_with fail
          refine cI1.mono ?_
          rintro e w5 ⟨rfl, hb5⟩
          have cI3 := cI2 w5 hb5
          clear cI2 cI1
          go_wp2_with fail
          refine cI3.mono ?_
          rintro e w6 ⟨rfl, hb6⟩
          have hB6 := hbl.trans ((hb5.trans (hb6.mono hb5.size)).mono hbl.size)
          go_wp2
          go_roundw
          case rel => exact ⟨j, by omega, by first | rfl | (congr 1; omega), HN, hB6⟩
          case measure => simp [intOf]
        · obtain rfl : j + 1 = d := by have := hdd.out; rwa [if_neg he] at this
          clear hdd
          cases r1 <;> cases r2
          · exact absurd rfl he
          rotate_right
          · exact absurd rfl he
          all_goals
            clear he
            go_wp2_with fail
            refine cI1.mono ?_
            rintro e w5 ⟨rfl, hb5⟩
            have cI3 := cI2 w5 hb5
            clear cI2 cI1
            go_wp2_with fail
            refine cI3.mono ?_
            rintro e w6 ⟨rfl, hb6⟩
            have hB6 := hbl.trans ((hb5.trans (hb6.mono hb5.size)).mono hbl.size)
            go_wp2_with fail
            have hbX : Below wC.heap.size wC w6 := hB6
            have hsl := hbX.size
            have hPr : PredW 34 #[.pointer (some ⟨w.heap.size, 0, none⟩), .pointer (some ⟨w.heap.size + 1, 0, none⟩)] (fun n => S n && T n) ((j + 1) + r) w6 := ⟨inter1_enters, fun W' n hW h1 h2 =>
              inter1_any _ _ S T g p k q n w.heap.size (w.heap.size + 1) W' ((hSC.out.later hbX).later hW) ((hTC.out.later hbX).later hW) ⟨h1, by omega⟩
                ⟨a, _, c, rfl, (hXC.out.later hbX (lt_of_block hXC.out)).later hW (Nat.lt_of_lt_of_le (lt_of_block hXC.out) hbX.size)⟩ ⟨a', _, c', rfl, (hYC.out.later hbX (lt_of_block hYC.out)).later hW (Nat.lt_of_lt_of_le (lt_of_block hYC.out) hbX.size)⟩⟩
            refine (bounded_any 34 #[.pointer (some ⟨w.heap.size, 0, none⟩), .pointer (some ⟨w.heap.size + 1, 0, none⟩)] (fun n => S n && T n) (j + 1) r HL.out (by omega) w6 hPr).mono ?_
            rintro e wF ⟨vF, rfl, hsF, hfF, hbF⟩
            obtain ⟨aF, nF, cF, rfl⟩ := isSet_val hsF
            have hbF2 := hbX.trans (hbF.mono hbX.size)
            have hZF := hZC.out.later hbF2 (lt_of_block hZC.out)
            have z0 := hZF.cell 0 _ rfl
            have z1 := hZF.cell 1 _ rfl
            have fz0 := hZF.frozen 0
            have fz1 := hZF.frozen 1
            have hf' := hfF.mono (C := w.heap.size + 1 + 1 + 1) (by omega)
            have hs3 := isSet_setCell (isSet_setCell hsF _ ⟨w.heap.size + 1 + 1, 0, none⟩ (.int .i64 ((j + 1) : Nat)) hf' (by simp)) _ ⟨w.heap.size + 1 + 1, 1, none⟩ (.slice aF nF cF) hf' (by simp)
            have BF := ((below_from2 hBC.out hbF2).setCell (p := ⟨w.heap.size + 1 + 1, 0, none⟩) (by simp; omega) (.int .i64 ((j + 1) : Nat))).setCell (p := ⟨w.heap.size + 1 + 1, 1, none⟩) (by simp; omega) (.slice aF nF cF)
            have hf3 := hf'.mono (C := w.heap.size + 1) (by omega)
            have HSF := Lib.hid hs3
            have HFF := Lib.hid hf3
            have HBF := Lib.hid BF
            clear hs3 hsF hfF hf' hf3 BF hZF hPr
            go_wp2
            refine bodyPost_ret (v := .tuple #[.agg #[.int .i64 ((j + 1) : Nat), .slice aF nF cF], .nilIface]) (by simp [results, Try.results15, go_sem, z0, z1]) rfl ⟨(j + 1), r, ⟨_, rfl, HSF.out, HFF.out, HBF.out⟩, by have := HMK.out; omega, hrpq⟩
end Go.Proofs.Ytcfcoojnjdoeeaa
