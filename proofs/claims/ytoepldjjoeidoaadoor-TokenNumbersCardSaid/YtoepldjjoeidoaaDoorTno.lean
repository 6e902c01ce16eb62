/- TokenNumbers: the law's walk. -/
import Derived.Test.YtoepldjjoeidoaaDoorDg
import Derived.Deep.RegionWith
namespace Go.Proofs.YtoepldjjoeidoaaDoor
open Go.RowKit Go.Shelf
set_option linter.unusedVariables false
set_option linter.unusedSimpArgs false

/-- A sign and digits. -/
def P1 (N : ByteArray) : Prop := ∃ S D, ascI N = S ++ D ∧ SgP S ∧ Dgs D ∧ D ≠ [] ∧ N.size ≤ 6
theorem digT_ne {D : ByteArray} (h : DigT D) : ascI D ≠ [] := fun e => by
  have h1 : (ascI D).length = D.size := by unfold ascI; rw [List.length_map, strB_len]
  rw [e] at h1
  have h2 := h.2.1
  have h3 : ([] : List Int).length = 0 := rfl
  omega
theorem p1_of {S D : ByteArray} (hS : SgP (ascI S)) (hs : S.size ≤ 1) (hD : DigT D) : P1 (S ++ D) :=
  ⟨ascI S, ascI D, ascI_app S D, hS, hD.1, digT_ne hD, by rw [ByteArray.size_append]; have := hD.2.2; omega⟩
def P2 (N : ByteArray) (wh : Bool) : Prop := ∃ S D F, ascI N = S ++ (D ++ F) ∧ SgP S ∧ Dgs D ∧ D ≠ [] ∧ FrP F ∧ wh = decide (F = []) ∧ N.size ≤ 12
def P3 (N : ByteArray) (wh : Bool) : Prop := ∃ S D F E, ascI N = S ++ (D ++ (F ++ E)) ∧ SgP S ∧ Dgs D ∧ D ≠ [] ∧ FrP F ∧ ExP E ∧ wh = (decide (F = []) && decide (E = [])) ∧ N.size ≤ 20
theorem p2_none {N : ByteArray} (h : P1 N) : P2 N true := by
  obtain ⟨S, D, h1, h2, h3, h4, h5⟩ := h
  exact ⟨S, D, [], by rw [h1, List.append_nil], h2, h3, h4, .inl rfl, rfl, by omega⟩
theorem p2_frac {N D2 : ByteArray} (h : P1 N) (hD : DigT D2) : P2 (N ++ ((⟨#[46]⟩ : ByteArray) ++ D2)) false := by
  obtain ⟨S, D, h1, h2, h3, h4, h5⟩ := h
  refine ⟨S, D, 46 :: ascI D2, ?_, h2, h3, h4, .inr ⟨ascI D2, rfl, hD.1, digT_ne hD⟩, rfl, ?_⟩
  · rw [ascI_app, ascI_app, h1, List.append_assoc]; rfl
  · rw [ByteArray.size_append, ByteArray.size_append]
    have := hD.2.2
    have : (⟨#[46]⟩ : ByteArray).size = 1 := rfl
    omega
theorem p3_none {N : ByteArray} {wh : Bool} (h : P2 N wh) : P3 N wh := by
  obtain ⟨S, D, F, h1, h2, h3, h4, h5, h6, h7⟩ := h
  exact ⟨S, D, F, [], by rw [h1, List.append_nil], h2, h3, h4, h5, .inl rfl, by rw [h6]; simp, by omega⟩
def expS (k : Nat) : ByteArray := if k = 0 then ⟨#[101]⟩ else if k = 1 then ⟨#[69, 45]⟩ else if k = 2 then ⟨#[101, 43]⟩ else ⟨#[69]⟩
theorem expS_at (k : Nat) (h : k < 4) : (∃ e s, ascI (expS k) = e :: s ∧ (e = 101 ∨ e = 69) ∧ SgP s) ∧ (expS k).size ≤ 2 := by
  have : k = 0 ∨ k = 1 ∨ k = 2 ∨ k = 3 := by omega
  rcases this with rfl | rfl | rfl | rfl
  · exact ⟨⟨101, [], rfl, .inl rfl, .inl rfl⟩, by decide⟩
  · exact ⟨⟨69, [45], rfl, .inr rfl, .inr (.inr rfl)⟩, by decide⟩
  · exact ⟨⟨101, [43], rfl, .inl rfl, .inr (.inl rfl)⟩, by decide⟩
  · exact ⟨⟨69, [], rfl, .inr rfl, .inl rfl⟩, by decide⟩
theorem expArr_at (k : Nat) (h : k < 4) : (#[Value.string ⟨#[101]⟩, .string ⟨#[69, 45]⟩, .string ⟨#[101, 43]⟩, .string ⟨#[69]⟩] : Array Value)[k]? = some (.string (expS k)) := by
  have : k = 0 ∨ k = 1 ∨ k = 2 ∨ k = 3 := by omega
  rcases this with rfl | rfl | rfl | rfl <;> rfl
theorem p3_exp {N X D3 : ByteArray} {wh : Bool} (h : P2 N wh) (hX : ∃ e s, ascI X = e :: s ∧ (e = 101 ∨ e = 69) ∧ SgP s) (hx : X.size ≤ 2) (hD : DigT D3) : P3 (N ++ (X ++ D3)) false := by
  obtain ⟨S, D, F, h1, h2, h3, h4, h5, h6, h7⟩ := h
  obtain ⟨e, s, hX, he, hs⟩ := hX
  refine ⟨S, D, F, e :: (s ++ ascI D3), ?_, h2, h3, h4, h5, .inr ⟨e, s, ascI D3, rfl, he, hs, hD.1, digT_ne hD⟩, by simp, ?_⟩
  · rw [ascI_app, ascI_app, h1, hX]; simp
  · rw [ByteArray.size_append, ByteArray.size_append]
    have := hD.2.2
    omega
def tailS (k : Nat) : ByteArray := if k = 0 then ⟨#[]⟩ else if k = 1 then ⟨#[37]⟩ else if k = 2 then ⟨#[112, 120]⟩ else ⟨#[45, 120]⟩
theorem strOf_asc (s : ByteArray) : strOfNums (ascI s) = s := by
  apply strB_inj
  rw [strB_nums]
  unfold ascI
  rw [List.map_map]
  conv => rhs; rw [← List.map_id (strB s)]
  apply List.map_congr_left
  intro b _
  show UInt8.ofNat (((b.toNat : Nat) : Int)).toNat = b
  simp
theorem p3_toks {N TS : ByteArray} {wh : Bool} (h : P3 N wh) (hT : TlP (ascI TS)) (hz : TS.size ≤ 2) (hA : Asc1 (ascI TS)) : toksF (ascI (N ++ TS)) = [numTk (ascI N) (ascI TS) wh, ⟨0, N.size + TS.size, N.size + TS.size, [], [], false⟩] := by
  obtain ⟨S, D, F, E, h1, h2, h3, h4, h5, h6, h7, h8⟩ := h
  have hl : ∀ s : ByteArray, (ascI s).length = s.size := fun s => by unfold ascI; rw [List.length_map, strB_len]
  have hdig : ∀ X, Dgs X → Asc1 X := fun X h c hc => by have := h c hc; omega
  have hsg : ∀ X, SgP X → Asc1 X := fun X h c hc => by
    rcases h with rfl | rfl | rfl
    · cases hc
    · simp at hc; omega
    · simp at hc; omega
  have e1 : ascI (N ++ TS) = S ++ (D ++ (F ++ (E ++ ascI TS))) := by rw [ascI_app, h1]; simp
  have ha : Asc1 (S ++ (D ++ (F ++ (E ++ ascI TS)))) := by
    intro c hc
    rcases List.mem_append.1 hc with hc | hc
    · exact hsg S h2 c hc
    rcases List.mem_append.1 hc with hc | hc
    · exact hdig D h3 c hc
    rcases List.mem_append.1 hc with hc | hc
    · rcases h5 with rfl | ⟨D2, rfl, hD2, _⟩
      · cases hc
      · rcases List.mem_cons.1 hc with rfl | hc
        · decide
        · exact hdig D2 hD2 c hc
    rcases List.mem_append.1 hc with hc | hc
    · rcases h6 with rfl | ⟨e, s, D3, rfl, he, hs, hD3, _⟩
      · cases hc
      · rcases List.mem_cons.1 hc with rfl | hc
        · omega
        · rcases List.mem_append.1 hc with hc | hc
          · exact hsg s hs c hc
          · exact hdig D3 hD3 c hc
    · exact hA c hc
  have hlen : (S ++ (D ++ (F ++ (E ++ ascI TS)))).length = N.size + TS.size := by rw [← e1, hl, ByteArray.size_append]
  rw [e1, num_toks h2 h3 h4 h5 h6 hT ha, hlen, h7, h1]
theorem nb_1 (w : World) (o : Obj) (q : Nat) : Below w.heap.size w ((w.alloc o).drewN q) := below_drewN ((Below.refl _ w).alloc (Nat.le_refl _) o) q
theorem nb_2 (w : World) (o : Obj) (q : Nat) : Below w.heap.size w (((w.alloc o).drew).drewN q) := below_drewN ((Below.refl _ w).alloc (Nat.le_refl _) o).drew q
theorem nb_3 (w : World) (o : Obj) (q : Nat) : Below w.heap.size w ((w.drewN q).alloc o) := (below_drewN (Below.refl _ w) q).alloc (Nat.le_refl _) o
theorem nb_4 (w : World) (o : Obj) (q : Nat) : Below w.heap.size w ((w.drew.drewN q).alloc o) := (below_drewN (Below.refl _ w).drew q).alloc (Nat.le_refl _) o
theorem below_undrew {a b : World} (h : Below a.drew.heap.size a.drew b) : Below a.heap.size a b := (Below.refl _ a).drew.trans h
def sgnS (k : Nat) : ByteArray := if k = 1 then ⟨#[43]⟩ else if k = 2 then ⟨#[45]⟩ else ⟨#[]⟩
theorem sgnS_at (k : Nat) (h : k < 4) : SgP (ascI (sgnS k)) ∧ (sgnS k).size ≤ 1 := by
  have : k = 0 ∨ k = 1 ∨ k = 2 ∨ k = 3 := by omega
  rcases this with rfl | rfl | rfl | rfl
  · exact ⟨.inl rfl, by decide⟩
  · exact ⟨.inr (.inl rfl), by decide⟩
  · exact ⟨.inr (.inr rfl), by decide⟩
  · exact ⟨.inl rfl, by decide⟩
theorem sgnArr_at (k : Nat) (h : k < 4) : (#[Value.string ⟨#[]⟩, .string ⟨#[43]⟩, .string ⟨#[45]⟩, .string ⟨#[]⟩] : Array Value)[k]? = some (.string (sgnS k)) := by
  have : k = 0 ∨ k = 1 ∨ k = 2 ∨ k = 3 := by omega
  rcases this with rfl | rfl | rfl | rfl <;> rfl

set_option maxRecDepth 100000 in
set_option maxHeartbeats 16000000 in
theorem lawTokNumbers_any (a b c sh un : Int) (w : World) (hT : TkW w) (ha : 0 ≤ a ∧ a ≤ 65535) (hb : 0 ≤ b ∧ b ≤ 65535) (hc : 0 ≤ c ∧ c ≤ 65535) (hs : 0 ≤ sh ∧ sh ≤ 255) (hu : 0 ≤ un ∧ un ≤ 255) :
    Calls Tryd.prog 6 #[.int .u16 a, .int .u16 b, .int .u16 c, .int .u8 sh, .int .u8 un] w (Told (.bool true) w) := by
  have cS := speaks3_any w hT
  have HT := Lib.hid hT
  clear hT
  obtain ⟨a, rfl⟩ : ∃ k : Nat, a = k := ⟨a.toNat, by omega⟩
  obtain ⟨b, rfl⟩ : ∃ k : Nat, b = k := ⟨b.toNat, by omega⟩
  obtain ⟨c, rfl⟩ : ∃ k : Nat, c = k := ⟨c.toNat, by omega⟩
  obtain ⟨s, rfl⟩ : ∃ k : Nat, sh = k := ⟨sh.toNat, by omega⟩
  obtain ⟨u, rfl⟩ : ∃ k : Nat, un = k := ⟨un.toNat, by omega⟩
  have cA := fun w => rdig10_any a w (by omega)
  have cB := fun w => rdig10_any b w (by omega)
  have cC := fun w => rdig10_any c w (by omega)
  have h3 := u8_and_nat s 3 (by omega) (by omega)
  have m3 : s &&& 3 < 4 := Nat.lt_of_le_of_lt Nat.and_le_right (by decide)
  generalize s &&& 3 = m at h3 m3
  have m3' : (m : Int) < 4 := by omega
  have h3 : bits .and .u8 (s : Int) 3 = (m : Int) := h3
  have hsl : ∀ W : World, (W.alloc (.cells #[.string ⟨#[]⟩, .string ⟨#[43]⟩, .string ⟨#[45]⟩, .string ⟨#[]⟩] 9)).cell? ⟨W.heap.size, m, none⟩ = some (.string (sgnS m)) := fun W => by
    simp only [World.cell?, heap_alloc_new]
    simpa using sgnArr_at m m3
  have hsz := (sgnS_at m m3).2
  have HSG := Lib.hid (sgnS_at m m3).1
  generalize sgnS m = S at *
  have HB := Lib.hid cB
  have HC := Lib.hid cC
  clear cB cC
  obtain ⟨ha0, ha1⟩ := ha
  obtain ⟨hb0, hb1⟩ := hb
  obtain ⟨hc0, hc1⟩ := hc
  have ew : ∀ k : Nat, k < 65536 → IntKind.i64.wrap (k : Int) = (k : Int) := fun k hk => by rw [IntWalk.i64_left]; unfold wrap64; omega
  have cA : ∀ w, Calls Tryd.prog 14 #[.int .i64 (IntKind.i64.wrap (a : Int)), .int .i64 10] w fun e w' => ∃ D, e = .returned (.string D) ∧ DigT D ∧ ∃ q, w' = w.drewN q := fun w => by rw [ew a (by omega)]; exact cA w
  have HEW := Lib.hid ew
  clear ew
  go_enter Tryd.func6, Tryd.ntmps6
  go_wp2_with fail
  refine cS.mono ?_
  rintro e w1 ⟨rfl, hbw1⟩
  go_wp2_with fail
  have HBW := Lib.hid hbw1
  clear hbw1
  have g1 : ∀ q, ((w1.drewN q).alloc (.cells #[.string ⟨#[]⟩, .string ⟨#[43]⟩, .string ⟨#[45]⟩, .string ⟨#[]⟩] 9)).cell? ⟨w1.heap.size, m, none⟩ = some (.string S) := fun q => hsl (w1.drewN q)
  have g2 : ∀ q, ((w1.drew.drewN q).alloc (.cells #[.string ⟨#[]⟩, .string ⟨#[43]⟩, .string ⟨#[45]⟩, .string ⟨#[]⟩] 9)).cell? ⟨w1.heap.size, m, none⟩ = some (.string S) := fun q => hsl (w1.drew.drewN q)
  have g3 : (w1.drew.alloc (.cells #[.string ⟨#[]⟩, .string ⟨#[43]⟩, .string ⟨#[45]⟩, .string ⟨#[]⟩] 9)).cell? ⟨w1.heap.size, m, none⟩ = some (.string S) := hsl w1.drew
  have g4 : ∀ q, ((w1.alloc (.cells #[.string ⟨#[]⟩, .string ⟨#[43]⟩, .string ⟨#[45]⟩, .string ⟨#[]⟩] 9)).drewN q).cell? ⟨w1.heap.size, m, none⟩ = some (.string S) := fun q => hsl w1
  have g5 : ∀ q, ((w1.alloc (.cells #[.string ⟨#[]⟩, .string ⟨#[43]⟩, .string ⟨#[45]⟩, .string ⟨#[]⟩] 9)).drew.drewN q).cell? ⟨w1.heap.size, m, none⟩ = some (.string S) := fun q => hsl w1
  have g6 : ((w1.alloc (.cells #[.string ⟨#[]⟩, .string ⟨#[43]⟩, .string ⟨#[45]⟩, .string ⟨#[]⟩] 9)).drew).cell? ⟨w1.heap.size, m, none⟩ = some (.string S) := hsl w1
  have g7 : (w1.alloc (.cells #[.string ⟨#[]⟩, .string ⟨#[43]⟩, .string ⟨#[45]⟩, .string ⟨#[]⟩] 9)).cell? ⟨w1.heap.size, m, none⟩ = some (.string S) := hsl w1
  have g8 : ∀ q, ((w1.drew.alloc (.cells #[.string ⟨#[]⟩, .string ⟨#[43]⟩, .string ⟨#[45]⟩, .string ⟨#[]⟩] 9)).drewN q).cell? ⟨w1.heap.size, m, none⟩ = some (.string S) := fun q => hsl w1.drew
  clear hsl
  go_cut [11] from 20 to 28 (fun s11 wx => ∃ N : ByteArray, s11 = .string N ∧ Hid (P1 N) ∧ Below w1.heap.size w1 wx)
  case first =>
    go_region_with ((go_at_call 14; (with_reducible refine (cA _).mono ?_); rintro e w2 ⟨D, rfl, hD, qd, rfl⟩; have hz1 := hD.2.1; have hz2 := hD.2.2; have hcat : ¬ 9223372036854775807 < S.size + D.size := by omega))
    all_goals (go_wp2_with fail; go_meet; exact ⟨S ++ D, rfl, Lib.hid (p1_of HSG.out hsz hD), by first | exact nb_1 _ _ _ | exact nb_2 _ _ _ | exact nb_3 _ _ _ | exact nb_4 _ _ _ | trace_state⟩)
  case rest =>
    obtain ⟨N, rfl, hP, hbc⟩ := hcut
    have HBc := Lib.hid (below_trans HBW.out hbc)
    clear hbc HBW g1 g2 g3 g4 g5 g6 g7 g8 cS
    have h4 := u8_and_nat s 4 (by omega) (by omega)
    generalize s &&& 4 = r4 at h4
    have h4 : bits .and .u8 (s : Int) 4 = (r4 : Int) := h4
    have h8 := u8_and_nat s 8 (by omega) (by omega)
    generalize s &&& 8 = r8 at h8
    have h8 : bits .and .u8 (s : Int) 8 = (r8 : Int) := h8
    have cB := HB.out
    by_cases e4 : r4 = 4
    · have q4 : ((r4 : Int) == 4) = true := beq_iff_eq.2 (by omega)
      go_wp2_with fail
      refine (cB _).mono ?_
      rintro e w2 ⟨D2, rfl, hD2, q2, rfl⟩
      have HP2 := Lib.hid (p2_frac hP.out hD2)
      have hz1 : N.size ≤ 6 := by obtain ⟨_, _, _, _, _, _, h⟩ := hP.out; exact h
      have hz2 := hD2.2.2
      have hcat1 : ¬ 9223372036854775807 < (⟨#[46]⟩ : ByteArray).size + D2.size := by have : (⟨#[46]⟩ : ByteArray).size = 1 := rfl; omega
      have hcat2 : ¬ 9223372036854775807 < N.size + ((⟨#[46]⟩ : ByteArray) ++ D2).size := by rw [ByteArray.size_append]; have : (⟨#[46]⟩ : ByteArray).size = 1 := rfl; omega
      have HB2 := Lib.hid (show Below w.heap.size w (wc.drewN q2) from below_drewN HBc.out q2)
      generalize hN2 : N ++ ((⟨#[46]⟩ : ByteArray) ++ D2) = N2 at *
      generalize wc.drewN q2 = W at *
      clear HBc hz1 hz2 hP
      have HBc := HB2
      by_cases e8 : r8 = 8
      · have q8 : ((r8 : Int) == 8) = true := beq_iff_eq.2 (by omega)
        have cC : ∀ w, Calls Tryd.prog 14 #[.int .i64 (IntKind.i64.wrap (c : Int)), .int .i64 10] w fun e w' => ∃ D, e = .returned (.string D) ∧ DigT D ∧ ∃ q, w' = w.drewN q := fun w => by rw [HEW.out c (by omega)]; exact HC.out w
        obtain ⟨v, hv, hv4⟩ : ∃ v : Nat, bits .and .u8 ((s / 16 : Nat) : Int) 3 = (v : Int) ∧ v < 4 := by
          have h := u8_and_nat (s / 16) 3 (by omega) (by omega)
          exact ⟨_, h, Nat.lt_of_le_of_lt Nat.and_le_right (by decide)⟩
        have hv : bits .and .u8 ((s : Int) / 16) 3 = (v : Int) := hv
        have hv4' : (v : Int) < 4 := by omega
        have hsl : ∀ W : World, (W.alloc (.cells #[.string ⟨#[101]⟩, .string ⟨#[69, 45]⟩, .string ⟨#[101, 43]⟩, .string ⟨#[69]⟩] 9)).cell? ⟨W.heap.size, v, none⟩ = some (.string (expS v)) := fun W => by
          simp only [World.cell?, heap_alloc_new]
          simpa using expArr_at v hv4
        have hxz := (expS_at v hv4).2
        have HXE := Lib.hid (expS_at v hv4).1
        generalize expS v = X at *
        have hzN : N2.size ≤ 12 := by obtain ⟨_, _, _, _, _, _, _, _, _, h⟩ := HP2.out; exact h
        go_wp2_with fail
        have g1 : ∀ q, ((W.drewN q).alloc (.cells #[.string ⟨#[101]⟩, .string ⟨#[69, 45]⟩, .string ⟨#[101, 43]⟩, .string ⟨#[69]⟩] 9)).cell? ⟨W.heap.size, v, none⟩ = some (.string X) := fun q => hsl (W.drewN q)
        have g2 : ∀ q, ((W.drew.drewN q).alloc (.cells #[.string ⟨#[101]⟩, .string ⟨#[69, 45]⟩, .string ⟨#[101, 43]⟩, .string ⟨#[69]⟩] 9)).cell? ⟨W.heap.size, v, none⟩ = some (.string X) := fun q => hsl (W.drew.drewN q)
        have g3 : (W.drew.alloc (.cells #[.string ⟨#[101]⟩, .string ⟨#[69, 45]⟩, .string ⟨#[101, 43]⟩, .string ⟨#[69]⟩] 9)).cell? ⟨W.heap.size, v, none⟩ = some (.string X) := hsl W.drew
        have g4 : ∀ q, ((W.alloc (.cells #[.string ⟨#[101]⟩, .string ⟨#[69, 45]⟩, .string ⟨#[101, 43]⟩, .string ⟨#[69]⟩] 9)).drewN q).cell? ⟨W.heap.size, v, none⟩ = some (.string X) := fun q => hsl W
        have g5 : ∀ q, ((W.alloc (.cells #[.string ⟨#[101]⟩, .string ⟨#[69, 45]⟩, .string ⟨#[101, 43]⟩, .string ⟨#[69]⟩] 9)).drew.drewN q).cell? ⟨W.heap.size, v, none⟩ = some (.string X) := fun q => hsl W
        have g6 : ((W.alloc (.cells #[.string ⟨#[101]⟩, .string ⟨#[69, 45]⟩, .string ⟨#[101, 43]⟩, .string ⟨#[69]⟩] 9)).drew).cell? ⟨W.heap.size, v, none⟩ = some (.string X) := hsl W
        have g7 : (W.alloc (.cells #[.string ⟨#[101]⟩, .string ⟨#[69, 45]⟩, .string ⟨#[101, 43]⟩, .string ⟨#[69]⟩] 9)).cell? ⟨W.heap.size, v, none⟩ = some (.string X) := hsl W
        have g8 : ∀ q, ((W.drew.alloc (.cells #[.string ⟨#[101]⟩, .string ⟨#[69, 45]⟩, .string ⟨#[101, 43]⟩, .string ⟨#[69]⟩] 9)).drewN q).cell? ⟨W.heap.size, v, none⟩ = some (.string X) := fun q => hsl W.drew
        clear hsl
        go_cut [11] from 41 to 52 (fun s11 wx => ∃ M : ByteArray, s11 = .string M ∧ Hid (P3 M false) ∧ Below W.heap.size W wx)
        case first =>
          go_region_with ((go_at_call 14; (with_reducible refine (cC _).mono ?_); rintro e w2 ⟨D, rfl, hD, qd, rfl⟩; have hz1 := hD.2.1; have hz2 := hD.2.2; have hcat : ¬ 9223372036854775807 < X.size + D.size := (by omega); have hcat2 : ¬ 9223372036854775807 < N2.size + (X ++ D).size := (by rw [ByteArray.size_append]; omega)))
          all_goals (go_wp2_with fail; go_meet; exact ⟨N2 ++ (X ++ D), rfl, Lib.hid (p3_exp HP2.out HXE.out hxz hD), by first | exact nb_1 _ _ _ | exact nb_2 _ _ _ | exact nb_3 _ _ _ | exact nb_4 _ _ _⟩)
        case rest =>
          obtain ⟨M, rfl, hP3, hbd⟩ := hcut
          have HP3 := hP3
          have HBc' := Lib.hid (below_trans HBc.out hbd)
          clear HBc
          have HBc := HBc'
          clear hP3 hbd g1 g2 g3 g4 g5 g6 g7 g8 hzN hxz cC
          obtain ⟨t, ht, ht4⟩ : ∃ t : Nat, (u : Int) % 4 = (t : Int) ∧ t < 4 := ⟨u % 4, by omega, by omega⟩
          have hzN : M.size ≤ 20 := by obtain ⟨_, _, _, _, _, _, _, _, _, _, _, h⟩ := HP3.out; exact h
          have hbA : Below wc.heap.size wc ((wc.alloc (.cells #[.string ⟨#[]⟩, .string ⟨#[37]⟩, .string ⟨#[112, 120]⟩, .string ⟨#[45, 120]⟩] 9)).alloc (.cells #[.int .i64 10, .int .i64 11, .int .i64 12, .int .i64 12] 3)) := ((Below.refl _ wc).alloc (Nat.le_refl _) _).alloc (by simp) _
          have ht5 : t = 0 ∨ t = 1 ∨ t = 2 ∨ t = 3 := by omega
          rcases ht5 with rfl | rfl | rfl | rfl
          · have hcatT : ¬ 9223372036854775807 < M.size + (⟨#[]⟩ : ByteArray).size := by have : (⟨#[]⟩ : ByteArray).size = 0 := rfl; omega
            have hzE : (M ++ (⟨#[]⟩ : ByteArray)).size = M.size + 0 := ByteArray.size_append
            have htk := p3_toks (TS := ⟨#[]⟩) HP3.out (.inl rfl) (by decide) (by unfold Asc1; decide)
            obtain ⟨cap1, w2, hcv1, hb2, hr2, hl2⟩ := conv_reads (M ++ (⟨#[]⟩ : ByteArray)) ((wc.alloc (.cells #[.string ⟨#[]⟩, .string ⟨#[37]⟩, .string ⟨#[112, 120]⟩, .string ⟨#[45, 120]⟩] 9)).alloc (.cells #[.int .i64 10, .int .i64 11, .int .i64 12, .int .i64 12] 3)) (by omega)
            have hb2' := hbA.trans (hb2.mono hbA.size)
            have cR := tread_any _ (M ++ (⟨#[]⟩ : ByteArray)).size cap1 (ascI (M ++ (⟨#[]⟩ : ByteArray))) w2 hl2 hr2 (ascI_u8 _) (by omega) ((HT.out.later HBc.out).later hb2')
            rw [htk, hzE] at cR
            generalize ((wc.alloc (.cells #[.string ⟨#[]⟩, .string ⟨#[37]⟩, .string ⟨#[112, 120]⟩, .string ⟨#[45, 120]⟩] 9)).alloc (.cells #[.int .i64 10, .int .i64 11, .int .i64 12, .int .i64 12] 3)).heap.size = A at hcv1 cR
            have HBw := Lib.hid (below_trans HBc.out hb2')
            clear hb2 hr2 hl2 hbA hb2' htk
            go_wp2_with fail
            refine cR.mono ?_
            rintro e w3 ⟨a3, d3, rfl, hr3, hb3⟩
            have HBw3 := Lib.hid (below_trans HBw.out hb3)
            obtain ⟨hd3, hd3', b3, rfl, hlt3, hc3⟩ := hr3
            have k0 : ∀ o, (w3.alloc o).cell? ⟨b3, 0, none⟩ = some (.int .i64 10) := fun o => (((Below.refl _ w3).alloc (Nat.le_refl _) o).cell (p := ⟨b3, 0, none⟩) hlt3).trans (hc3 0 _ rfl)
            have k1 : ∀ o, (w3.alloc o).cell? ⟨b3, 1, none⟩ = some (.int .i64 0) := fun o => (((Below.refl _ w3).alloc (Nat.le_refl _) o).cell (p := ⟨b3, 1, none⟩) hlt3).trans (hc3 1 _ rfl)
            have k2 : ∀ o, (w3.alloc o).cell? ⟨b3, 2, none⟩ = some (.int .i64 (M.size : Int)) := fun o => (((Below.refl _ w3).alloc (Nat.le_refl _) o).cell (p := ⟨b3, 2, none⟩) hlt3).trans ((hc3 2 _ rfl).trans (by
              have hl : (ascI M).length = M.size := by unfold ascI; rw [List.length_map, strB_len]
              show some (Value.int .i64 (((ascI M).length + 0 : Nat) : Int)) = _
              rw [hl]; rfl))
            have k3 : ∀ o, (w3.alloc o).cell? ⟨b3, 3, none⟩ = some (.string ⟨#[]⟩) := fun o => (((Below.refl _ w3).alloc (Nat.le_refl _) o).cell (p := ⟨b3, 3, none⟩) hlt3).trans (hc3 3 _ rfl)
            have k4 : ∀ o, (w3.alloc o).cell? ⟨b3, 4, none⟩ = some (.string M) := fun o => (((Below.refl _ w3).alloc (Nat.le_refl _) o).cell (p := ⟨b3, 4, none⟩) hlt3).trans ((hc3 4 _ rfl).trans (by show some (Value.string (strOfNums (ascI M))) = _; rw [strOf_asc]))
            have k5 : ∀ o, (w3.alloc o).cell? ⟨b3, 5, none⟩ = some (.bool false) := fun o => (((Below.refl _ w3).alloc (Nat.le_refl _) o).cell (p := ⟨b3, 5, none⟩) hlt3).trans (hc3 5 _ rfl)
            have qN : (M.toList == M.toList) = true := beq_self_eq_true _
            clear cR hcv1 hb3 hc3
            go_wp2
            go_region
            go_wp2
            go_ret
            exact ⟨rfl, (HBw3.out.alloc HBw3.out.size _).drew⟩
          · have hcatT : ¬ 9223372036854775807 < M.size + (⟨#[37]⟩ : ByteArray).size := by have : (⟨#[37]⟩ : ByteArray).size = 1 := rfl; omega
            have hzE : (M ++ (⟨#[37]⟩ : ByteArray)).size = M.size + 1 := ByteArray.size_append
            have htk := p3_toks (TS := ⟨#[37]⟩) HP3.out (.inr (.inl rfl)) (by decide) (by unfold Asc1; decide)
            obtain ⟨cap1, w2, hcv1, hb2, hr2, hl2⟩ := conv_reads (M ++ (⟨#[37]⟩ : ByteArray)) ((wc.alloc (.cells #[.string ⟨#[]⟩, .string ⟨#[37]⟩, .string ⟨#[112, 120]⟩, .string ⟨#[45, 120]⟩] 9)).alloc (.cells #[.int .i64 10, .int .i64 11, .int .i64 12, .int .i64 12] 3)) (by omega)
            have hb2' := hbA.trans (hb2.mono hbA.size)
            have cR := tread_any _ (M ++ (⟨#[37]⟩ : ByteArray)).size cap1 (ascI (M ++ (⟨#[37]⟩ : ByteArray))) w2 hl2 hr2 (ascI_u8 _) (by omega) ((HT.out.later HBc.out).later hb2')
            rw [htk, hzE] at cR
            generalize ((wc.alloc (.cells #[.string ⟨#[]⟩, .string ⟨#[37]⟩, .string ⟨#[112, 120]⟩, .string ⟨#[45, 120]⟩] 9)).alloc (.cells #[.int .i64 10, .int .i64 11, .int .i64 12, .int .i64 12] 3)).heap.size = A at hcv1 cR
            have HBw := Lib.hid (below_trans HBc.out hb2')
            clear hb2 hr2 hl2 hbA hb2' htk
            go_wp2_with fail
            refine cR.mono ?_
            rintro e w3 ⟨a3, d3, rfl, hr3, hb3⟩
            have HBw3 := Lib.hid (below_trans HBw.out hb3)
            obtain ⟨hd3, hd3', b3, rfl, hlt3, hc3⟩ := hr3
            have k0 : ∀ o, (w3.alloc o).cell? ⟨b3, 0, none⟩ = some (.int .i64 11) := fun o => (((Below.refl _ w3).alloc (Nat.le_refl _) o).cell (p := ⟨b3, 0, none⟩) hlt3).trans (hc3 0 _ rfl)
            have k1 : ∀ o, (w3.alloc o).cell? ⟨b3, 1, none⟩ = some (.int .i64 0) := fun o => (((Below.refl _ w3).alloc (Nat.le_refl _) o).cell (p := ⟨b3, 1, none⟩) hlt3).trans (hc3 1 _ rfl)
            have k2 : ∀ o, (w3.alloc o).cell? ⟨b3, 2, none⟩ = some (.int .i64 ((M.size : Int) + 1)) := fun o => (((Below.refl _ w3).alloc (Nat.le_refl _) o).cell (p := ⟨b3, 2, none⟩) hlt3).trans ((hc3 2 _ rfl).trans (by
              have hl : (ascI M).length = M.size := by unfold ascI; rw [List.length_map, strB_len]
              show some (Value.int .i64 (((ascI M).length + 1 : Nat) : Int)) = _
              rw [hl]; rfl))
            have k3 : ∀ o, (w3.alloc o).cell? ⟨b3, 3, none⟩ = some (.string ⟨#[]⟩) := fun o => (((Below.refl _ w3).alloc (Nat.le_refl _) o).cell (p := ⟨b3, 3, none⟩) hlt3).trans (hc3 3 _ rfl)
            have k4 : ∀ o, (w3.alloc o).cell? ⟨b3, 4, none⟩ = some (.string M) := fun o => (((Below.refl _ w3).alloc (Nat.le_refl _) o).cell (p := ⟨b3, 4, none⟩) hlt3).trans ((hc3 4 _ rfl).trans (by show some (Value.string (strOfNums (ascI M))) = _; rw [strOf_asc]))
            have k5 : ∀ o, (w3.alloc o).cell? ⟨b3, 5, none⟩ = some (.bool false) := fun o => (((Below.refl _ w3).alloc (Nat.le_refl _) o).cell (p := ⟨b3, 5, none⟩) hlt3).trans (hc3 5 _ rfl)
            have qN : (M.toList == M.toList) = true := beq_self_eq_true _
            clear cR hcv1 hb3 hc3
            go_wp2
            go_region
            go_wp2
            go_ret
            exact ⟨rfl, (HBw3.out.alloc HBw3.out.size _).drew⟩
          · have hcatT : ¬ 9223372036854775807 < M.size + (⟨#[112, 120]⟩ : ByteArray).size := by have : (⟨#[112, 120]⟩ : ByteArray).size = 2 := rfl; omega
            have hzE : (M ++ (⟨#[112, 120]⟩ : ByteArray)).size = M.size + 2 := ByteArray.size_append
            have htk := p3_toks (TS := ⟨#[112, 120]⟩) HP3.out (.inr (.inr (.inl rfl))) (by decide) (by unfold Asc1; decide)
            obtain ⟨cap1, w2, hcv1, hb2, hr2, hl2⟩ := conv_reads (M ++ (⟨#[112, 120]⟩ : ByteArray)) ((wc.alloc (.cells #[.string ⟨#[]⟩, .string ⟨#[37]⟩, .string ⟨#[112, 120]⟩, .string ⟨#[45, 120]⟩] 9)).alloc (.cells #[.int .i64 10, .int .i64 11, .int .i64 12, .int .i64 12] 3)) (by omega)
            have hb2' := hbA.trans (hb2.mono hbA.size)
            have cR := tread_any _ (M ++ (⟨#[112, 120]⟩ : ByteArray)).size cap1 (ascI (M ++ (⟨#[112, 120]⟩ : ByteArray))) w2 hl2 hr2 (ascI_u8 _) (by omega) ((HT.out.later HBc.out).later hb2')
            rw [htk, hzE] at cR
            generalize ((wc.alloc (.cells #[.string ⟨#[]⟩, .string ⟨#[37]⟩, .string ⟨#[112, 120]⟩, .string ⟨#[45, 120]⟩] 9)).alloc (.cells #[.int .i64 10, .int .i64 11, .int .i64 12, .int .i64 12] 3)).heap.size = A at hcv1 cR
            have HBw := Lib.hid (below_trans HBc.out hb2')
            clear hb2 hr2 hl2 hbA hb2' htk
            go_wp2_with fail
            refine cR.mono ?_
            rintro e w3 ⟨a3, d3, rfl, hr3, hb3⟩
            have HBw3 := Lib.hid (below_trans HBw.out hb3)
            obtain ⟨hd3, hd3', b3, rfl, hlt3, hc3⟩ := hr3
            have k0 : ∀ o, (w3.alloc o).cell? ⟨b3, 0, none⟩ = some (.int .i64 12) := fun o => (((Below.refl _ w3).alloc (Nat.le_refl _) o).cell (p := ⟨b3, 0, none⟩) hlt3).trans (hc3 0 _ rfl)
            have k1 : ∀ o, (w3.alloc o).cell? ⟨b3, 1, none⟩ = some (.int .i64 0) := fun o => (((Below.refl _ w3).alloc (Nat.le_refl _) o).cell (p := ⟨b3, 1, none⟩) hlt3).trans (hc3 1 _ rfl)
            have k2 : ∀ o, (w3.alloc o).cell? ⟨b3, 2, none⟩ = some (.int .i64 ((M.size : Int) + 2)) := fun o => (((Below.refl _ w3).alloc (Nat.le_refl _) o).cell (p := ⟨b3, 2, none⟩) hlt3).trans ((hc3 2 _ rfl).trans (by
              have hl : (ascI M).length = M.size := by unfold ascI; rw [List.length_map, strB_len]
              show some (Value.int .i64 (((ascI M).length + 2 : Nat) : Int)) = _
              rw [hl]; rfl))
            have k3 : ∀ o, (w3.alloc o).cell? ⟨b3, 3, none⟩ = some (.string ⟨#[112, 120]⟩) := fun o => (((Below.refl _ w3).alloc (Nat.le_refl _) o).cell (p := ⟨b3, 3, none⟩) hlt3).trans (hc3 3 _ rfl)
            have k4 : ∀ o, (w3.alloc o).cell? ⟨b3, 4, none⟩ = some (.string M) := fun o => (((Below.refl _ w3).alloc (Nat.le_refl _) o).cell (p := ⟨b3, 4, none⟩) hlt3).trans ((hc3 4 _ rfl).trans (by show some (Value.string (strOfNums (ascI M))) = _; rw [strOf_asc]))
            have k5 : ∀ o, (w3.alloc o).cell? ⟨b3, 5, none⟩ = some (.bool false) := fun o => (((Below.refl _ w3).alloc (Nat.le_refl _) o).cell (p := ⟨b3, 5, none⟩) hlt3).trans (hc3 5 _ rfl)
            have qN : (M.toList == M.toList) = true := beq_self_eq_true _
            clear cR hcv1 hb3 hc3
            go_wp2
            go_region
            go_wp2
            go_ret
            exact ⟨rfl, (HBw3.out.alloc HBw3.out.size _).drew⟩
          · have hcatT : ¬ 9223372036854775807 < M.size + (⟨#[45, 120]⟩ : ByteArray).size := by have : (⟨#[45, 120]⟩ : ByteArray).size = 2 := rfl; omega
            have hzE : (M ++ (⟨#[45, 120]⟩ : ByteArray)).size = M.size + 2 := ByteArray.size_append
            have htk := p3_toks (TS := ⟨#[45, 120]⟩) HP3.out (.inr (.inr (.inr rfl))) (by decide) (by unfold Asc1; decide)
            obtain ⟨cap1, w2, hcv1, hb2, hr2, hl2⟩ := conv_reads (M ++ (⟨#[45, 120]⟩ : ByteArray)) ((wc.alloc (.cells #[.string ⟨#[]⟩, .string ⟨#[37]⟩, .string ⟨#[112, 120]⟩, .string ⟨#[45, 120]⟩] 9)).alloc (.cells #[.int .i64 10, .int .i64 11, .int .i64 12, .int .i64 12] 3)) (by omega)
            have hb2' := hbA.trans (hb2.mono hbA.size)
            have cR := tread_any _ (M ++ (⟨#[45, 120]⟩ : ByteArray)).size cap1 (ascI (M ++ (⟨#[45, 120]⟩ : ByteArray))) w2 hl2 hr2 (ascI_u8 _) (by omega) ((HT.out.later HBc.out).later hb2')
            rw [htk, hzE] at cR
            generalize ((wc.alloc (.cells #[.string ⟨#[]⟩, .string ⟨#[37]⟩, .string ⟨#[112, 120]⟩, .string ⟨#[45, 120]⟩] 9)).alloc (.cells #[.int .i64 10, .int .i64 11, .int .i64 12, .int .i64 12] 3)).heap.size = A at hcv1 cR
            have HBw := Lib.hid (below_trans HBc.out hb2')
            clear hb2 hr2 hl2 hbA hb2' htk
            go_wp2_with fail
            refine cR.mono ?_
            rintro e w3 ⟨a3, d3, rfl, hr3, hb3⟩
            have HBw3 := Lib.hid (below_trans HBw.out hb3)
            obtain ⟨hd3, hd3', b3, rfl, hlt3, hc3⟩ := hr3
            have k0 : ∀ o, (w3.alloc o).cell? ⟨b3, 0, none⟩ = some (.int .i64 12) := fun o => (((Below.refl _ w3).alloc (Nat.le_refl _) o).cell (p := ⟨b3, 0, none⟩) hlt3).trans (hc3 0 _ rfl)
            have k1 : ∀ o, (w3.alloc o).cell? ⟨b3, 1, none⟩ = some (.int .i64 0) := fun o => (((Below.refl _ w3).alloc (Nat.le_refl _) o).cell (p := ⟨b3, 1, none⟩) hlt3).trans (hc3 1 _ rfl)
            have k2 : ∀ o, (w3.alloc o).cell? ⟨b3, 2, none⟩ = some (.int .i64 ((M.size : Int) + 2)) := fun o => (((Below.refl _ w3).alloc (Nat.le_refl _) o).cell (p := ⟨b3, 2, none⟩) hlt3).trans ((hc3 2 _ rfl).trans (by
              have hl : (ascI M).length = M.size := by unfold ascI; rw [List.length_map, strB_len]
              show some (Value.int .i64 (((ascI M).length + 2 : Nat) : Int)) = _
              rw [hl]; rfl))
            have k3 : ∀ o, (w3.alloc o).cell? ⟨b3, 3, none⟩ = some (.string ⟨#[45, 120]⟩) := fun o => (((Below.refl _ w3).alloc (Nat.le_refl _) o).cell (p := ⟨b3, 3, none⟩) hlt3).trans (hc3 3 _ rfl)
            have k4 : ∀ o, (w3.alloc o).cell? ⟨b3, 4, none⟩ = some (.string M) := fun o => (((Below.refl _ w3).alloc (Nat.le_refl _) o).cell (p := ⟨b3, 4, none⟩) hlt3).trans ((hc3 4 _ rfl).trans (by show some (Value.string (strOfNums (ascI M))) = _; rw [strOf_asc]))
            have k5 : ∀ o, (w3.alloc o).cell? ⟨b3, 5, none⟩ = some (.bool false) := fun o => (((Below.refl _ w3).alloc (Nat.le_refl _) o).cell (p := ⟨b3, 5, none⟩) hlt3).trans (hc3 5 _ rfl)
            have qN : (M.toList == M.toList) = true := beq_self_eq_true _
            clear cR hcv1 hb3 hc3
            go_wp2
            go_region
            go_wp2
            go_ret
            exact ⟨rfl, (HBw3.out.alloc HBw3.out.size _).drew⟩
      · have q8 : ((r8 : Int) == 8) = false := beq_eq_false_iff_ne.2 (by omega)
        have HP3 := Lib.hid (p3_none HP2.out)
        obtain ⟨t, ht, ht4⟩ : ∃ t : Nat, (u : Int) % 4 = (t : Int) ∧ t < 4 := ⟨u % 4, by omega, by omega⟩
        have hzN : N2.size ≤ 20 := by obtain ⟨_, _, _, _, _, _, _, _, _, _, _, h⟩ := HP3.out; exact h
        have hbA : Below W.heap.size W ((W.alloc (.cells #[.string ⟨#[]⟩, .string ⟨#[37]⟩, .string ⟨#[112, 120]⟩, .string ⟨#[45, 120]⟩] 9)).alloc (.cells #[.int .i64 10, .int .i64 11, .int .i64 12, .int .i64 12] 3)) := ((Below.refl _ W).alloc (Nat.le_refl _) _).alloc (by simp) _
        have ht5 : t = 0 ∨ t = 1 ∨ t = 2 ∨ t = 3 := by omega
        rcases ht5 with rfl | rfl | rfl | rfl
        · have hcatT : ¬ 9223372036854775807 < N2.size + (⟨#[]⟩ : ByteArray).size := by have : (⟨#[]⟩ : ByteArray).size = 0 := rfl; omega
          have hzE : (N2 ++ (⟨#[]⟩ : ByteArray)).size = N2.size + 0 := ByteArray.size_append
          have htk := p3_toks (TS := ⟨#[]⟩) HP3.out (.inl rfl) (by decide) (by unfold Asc1; decide)
          obtain ⟨cap1, w2, hcv1, hb2, hr2, hl2⟩ := conv_reads (N2 ++ (⟨#[]⟩ : ByteArray)) ((W.alloc (.cells #[.string ⟨#[]⟩, .string ⟨#[37]⟩, .string ⟨#[112, 120]⟩, .string ⟨#[45, 120]⟩] 9)).alloc (.cells #[.int .i64 10, .int .i64 11, .int .i64 12, .int .i64 12] 3)) (by omega)
          have hb2' := hbA.trans (hb2.mono hbA.size)
          have cR := tread_any _ (N2 ++ (⟨#[]⟩ : ByteArray)).size cap1 (ascI (N2 ++ (⟨#[]⟩ : ByteArray))) w2 hl2 hr2 (ascI_u8 _) (by omega) ((HT.out.later HBc.out).later hb2')
          rw [htk, hzE] at cR
          generalize ((W.alloc (.cells #[.string ⟨#[]⟩, .string ⟨#[37]⟩, .string ⟨#[112, 120]⟩, .string ⟨#[45, 120]⟩] 9)).alloc (.cells #[.int .i64 10, .int .i64 11, .int .i64 12, .int .i64 12] 3)).heap.size = A at hcv1 cR
          have HBw := Lib.hid (below_trans HBc.out hb2')
          clear hb2 hr2 hl2 hbA hb2' htk
          go_wp2_with fail
          refine cR.mono ?_
          rintro e w3 ⟨a3, d3, rfl, hr3, hb3⟩
          have HBw3 := Lib.hid (below_trans HBw.out hb3)
          obtain ⟨hd3, hd3', b3, rfl, hlt3, hc3⟩ := hr3
          have k0 : ∀ o, (w3.alloc o).cell? ⟨b3, 0, none⟩ = some (.int .i64 10) := fun o => (((Below.refl _ w3).alloc (Nat.le_refl _) o).cell (p := ⟨b3, 0, none⟩) hlt3).trans (hc3 0 _ rfl)
          have k1 : ∀ o, (w3.alloc o).cell? ⟨b3, 1, none⟩ = some (.int .i64 0) := fun o => (((Below.refl _ w3).alloc (Nat.le_refl _) o).cell (p := ⟨b3, 1, none⟩) hlt3).trans (hc3 1 _ rfl)
          have k2 : ∀ o, (w3.alloc o).cell? ⟨b3, 2, none⟩ = some (.int .i64 (N2.size : Int)) := fun o => (((Below.refl _ w3).alloc (Nat.le_refl _) o).cell (p := ⟨b3, 2, none⟩) hlt3).trans ((hc3 2 _ rfl).trans (by
            have hl : (ascI N2).length = N2.size := by unfold ascI; rw [List.length_map, strB_len]
            show some (Value.int .i64 (((ascI N2).length + 0 : Nat) : Int)) = _
            rw [hl]; rfl))
          have k3 : ∀ o, (w3.alloc o).cell? ⟨b3, 3, none⟩ = some (.string ⟨#[]⟩) := fun o => (((Below.refl _ w3).alloc (Nat.le_refl _) o).cell (p := ⟨b3, 3, none⟩) hlt3).trans (hc3 3 _ rfl)
          have k4 : ∀ o, (w3.alloc o).cell? ⟨b3, 4, none⟩ = some (.string N2) := fun o => (((Below.refl _ w3).alloc (Nat.le_refl _) o).cell (p := ⟨b3, 4, none⟩) hlt3).trans ((hc3 4 _ rfl).trans (by show some (Value.string (strOfNums (ascI N2))) = _; rw [strOf_asc]))
          have k5 : ∀ o, (w3.alloc o).cell? ⟨b3, 5, none⟩ = some (.bool false) := fun o => (((Below.refl _ w3).alloc (Nat.le_refl _) o).cell (p := ⟨b3, 5, none⟩) hlt3).trans (hc3 5 _ rfl)
          have qN : (N2.toList == N2.toList) = true := beq_self_eq_true _
          clear cR hcv1 hb3 hc3
          go_wp2
          go_region
          go_wp2
          go_ret
          exact ⟨rfl, (HBw3.out.alloc HBw3.out.size _).drew⟩
        · have hcatT : ¬ 9223372036854775807 < N2.size + (⟨#[37]⟩ : ByteArray).size := by have : (⟨#[37]⟩ : ByteArray).size = 1 := rfl; omega
          have hzE : (N2 ++ (⟨#[37]⟩ : ByteArray)).size = N2.size + 1 := ByteArray.size_append
          have htk := p3_toks (TS := ⟨#[37]⟩) HP3.out (.inr (.inl rfl)) (by decide) (by unfold Asc1; decide)
          obtain ⟨cap1, w2, hcv1, hb2, hr2, hl2⟩ := conv_reads (N2 ++ (⟨#[37]⟩ : ByteArray)) ((W.alloc (.cells #[.string ⟨#[]⟩, .string ⟨#[37]⟩, .string ⟨#[112, 120]⟩, .string ⟨#[45, 120]⟩] 9)).alloc (.cells #[.int .i64 10, .int .i64 11, .int .i64 12, .int .i64 12] 3)) (by omega)
          have hb2' := hbA.trans (hb2.mono hbA.size)
          have cR := tread_any _ (N2 ++ (⟨#[37]⟩ : ByteArray)).size cap1 (ascI (N2 ++ (⟨#[37]⟩ : ByteArray))) w2 hl2 hr2 (ascI_u8 _) (by omega) ((HT.out.later HBc.out).later hb2')
          rw [htk, hzE] at cR
          generalize ((W.alloc (.cells #[.string ⟨#[]⟩, .string ⟨#[37]⟩, .string ⟨#[112, 120]⟩, .string ⟨#[45, 120]⟩] 9)).alloc (.cells #[.int .i64 10, .int .i64 11, .int .i64 12, .int .i64 12] 3)).heap.size = A at hcv1 cR
          have HBw := Lib.hid (below_trans HBc.out hb2')
          clear hb2 hr2 hl2 hbA hb2' htk
          go_wp2_with fail
          refine cR.mono ?_
          rintro e w3 ⟨a3, d3, rfl, hr3, hb3⟩
          have HBw3 := Lib.hid (below_trans HBw.out hb3)
          obtain ⟨hd3, hd3', b3, rfl, hlt3, hc3⟩ := hr3
          have k0 : ∀ o, (w3.alloc o).cell? ⟨b3, 0, none⟩ = some (.int .i64 11) := fun o => (((Below.refl _ w3).alloc (Nat.le_refl _) o).cell (p := ⟨b3, 0, none⟩) hlt3).trans (hc3 0 _ rfl)
          have k1 : ∀ o, (w3.alloc o).cell? ⟨b3, 1, none⟩ = some (.int .i64 0) := fun o => (((Below.refl _ w3).alloc (Nat.le_refl _) o).cell (p := ⟨b3, 1, none⟩) hlt3).trans (hc3 1 _ rfl)
          have k2 : ∀ o, (w3.alloc o).cell? ⟨b3, 2, none⟩ = some (.int .i64 ((N2.size : Int) + 1)) := fun o => (((Below.refl _ w3).alloc (Nat.le_refl _) o).cell (p := ⟨b3, 2, none⟩) hlt3).trans ((hc3 2 _ rfl).trans (by
            have hl : (ascI N2).length = N2.size := by unfold ascI; rw [List.length_map, strB_len]
            show some (Value.int .i64 (((ascI N2).length + 1 : Nat) : Int)) = _
            rw [hl]; rfl))
          have k3 : ∀ o, (w3.alloc o).cell? ⟨b3, 3, none⟩ = some (.string ⟨#[]⟩) := fun o => (((Below.refl _ w3).alloc (Nat.le_refl _) o).cell (p := ⟨b3, 3, none⟩) hlt3).trans (hc3 3 _ rfl)
          have k4 : ∀ o, (w3.alloc o).cell? ⟨b3, 4, none⟩ = some (.string N2) := fun o => (((Below.refl _ w3).alloc (Nat.le_refl _) o).cell (p := ⟨b3, 4, none⟩) hlt3).trans ((hc3 4 _ rfl).trans (by show some (Value.string (strOfNums (ascI N2))) = _; rw [strOf_asc]))
          have k5 : ∀ o, (w3.alloc o).cell? ⟨b3, 5, none⟩ = some (.bool false) := fun o => (((Below.refl _ w3).alloc (Nat.le_refl _) o).cell (p := ⟨b3, 5, none⟩) hlt3).trans (hc3 5 _ rfl)
          have qN : (N2.toList == N2.toList) = true := beq_self_eq_true _
          clear cR hcv1 hb3 hc3
          go_wp2
          go_region
          go_wp2
          go_ret
          exact ⟨rfl, (HBw3.out.alloc HBw3.out.size _).drew⟩
        · have hcatT : ¬ 9223372036854775807 < N2.size + (⟨#[112, 120]⟩ : ByteArray).size := by have : (⟨#[112, 120]⟩ : ByteArray).size = 2 := rfl; omega
          have hzE : (N2 ++ (⟨#[112, 120]⟩ : ByteArray)).size = N2.size + 2 := ByteArray.size_append
          have htk := p3_toks (TS := ⟨#[112, 120]⟩) HP3.out (.inr (.inr (.inl rfl))) (by decide) (by unfold Asc1; decide)
          obtain ⟨cap1, w2, hcv1, hb2, hr2, hl2⟩ := conv_reads (N2 ++ (⟨#[112, 120]⟩ : ByteArray)) ((W.alloc (.cells #[.string ⟨#[]⟩, .string ⟨#[37]⟩, .string ⟨#[112, 120]⟩, .string ⟨#[45, 120]⟩] 9)).alloc (.cells #[.int .i64 10, .int .i64 11, .int .i64 12, .int .i64 12] 3)) (by omega)
          have hb2' := hbA.trans (hb2.mono hbA.size)
          have cR := tread_any _ (N2 ++ (⟨#[112, 120]⟩ : ByteArray)).size cap1 (ascI (N2 ++ (⟨#[112, 120]⟩ : ByteArray))) w2 hl2 hr2 (ascI_u8 _) (by omega) ((HT.out.later HBc.out).later hb2')
          rw [htk, hzE] at cR
          generalize ((W.alloc (.cells #[.string ⟨#[]⟩, .string ⟨#[37]⟩, .string ⟨#[112, 120]⟩, .string ⟨#[45, 120]⟩] 9)).alloc (.cells #[.int .i64 10, .int .i64 11, .int .i64 12, .int .i64 12] 3)).heap.size = A at hcv1 cR
          have HBw := Lib.hid (below_trans HBc.out hb2')
          clear hb2 hr2 hl2 hbA hb2' htk
          go_wp2_with fail
          refine cR.mono ?_
          rintro e w3 ⟨a3, d3, rfl, hr3, hb3⟩
          have HBw3 := Lib.hid (below_trans HBw.out hb3)
          obtain ⟨hd3, hd3', b3, rfl, hlt3, hc3⟩ := hr3
          have k0 : ∀ o, (w3.alloc o).cell? ⟨b3, 0, none⟩ = some (.int .i64 12) := fun o => (((Below.refl _ w3).alloc (Nat.le_refl _) o).cell (p := ⟨b3, 0, none⟩) hlt3).trans (hc3 0 _ rfl)
          have k1 : ∀ o, (w3.alloc o).cell? ⟨b3, 1, none⟩ = some (.int .i64 0) := fun o => (((Below.refl _ w3).alloc (Nat.le_refl _) o).cell (p := ⟨b3, 1, none⟩) hlt3).trans (hc3 1 _ rfl)
          have k2 : ∀ o, (w3.alloc o).cell? ⟨b3, 2, none⟩ = some (.int .i64 ((N2.size : Int) + 2)) := fun o => (((Below.refl _ w3).alloc (Nat.le_refl _) o).cell (p := ⟨b3, 2, none⟩) hlt3).trans ((hc3 2 _ rfl).trans (by
            have hl : (ascI N2).length = N2.size := by unfold ascI; rw [List.length_map, strB_len]
            show some (Value.int .i64 (((ascI N2).length + 2 : Nat) : Int)) = _
            rw [hl]; rfl))
          have k3 : ∀ o, (w3.alloc o).cell? ⟨b3, 3, none⟩ = some (.string ⟨#[112, 120]⟩) := fun o => (((Below.refl _ w3).alloc (Nat.le_refl _) o).cell (p := ⟨b3, 3, none⟩) hlt3).trans (hc3 3 _ rfl)
          have k4 : ∀ o, (w3.alloc o).cell? ⟨b3, 4, none⟩ = some (.string N2) := fun o => (((Below.refl _ w3).alloc (Nat.le_refl _) o).cell (p := ⟨b3, 4, none⟩) hlt3).trans ((hc3 4 _ rfl).trans (by show some (Value.string (strOfNums (ascI N2))) = _; rw [strOf_asc]))
          have k5 : ∀ o, (w3.alloc o).cell? ⟨b3, 5, none⟩ = some (.bool false) := fun o => (((Below.refl _ w3).alloc (Nat.le_refl _) o).cell (p := ⟨b3, 5, none⟩) hlt3).trans (hc3 5 _ rfl)
          have qN : (N2.toList == N2.toList) = true := beq_self_eq_true _
          clear cR hcv1 hb3 hc3
          go_wp2
          go_region
          go_wp2
          go_ret
          exact ⟨rfl, (HBw3.out.alloc HBw3.out.size _).drew⟩
        · have hcatT : ¬ 9223372036854775807 < N2.size + (⟨#[45, 120]⟩ : ByteArray).size := by have : (⟨#[45, 120]⟩ : ByteArray).size = 2 := rfl; omega
          have hzE : (N2 ++ (⟨#[45, 120]⟩ : ByteArray)).size = N2.size + 2 := ByteArray.size_append
          have htk := p3_toks (TS := ⟨#[45, 120]⟩) HP3.out (.inr (.inr (.inr rfl))) (by decide) (by unfold Asc1; decide)
          obtain ⟨cap1, w2, hcv1, hb2, hr2, hl2⟩ := conv_reads (N2 ++ (⟨#[45, 120]⟩ : ByteArray)) ((W.alloc (.cells #[.string ⟨#[]⟩, .string ⟨#[37]⟩, .string ⟨#[112, 120]⟩, .string ⟨#[45, 120]⟩] 9)).alloc (.cells #[.int .i64 10, .int .i64 11, .int .i64 12, .int .i64 12] 3)) (by omega)
          have hb2' := hbA.trans (hb2.mono hbA.size)
          have cR := tread_any _ (N2 ++ (⟨#[45, 120]⟩ : ByteArray)).size cap1 (ascI (N2 ++ (⟨#[45, 120]⟩ : ByteArray))) w2 hl2 hr2 (ascI_u8 _) (by omega) ((HT.out.later HBc.out).later hb2')
          rw [htk, hzE] at cR
          generalize ((W.alloc (.cells #[.string ⟨#[]⟩, .string ⟨#[37]⟩, .string ⟨#[112, 120]⟩, .string ⟨#[45, 120]⟩] 9)).alloc (.cells #[.int .i64 10, .int .i64 11, .int .i64 12, .int .i64 12] 3)).heap.size = A at hcv1 cR
          have HBw := Lib.hid (below_trans HBc.out hb2')
          clear hb2 hr2 hl2 hbA hb2' htk
          go_wp2_with fail
          refine cR.mono ?_
          rintro e w3 ⟨a3, d3, rfl, hr3, hb3⟩
          have HBw3 := Lib.hid (below_trans HBw.out hb3)
          obtain ⟨hd3, hd3', b3, rfl, hlt3, hc3⟩ := hr3
          have k0 : ∀ o, (w3.alloc o).cell? ⟨b3, 0, none⟩ = some (.int .i64 12) := fun o => (((Below.refl _ w3).alloc (Nat.le_refl _) o).cell (p := ⟨b3, 0, none⟩) hlt3).trans (hc3 0 _ rfl)
          have k1 : ∀ o, (w3.alloc o).cell? ⟨b3, 1, none⟩ = some (.int .i64 0) := fun o => (((Below.refl _ w3).alloc (Nat.le_refl _) o).cell (p := ⟨b3, 1, none⟩) hlt3).trans (hc3 1 _ rfl)
          have k2 : ∀ o, (w3.alloc o).cell? ⟨b3, 2, none⟩ = some (.int .i64 ((N2.size : Int) + 2)) := fun o => (((Below.refl _ w3).alloc (Nat.le_refl _) o).cell (p := ⟨b3, 2, none⟩) hlt3).trans ((hc3 2 _ rfl).trans (by
            have hl : (ascI N2).length = N2.size := by unfold ascI; rw [List.length_map, strB_len]
            show some (Value.int .i64 (((ascI N2).length + 2 : Nat) : Int)) = _
            rw [hl]; rfl))
          have k3 : ∀ o, (w3.alloc o).cell? ⟨b3, 3, none⟩ = some (.string ⟨#[45, 120]⟩) := fun o => (((Below.refl _ w3).alloc (Nat.le_refl _) o).cell (p := ⟨b3, 3, none⟩) hlt3).trans (hc3 3 _ rfl)
          have k4 : ∀ o, (w3.alloc o).cell? ⟨b3, 4, none⟩ = some (.string N2) := fun o => (((Below.refl _ w3).alloc (Nat.le_refl _) o).cell (p := ⟨b3, 4, none⟩) hlt3).trans ((hc3 4 _ rfl).trans (by show some (Value.string (strOfNums (ascI N2))) = _; rw [strOf_asc]))
          have k5 : ∀ o, (w3.alloc o).cell? ⟨b3, 5, none⟩ = some (.bool false) := fun o => (((Below.refl _ w3).alloc (Nat.le_refl _) o).cell (p := ⟨b3, 5, none⟩) hlt3).trans (hc3 5 _ rfl)
          have qN : (N2.toList == N2.toList) = true := beq_self_eq_true _
          clear cR hcv1 hb3 hc3
          go_wp2
          go_region
          go_wp2
          go_ret
          exact ⟨rfl, (HBw3.out.alloc HBw3.out.size _).drew⟩
    · have q4 : ((r4 : Int) == 4) = false := beq_eq_false_iff_ne.2 (by omega)
      have HP2 := Lib.hid (p2_none hP.out)
      clear hP
      by_cases e8 : r8 = 8
      · have q8 : ((r8 : Int) == 8) = true := beq_iff_eq.2 (by omega)
        have cC : ∀ w, Calls Tryd.prog 14 #[.int .i64 (IntKind.i64.wrap (c : Int)), .int .i64 10] w fun e w' => ∃ D, e = .returned (.string D) ∧ DigT D ∧ ∃ q, w' = w.drewN q := fun w => by rw [HEW.out c (by omega)]; exact HC.out w
        obtain ⟨v, hv, hv4⟩ : ∃ v : Nat, bits .and .u8 ((s / 16 : Nat) : Int) 3 = (v : Int) ∧ v < 4 := by
          have h := u8_and_nat (s / 16) 3 (by omega) (by omega)
          exact ⟨_, h, Nat.lt_of_le_of_lt Nat.and_le_right (by decide)⟩
        have hv : bits .and .u8 ((s : Int) / 16) 3 = (v : Int) := hv
        have hv4' : (v : Int) < 4 := by omega
        have hsl : ∀ W : World, (W.alloc (.cells #[.string ⟨#[101]⟩, .string ⟨#[69, 45]⟩, .string ⟨#[101, 43]⟩, .string ⟨#[69]⟩] 9)).cell? ⟨W.heap.size, v, none⟩ = some (.string (expS v)) := fun W => by
          simp only [World.cell?, heap_alloc_new]
          simpa using expArr_at v hv4
        have hxz := (expS_at v hv4).2
        have HXE := Lib.hid (expS_at v hv4).1
        generalize expS v = X at *
        have hzN : N.size ≤ 12 := by obtain ⟨_, _, _, _, _, _, _, _, _, h⟩ := HP2.out; exact h
        go_wp2_with fail
        have g1 : ∀ q, ((wc.drewN q).alloc (.cells #[.string ⟨#[101]⟩, .string ⟨#[69, 45]⟩, .string ⟨#[101, 43]⟩, .string ⟨#[69]⟩] 9)).cell? ⟨wc.heap.size, v, none⟩ = some (.string X) := fun q => hsl (wc.drewN q)
        have g2 : ∀ q, ((wc.drew.drewN q).alloc (.cells #[.string ⟨#[101]⟩, .string ⟨#[69, 45]⟩, .string ⟨#[101, 43]⟩, .string ⟨#[69]⟩] 9)).cell? ⟨wc.heap.size, v, none⟩ = some (.string X) := fun q => hsl (wc.drew.drewN q)
        have g3 : (wc.drew.alloc (.cells #[.string ⟨#[101]⟩, .string ⟨#[69, 45]⟩, .string ⟨#[101, 43]⟩, .string ⟨#[69]⟩] 9)).cell? ⟨wc.heap.size, v, none⟩ = some (.string X) := hsl wc.drew
        have g4 : ∀ q, ((wc.alloc (.cells #[.string ⟨#[101]⟩, .string ⟨#[69, 45]⟩, .string ⟨#[101, 43]⟩, .string ⟨#[69]⟩] 9)).drewN q).cell? ⟨wc.heap.size, v, none⟩ = some (.string X) := fun q => hsl wc
        have g5 : ∀ q, ((wc.alloc (.cells #[.string ⟨#[101]⟩, .string ⟨#[69, 45]⟩, .string ⟨#[101, 43]⟩, .string ⟨#[69]⟩] 9)).drew.drewN q).cell? ⟨wc.heap.size, v, none⟩ = some (.string X) := fun q => hsl wc
        have g6 : ((wc.alloc (.cells #[.string ⟨#[101]⟩, .string ⟨#[69, 45]⟩, .string ⟨#[101, 43]⟩, .string ⟨#[69]⟩] 9)).drew).cell? ⟨wc.heap.size, v, none⟩ = some (.string X) := hsl wc
        have g7 : (wc.alloc (.cells #[.string ⟨#[101]⟩, .string ⟨#[69, 45]⟩, .string ⟨#[101, 43]⟩, .string ⟨#[69]⟩] 9)).cell? ⟨wc.heap.size, v, none⟩ = some (.string X) := hsl wc
        have g8 : ∀ q, ((wc.drew.alloc (.cells #[.string ⟨#[101]⟩, .string ⟨#[69, 45]⟩, .string ⟨#[101, 43]⟩, .string ⟨#[69]⟩] 9)).drewN q).cell? ⟨wc.heap.size, v, none⟩ = some (.string X) := fun q => hsl wc.drew
        clear hsl
        go_cut [11] from 41 to 52 (fun s11 wx => ∃ M : ByteArray, s11 = .string M ∧ Hid (P3 M false) ∧ Below wc.heap.size wc wx)
        case first =>
          go_region_with ((go_at_call 14; (with_reducible refine (cC _).mono ?_); rintro e w2 ⟨D, rfl, hD, qd, rfl⟩; have hz1 := hD.2.1; have hz2 := hD.2.2; have hcat : ¬ 9223372036854775807 < X.size + D.size := (by omega); have hcat2 : ¬ 9223372036854775807 < N.size + (X ++ D).size := (by rw [ByteArray.size_append]; omega)))
          all_goals (go_wp2_with fail; go_meet; exact ⟨N ++ (X ++ D), rfl, Lib.hid (p3_exp HP2.out HXE.out hxz hD), by first | exact nb_1 _ _ _ | exact nb_2 _ _ _ | exact nb_3 _ _ _ | exact nb_4 _ _ _⟩)
        case rest =>
          obtain ⟨M, rfl, hP3, hbd⟩ := hcut
          have HP3 := hP3
          have HBc' := Lib.hid (below_trans HBc.out hbd)
          clear HBc
          have HBc := HBc'
          clear hP3 hbd g1 g2 g3 g4 g5 g6 g7 g8 hzN hxz cC
          obtain ⟨t, ht, ht4⟩ : ∃ t : Nat, (u : Int) % 4 = (t : Int) ∧ t < 4 := ⟨u % 4, by omega, by omega⟩
          have hzN : M.size ≤ 20 := by obtain ⟨_, _, _, _, _, _, _, _, _, _, _, h⟩ := HP3.out; exact h
          have hbA : Below wc.heap.size wc ((wc.alloc (.cells #[.string ⟨#[]⟩, .string ⟨#[37]⟩, .string ⟨#[112, 120]⟩, .string ⟨#[45, 120]⟩] 9)).alloc (.cells #[.int .i64 10, .int .i64 11, .int .i64 12, .int .i64 12] 3)) := ((Below.refl _ wc).alloc (Nat.le_refl _) _).alloc (by simp) _
          have ht5 : t = 0 ∨ t = 1 ∨ t = 2 ∨ t = 3 := by omega
          rcases ht5 with rfl | rfl | rfl | rfl
          · have hcatT : ¬ 9223372036854775807 < M.size + (⟨#[]⟩ : ByteArray).size := by have : (⟨#[]⟩ : ByteArray).size = 0 := rfl; omega
            have hzE : (M ++ (⟨#[]⟩ : ByteArray)).size = M.size + 0 := ByteArray.size_append
            have htk := p3_toks (TS := ⟨#[]⟩) HP3.out (.inl rfl) (by decide) (by unfold Asc1; decide)
            obtain ⟨cap1, w2, hcv1, hb2, hr2, hl2⟩ := conv_reads (M ++ (⟨#[]⟩ : ByteArray)) ((wc.alloc (.cells #[.string ⟨#[]⟩, .string ⟨#[37]⟩, .string ⟨#[112, 120]⟩, .string ⟨#[45, 120]⟩] 9)).alloc (.cells #[.int .i64 10, .int .i64 11, .int .i64 12, .int .i64 12] 3)) (by omega)
            have hb2' := hbA.trans (hb2.mono hbA.size)
            have cR := tread_any _ (M ++ (⟨#[]⟩ : ByteArray)).size cap1 (ascI (M ++ (⟨#[]⟩ : ByteArray))) w2 hl2 hr2 (ascI_u8 _) (by omega) ((HT.out.later HBc.out).later hb2')
            rw [htk, hzE] at cR
            generalize ((wc.alloc (.cells #[.string ⟨#[]⟩, .string ⟨#[37]⟩, .string ⟨#[112, 120]⟩, .string ⟨#[45, 120]⟩] 9)).alloc (.cells #[.int .i64 10, .int .i64 11, .int .i64 12, .int .i64 12] 3)).heap.size = A at hcv1 cR
            have HBw := Lib.hid (below_trans HBc.out hb2')
            clear hb2 hr2 hl2 hbA hb2' htk
            go_wp2_with fail
            refine cR.mono ?_
            rintro e w3 ⟨a3, d3, rfl, hr3, hb3⟩
            have HBw3 := Lib.hid (below_trans HBw.out hb3)
            obtain ⟨hd3, hd3', b3, rfl, hlt3, hc3⟩ := hr3
            have k0 : ∀ o, (w3.alloc o).cell? ⟨b3, 0, none⟩ = some (.int .i64 10) := fun o => (((Below.refl _ w3).alloc (Nat.le_refl _) o).cell (p := ⟨b3, 0, none⟩) hlt3).trans (hc3 0 _ rfl)
            have k1 : ∀ o, (w3.alloc o).cell? ⟨b3, 1, none⟩ = some (.int .i64 0) := fun o => (((Below.refl _ w3).alloc (Nat.le_refl _) o).cell (p := ⟨b3, 1, none⟩) hlt3).trans (hc3 1 _ rfl)
            have k2 : ∀ o, (w3.alloc o).cell? ⟨b3, 2, none⟩ = some (.int .i64 (M.size : Int)) := fun o => (((Below.refl _ w3).alloc (Nat.le_refl _) o).cell (p := ⟨b3, 2, none⟩) hlt3).trans ((hc3 2 _ rfl).trans (by
              have hl : (ascI M).length = M.size := by unfold ascI; rw [List.length_map, strB_len]
              show some (Value.int .i64 (((ascI M).length + 0 : Nat) : Int)) = _
              rw [hl]; rfl))
            have k3 : ∀ o, (w3.alloc o).cell? ⟨b3, 3, none⟩ = some (.string ⟨#[]⟩) := fun o => (((Below.refl _ w3).alloc (Nat.le_refl _) o).cell (p := ⟨b3, 3, none⟩) hlt3).trans (hc3 3 _ rfl)
            have k4 : ∀ o, (w3.alloc o).cell? ⟨b3, 4, none⟩ = some (.string M) := fun o => (((Below.refl _ w3).alloc (Nat.le_refl _) o).cell (p := ⟨b3, 4, none⟩) hlt3).trans ((hc3 4 _ rfl).trans (by show some (Value.string (strOfNums (ascI M))) = _; rw [strOf_asc]))
            have k5 : ∀ o, (w3.alloc o).cell? ⟨b3, 5, none⟩ = some (.bool false) := fun o => (((Below.refl _ w3).alloc (Nat.le_refl _) o).cell (p := ⟨b3, 5, none⟩) hlt3).trans (hc3 5 _ rfl)
            have qN : (M.toList == M.toList) = true := beq_self_eq_true _
            clear cR hcv1 hb3 hc3
            go_wp2
            go_region
            go_wp2
            go_ret
            exact ⟨rfl, (HBw3.out.alloc HBw3.out.size _).drew⟩
          · have hcatT : ¬ 9223372036854775807 < M.size + (⟨#[37]⟩ : ByteArray).size := by have : (⟨#[37]⟩ : ByteArray).size = 1 := rfl; omega
            have hzE : (M ++ (⟨#[37]⟩ : ByteArray)).size = M.size + 1 := ByteArray.size_append
            have htk := p3_toks (TS := ⟨#[37]⟩) HP3.out (.inr (.inl rfl)) (by decide) (by unfold Asc1; decide)
            obtain ⟨cap1, w2, hcv1, hb2, hr2, hl2⟩ := conv_reads (M ++ (⟨#[37]⟩ : ByteArray)) ((wc.alloc (.cells #[.string ⟨#[]⟩, .string ⟨#[37]⟩, .string ⟨#[112, 120]⟩, .string ⟨#[45, 120]⟩] 9)).alloc (.cells #[.int .i64 10, .int .i64 11, .int .i64 12, .int .i64 12] 3)) (by omega)
            have hb2' := hbA.trans (hb2.mono hbA.size)
            have cR := tread_any _ (M ++ (⟨#[37]⟩ : ByteArray)).size cap1 (ascI (M ++ (⟨#[37]⟩ : ByteArray))) w2 hl2 hr2 (ascI_u8 _) (by omega) ((HT.out.later HBc.out).later hb2')
            rw [htk, hzE] at cR
            generalize ((wc.alloc (.cells #[.string ⟨#[]⟩, .string ⟨#[37]⟩, .string ⟨#[112, 120]⟩, .string ⟨#[45, 120]⟩] 9)).alloc (.cells #[.int .i64 10, .int .i64 11, .int .i64 12, .int .i64 12] 3)).heap.size = A at hcv1 cR
            have HBw := Lib.hid (below_trans HBc.out hb2')
            clear hb2 hr2 hl2 hbA hb2' htk
            go_wp2_with fail
            refine cR.mono ?_
            rintro e w3 ⟨a3, d3, rfl, hr3, hb3⟩
            have HBw3 := Lib.hid (below_trans HBw.out hb3)
            obtain ⟨hd3, hd3', b3, rfl, hlt3, hc3⟩ := hr3
            have k0 : ∀ o, (w3.alloc o).cell? ⟨b3, 0, none⟩ = some (.int .i64 11) := fun o => (((Below.refl _ w3).alloc (Nat.le_refl _) o).cell (p := ⟨b3, 0, none⟩) hlt3).trans (hc3 0 _ rfl)
            have k1 : ∀ o, (w3.alloc o).cell? ⟨b3, 1, none⟩ = some (.int .i64 0) := fun o => (((Below.refl _ w3).alloc (Nat.le_refl _) o).cell (p := ⟨b3, 1, none⟩) hlt3).trans (hc3 1 _ rfl)
            have k2 : ∀ o, (w3.alloc o).cell? ⟨b3, 2, none⟩ = some (.int .i64 ((M.size : Int) + 1)) := fun o => (((Below.refl _ w3).alloc (Nat.le_refl _) o).cell (p := ⟨b3, 2, none⟩) hlt3).trans ((hc3 2 _ rfl).trans (by
              have hl : (ascI M).length = M.size := by unfold ascI; rw [List.length_map, strB_len]
              show some (Value.int .i64 (((ascI M).length + 1 : Nat) : Int)) = _
              rw [hl]; rfl))
            have k3 : ∀ o, (w3.alloc o).cell? ⟨b3, 3, none⟩ = some (.string ⟨#[]⟩) := fun o => (((Below.refl _ w3).alloc (Nat.le_refl _) o).cell (p := ⟨b3, 3, none⟩) hlt3).trans (hc3 3 _ rfl)
            have k4 : ∀ o, (w3.alloc o).cell? ⟨b3, 4, none⟩ = some (.string M) := fun o => (((Below.refl _ w3).alloc (Nat.le_refl _) o).cell (p := ⟨b3, 4, none⟩) hlt3).trans ((hc3 4 _ rfl).trans (by show some (Value.string (strOfNums (ascI M))) = _; rw [strOf_asc]))
            have k5 : ∀ o, (w3.alloc o).cell? ⟨b3, 5, none⟩ = some (.bool false) := fun o => (((Below.refl _ w3).alloc (Nat.le_refl _) o).cell (p := ⟨b3, 5, none⟩) hlt3).trans (hc3 5 _ rfl)
            have qN : (M.toList == M.toList) = true := beq_self_eq_true _
            clear cR hcv1 hb3 hc3
            go_wp2
            go_region
            go_wp2
            go_ret
            exact ⟨rfl, (HBw3.out.alloc HBw3.out.size _).drew⟩
          · have hcatT : ¬ 9223372036854775807 < M.size + (⟨#[112, 120]⟩ : ByteArray).size := by have : (⟨#[112, 120]⟩ : ByteArray).size = 2 := rfl; omega
            have hzE : (M ++ (⟨#[112, 120]⟩ : ByteArray)).size = M.size + 2 := ByteArray.size_append
            have htk := p3_toks (TS := ⟨#[112, 120]⟩) HP3.out (.inr (.inr (.inl rfl))) (by decide) (by unfold Asc1; decide)
            obtain ⟨cap1, w2, hcv1, hb2, hr2, hl2⟩ := conv_reads (M ++ (⟨#[112, 120]⟩ : ByteArray)) ((wc.alloc (.cells #[.string ⟨#[]⟩, .string ⟨#[37]⟩, .string ⟨#[112, 120]⟩, .string ⟨#[45, 120]⟩] 9)).alloc (.cells #[.int .i64 10, .int .i64 11, .int .i64 12, .int .i64 12] 3)) (by omega)
            have hb2' := hbA.trans (hb2.mono hbA.size)
            have cR := tread_any _ (M ++ (⟨#[112, 120]⟩ : ByteArray)).size cap1 (ascI (M ++ (⟨#[112, 120]⟩ : ByteArray))) w2 hl2 hr2 (ascI_u8 _) (by omega) ((HT.out.later HBc.out).later hb2')
            rw [htk, hzE] at cR
            generalize ((wc.alloc (.cells #[.string ⟨#[]⟩, .string ⟨#[37]⟩, .string ⟨#[112, 120]⟩, .string ⟨#[45, 120]⟩] 9)).alloc (.cells #[.int .i64 10, .int .i64 11, .int .i64 12, .int .i64 12] 3)).heap.size = A at hcv1 cR
            have HBw := Lib.hid (below_trans HBc.out hb2')
            clear hb2 hr2 hl2 hbA hb2' htk
            go_wp2_with fail
            refine cR.mono ?_
            rintro e w3 ⟨a3, d3, rfl, hr3, hb3⟩
            have HBw3 := Lib.hid (below_trans HBw.out hb3)
            obtain ⟨hd3, hd3', b3, rfl, hlt3, hc3⟩ := hr3
            have k0 : ∀ o, (w3.alloc o).cell? ⟨b3, 0, none⟩ = some (.int .i64 12) := fun o => (((Below.refl _ w3).alloc (Nat.le_refl _) o).cell (p := ⟨b3, 0, none⟩) hlt3).trans (hc3 0 _ rfl)
            have k1 : ∀ o, (w3.alloc o).cell? ⟨b3, 1, none⟩ = some (.int .i64 0) := fun o => (((Below.refl _ w3).alloc (Nat.le_refl _) o).cell (p := ⟨b3, 1, none⟩) hlt3).trans (hc3 1 _ rfl)
            have k2 : ∀ o, (w3.alloc o).cell? ⟨b3, 2, none⟩ = some (.int .i64 ((M.size : Int) + 2)) := fun o => (((Below.refl _ w3).alloc (Nat.le_refl _) o).cell (p := ⟨b3, 2, none⟩) hlt3).trans ((hc3 2 _ rfl).trans (by
              have hl : (ascI M).length = M.size := by unfold ascI; rw [List.length_map, strB_len]
              show some (Value.int .i64 (((ascI M).length + 2 : Nat) : Int)) = _
              rw [hl]; rfl))
            have k3 : ∀ o, (w3.alloc o).cell? ⟨b3, 3, none⟩ = some (.string ⟨#[112, 120]⟩) := fun o => (((Below.refl _ w3).alloc (Nat.le_refl _) o).cell (p := ⟨b3, 3, none⟩) hlt3).trans (hc3 3 _ rfl)
            have k4 : ∀ o, (w3.alloc o).cell? ⟨b3, 4, none⟩ = some (.string M) := fun o => (((Below.refl _ w3).alloc (Nat.le_refl _) o).cell (p := ⟨b3, 4, none⟩) hlt3).trans ((hc3 4 _ rfl).trans (by show some (Value.string (strOfNums (ascI M))) = _; rw [strOf_asc]))
            have k5 : ∀ o, (w3.alloc o).cell? ⟨b3, 5, none⟩ = some (.bool false) := fun o => (((Below.refl _ w3).alloc (Nat.le_refl _) o).cell (p := ⟨b3, 5, none⟩) hlt3).trans (hc3 5 _ rfl)
            have qN : (M.toList == M.toList) = true := beq_self_eq_true _
            clear cR hcv1 hb3 hc3
            go_wp2
            go_region
            go_wp2
            go_ret
            exact ⟨rfl, (HBw3.out.alloc HBw3.out.size _).drew⟩
          · have hcatT : ¬ 9223372036854775807 < M.size + (⟨#[45, 120]⟩ : ByteArray).size := by have : (⟨#[45, 120]⟩ : ByteArray).size = 2 := rfl; omega
            have hzE : (M ++ (⟨#[45, 120]⟩ : ByteArray)).size = M.size + 2 := ByteArray.size_append
            have htk := p3_toks (TS := ⟨#[45, 120]⟩) HP3.out (.inr (.inr (.inr rfl))) (by decide) (by unfold Asc1; decide)
            obtain ⟨cap1, w2, hcv1, hb2, hr2, hl2⟩ := conv_reads (M ++ (⟨#[45, 120]⟩ : ByteArray)) ((wc.alloc (.cells #[.string ⟨#[]⟩, .string ⟨#[37]⟩, .string ⟨#[112, 120]⟩, .string ⟨#[45, 120]⟩] 9)).alloc (.cells #[.int .i64 10, .int .i64 11, .int .i64 12, .int .i64 12] 3)) (by omega)
            have hb2' := hbA.trans (hb2.mono hbA.size)
            have cR := tread_any _ (M ++ (⟨#[45, 120]⟩ : ByteArray)).size cap1 (ascI (M ++ (⟨#[45, 120]⟩ : ByteArray))) w2 hl2 hr2 (ascI_u8 _) (by omega) ((HT.out.later HBc.out).later hb2')
            rw [htk, hzE] at cR
            generalize ((wc.alloc (.cells #[.string ⟨#[]⟩, .string ⟨#[37]⟩, .string ⟨#[112, 120]⟩, .string ⟨#[45, 120]⟩] 9)).alloc (.cells #[.int .i64 10, .int .i64 11, .int .i64 12, .int .i64 12] 3)).heap.size = A at hcv1 cR
            have HBw := Lib.hid (below_trans HBc.out hb2')
            clear hb2 hr2 hl2 hbA hb2' htk
            go_wp2_with fail
            refine cR.mono ?_
            rintro e w3 ⟨a3, d3, rfl, hr3, hb3⟩
            have HBw3 := Lib.hid (below_trans HBw.out hb3)
            obtain ⟨hd3, hd3', b3, rfl, hlt3, hc3⟩ := hr3
            have k0 : ∀ o, (w3.alloc o).cell? ⟨b3, 0, none⟩ = some (.int .i64 12) := fun o => (((Below.refl _ w3).alloc (Nat.le_refl _) o).cell (p := ⟨b3, 0, none⟩) hlt3).trans (hc3 0 _ rfl)
            have k1 : ∀ o, (w3.alloc o).cell? ⟨b3, 1, none⟩ = some (.int .i64 0) := fun o => (((Below.refl _ w3).alloc (Nat.le_refl _) o).cell (p := ⟨b3, 1, none⟩) hlt3).trans (hc3 1 _ rfl)
            have k2 : ∀ o, (w3.alloc o).cell? ⟨b3, 2, none⟩ = some (.int .i64 ((M.size : Int) + 2)) := fun o => (((Below.refl _ w3).alloc (Nat.le_refl _) o).cell (p := ⟨b3, 2, none⟩) hlt3).trans ((hc3 2 _ rfl).trans (by
              have hl : (ascI M).length = M.size := by unfold ascI; rw [List.length_map, strB_len]
              show some (Value.int .i64 (((ascI M).length + 2 : Nat) : Int)) = _
              rw [hl]; rfl))
            have k3 : ∀ o, (w3.alloc o).cell? ⟨b3, 3, none⟩ = some (.string ⟨#[45, 120]⟩) := fun o => (((Below.refl _ w3).alloc (Nat.le_refl _) o).cell (p := ⟨b3, 3, none⟩) hlt3).trans (hc3 3 _ rfl)
            have k4 : ∀ o, (w3.alloc o).cell? ⟨b3, 4, none⟩ = some (.string M) := fun o => (((Below.refl _ w3).alloc (Nat.le_refl _) o).cell (p := ⟨b3, 4, none⟩) hlt3).trans ((hc3 4 _ rfl).trans (by show some (Value.string (strOfNums (ascI M))) = _; rw [strOf_asc]))
            have k5 : ∀ o, (w3.alloc o).cell? ⟨b3, 5, none⟩ = some (.bool false) := fun o => (((Below.refl _ w3).alloc (Nat.le_refl _) o).cell (p := ⟨b3, 5, none⟩) hlt3).trans (hc3 5 _ rfl)
            have qN : (M.toList == M.toList) = true := beq_self_eq_true _
            clear cR hcv1 hb3 hc3
            go_wp2
            go_region
            go_wp2
            go_ret
            exact ⟨rfl, (HBw3.out.alloc HBw3.out.size _).drew⟩
      · have q8 : ((r8 : Int) == 8) = false := beq_eq_false_iff_ne.2 (by omega)
        have HP3 := Lib.hid (p3_none HP2.out)
        obtain ⟨t, ht, ht4⟩ : ∃ t : Nat, (u : Int) % 4 = (t : Int) ∧ t < 4 := ⟨u % 4, by omega, by omega⟩
        have hzN : N.size ≤ 20 := by obtain ⟨_, _, _, _, _, _, _, _, _, _, _, h⟩ := HP3.out; exact h
        have hbA : Below wc.heap.size wc ((wc.alloc (.cells #[.string ⟨#[]⟩, .string ⟨#[37]⟩, .string ⟨#[112, 120]⟩, .string ⟨#[45, 120]⟩] 9)).alloc (.cells #[.int .i64 10, .int .i64 11, .int .i64 12, .int .i64 12] 3)) := ((Below.refl _ wc).alloc (Nat.le_refl _) _).alloc (by simp) _
        have ht5 : t = 0 ∨ t = 1 ∨ t = 2 ∨ t = 3 := by omega
        rcases ht5 with rfl | rfl | rfl | rfl
        · have hcatT : ¬ 9223372036854775807 < N.size + (⟨#[]⟩ : ByteArray).size := by have : (⟨#[]⟩ : ByteArray).size = 0 := rfl; omega
          have hzE : (N ++ (⟨#[]⟩ : ByteArray)).size = N.size + 0 := ByteArray.size_append
          have htk := p3_toks (TS := ⟨#[]⟩) HP3.out (.inl rfl) (by decide) (by unfold Asc1; decide)
          obtain ⟨cap1, w2, hcv1, hb2, hr2, hl2⟩ := conv_reads (N ++ (⟨#[]⟩ : ByteArray)) ((wc.alloc (.cells #[.string ⟨#[]⟩, .string ⟨#[37]⟩, .string ⟨#[112, 120]⟩, .string ⟨#[45, 120]⟩] 9)).alloc (.cells #[.int .i64 10, .int .i64 11, .int .i64 12, .int .i64 12] 3)) (by omega)
          have hb2' := hbA.trans (hb2.mono hbA.size)
          have cR := tread_any _ (N ++ (⟨#[]⟩ : ByteArray)).size cap1 (ascI (N ++ (⟨#[]⟩ : ByteArray))) w2 hl2 hr2 (ascI_u8 _) (by omega) ((HT.out.later HBc.out).later hb2')
          rw [htk, hzE] at cR
          generalize ((wc.alloc (.cells #[.string ⟨#[]⟩, .string ⟨#[37]⟩, .string ⟨#[112, 120]⟩, .string ⟨#[45, 120]⟩] 9)).alloc (.cells #[.int .i64 10, .int .i64 11, .int .i64 12, .int .i64 12] 3)).heap.size = A at hcv1 cR
          have HBw := Lib.hid (below_trans HBc.out hb2')
          clear hb2 hr2 hl2 hbA hb2' htk
          go_wp2_with fail
          refine cR.mono ?_
          rintro e w3 ⟨a3, d3, rfl, hr3, hb3⟩
          have HBw3 := Lib.hid (below_trans HBw.out hb3)
          obtain ⟨hd3, hd3', b3, rfl, hlt3, hc3⟩ := hr3
          have k0 : ∀ o, (w3.alloc o).cell? ⟨b3, 0, none⟩ = some (.int .i64 10) := fun o => (((Below.refl _ w3).alloc (Nat.le_refl _) o).cell (p := ⟨b3, 0, none⟩) hlt3).trans (hc3 0 _ rfl)
          have k1 : ∀ o, (w3.alloc o).cell? ⟨b3, 1, none⟩ = some (.int .i64 0) := fun o => (((Below.refl _ w3).alloc (Nat.le_refl _) o).cell (p := ⟨b3, 1, none⟩) hlt3).trans (hc3 1 _ rfl)
          have k2 : ∀ o, (w3.alloc o).cell? ⟨b3, 2, none⟩ = some (.int .i64 (N.size : Int)) := fun o => (((Below.refl _ w3).alloc (Nat.le_refl _) o).cell (p := ⟨b3, 2, none⟩) hlt3).trans ((hc3 2 _ rfl).trans (by
            have hl : (ascI N).length = N.size := by unfold ascI; rw [List.length_map, strB_len]
            show some (Value.int .i64 (((ascI N).length + 0 : Nat) : Int)) = _
            rw [hl]; rfl))
          have k3 : ∀ o, (w3.alloc o).cell? ⟨b3, 3, none⟩ = some (.string ⟨#[]⟩) := fun o => (((Below.refl _ w3).alloc (Nat.le_refl _) o).cell (p := ⟨b3, 3, none⟩) hlt3).trans (hc3 3 _ rfl)
          have k4 : ∀ o, (w3.alloc o).cell? ⟨b3, 4, none⟩ = some (.string N) := fun o => (((Below.refl _ w3).alloc (Nat.le_refl _) o).cell (p := ⟨b3, 4, none⟩) hlt3).trans ((hc3 4 _ rfl).trans (by show some (Value.string (strOfNums (ascI N))) = _; rw [strOf_asc]))
          have k5 : ∀ o, (w3.alloc o).cell? ⟨b3, 5, none⟩ = some (.bool true) := fun o => (((Below.refl _ w3).alloc (Nat.le_refl _) o).cell (p := ⟨b3, 5, none⟩) hlt3).trans (hc3 5 _ rfl)
          have qN : (N.toList == N.toList) = true := beq_self_eq_true _
          clear cR hcv1 hb3 hc3
          go_wp2
          go_region
          go_wp2
          go_ret
          exact ⟨rfl, (HBw3.out.alloc HBw3.out.size _).drew⟩
        · have hcatT : ¬ 9223372036854775807 < N.size + (⟨#[37]⟩ : ByteArray).size := by have : (⟨#[37]⟩ : ByteArray).size = 1 := rfl; omega
          have hzE : (N ++ (⟨#[37]⟩ : ByteArray)).size = N.size + 1 := ByteArray.size_append
          have htk := p3_toks (TS := ⟨#[37]⟩) HP3.out (.inr (.inl rfl)) (by decide) (by unfold Asc1; decide)
          obtain ⟨cap1, w2, hcv1, hb2, hr2, hl2⟩ := conv_reads (N ++ (⟨#[37]⟩ : ByteArray)) ((wc.alloc (.cells #[.string ⟨#[]⟩, .string ⟨#[37]⟩, .string ⟨#[112, 120]⟩, .string ⟨#[45, 120]⟩] 9)).alloc (.cells #[.int .i64 10, .int .i64 11, .int .i64 12, .int .i64 12] 3)) (by omega)
          have hb2' := hbA.trans (hb2.mono hbA.size)
          have cR := tread_any _ (N ++ (⟨#[37]⟩ : ByteArray)).size cap1 (ascI (N ++ (⟨#[37]⟩ : ByteArray))) w2 hl2 hr2 (ascI_u8 _) (by omega) ((HT.out.later HBc.out).later hb2')
          rw [htk, hzE] at cR
          generalize ((wc.alloc (.cells #[.string ⟨#[]⟩, .string ⟨#[37]⟩, .string ⟨#[112, 120]⟩, .string ⟨#[45, 120]⟩] 9)).alloc (.cells #[.int .i64 10, .int .i64 11, .int .i64 12, .int .i64 12] 3)).heap.size = A at hcv1 cR
          have HBw := Lib.hid (below_trans HBc.out hb2')
          clear hb2 hr2 hl2 hbA hb2' htk
          go_wp2_with fail
          refine cR.mono ?_
          rintro e w3 ⟨a3, d3, rfl, hr3, hb3⟩
          have HBw3 := Lib.hid (below_trans HBw.out hb3)
          obtain ⟨hd3, hd3', b3, rfl, hlt3, hc3⟩ := hr3
          have k0 : ∀ o, (w3.alloc o).cell? ⟨b3, 0, none⟩ = some (.int .i64 11) := fun o => (((Below.refl _ w3).alloc (Nat.le_refl _) o).cell (p := ⟨b3, 0, none⟩) hlt3).trans (hc3 0 _ rfl)
          have k1 : ∀ o, (w3.alloc o).cell? ⟨b3, 1, none⟩ = some (.int .i64 0) := fun o => (((Below.refl _ w3).alloc (Nat.le_refl _) o).cell (p := ⟨b3, 1, none⟩) hlt3).trans (hc3 1 _ rfl)
          have k2 : ∀ o, (w3.alloc o).cell? ⟨b3, 2, none⟩ = some (.int .i64 ((N.size : Int) + 1)) := fun o => (((Below.refl _ w3).alloc (Nat.le_refl _) o).cell (p := ⟨b3, 2, none⟩) hlt3).trans ((hc3 2 _ rfl).trans (by
            have hl : (ascI N).length = N.size := by unfold ascI; rw [List.length_map, strB_len]
            show some (Value.int .i64 (((ascI N).length + 1 : Nat) : Int)) = _
            rw [hl]; rfl))
          have k3 : ∀ o, (w3.alloc o).cell? ⟨b3, 3, none⟩ = some (.string ⟨#[]⟩) := fun o => (((Below.refl _ w3).alloc (Nat.le_refl _) o).cell (p := ⟨b3, 3, none⟩) hlt3).trans (hc3 3 _ rfl)
          have k4 : ∀ o, (w3.alloc o).cell? ⟨b3, 4, none⟩ = some (.string N) := fun o => (((Below.refl _ w3).alloc (Nat.le_refl _) o).cell (p := ⟨b3, 4, none⟩) hlt3).trans ((hc3 4 _ rfl).trans (by show some (Value.string (strOfNums (ascI N))) = _; rw [strOf_asc]))
          have k5 : ∀ o, (w3.alloc o).cell? ⟨b3, 5, none⟩ = some (.bool true) := fun o => (((Below.refl _ w3).alloc (Nat.le_refl _) o).cell (p := ⟨b3, 5, none⟩) hlt3).trans (hc3 5 _ rfl)
          have qN : (N.toList == N.toList) = true := beq_self_eq_true _
          clear cR hcv1 hb3 hc3
          go_wp2
          go_region
          go_wp2
          go_ret
          exact ⟨rfl, (HBw3.out.alloc HBw3.out.size _).drew⟩
        · have hcatT : ¬ 9223372036854775807 < N.size + (⟨#[112, 120]⟩ : ByteArray).size := by have : (⟨#[112, 120]⟩ : ByteArray).size = 2 := rfl; omega
          have hzE : (N ++ (⟨#[112, 120]⟩ : ByteArray)).size = N.size + 2 := ByteArray.size_append
          have htk := p3_toks (TS := ⟨#[112, 120]⟩) HP3.out (.inr (.inr (.inl rfl))) (by decide) (by unfold Asc1; decide)
          obtain ⟨cap1, w2, hcv1, hb2, hr2, hl2⟩ := conv_reads (N ++ (⟨#[112, 120]⟩ : ByteArray)) ((wc.alloc (.cells #[.string ⟨#[]⟩, .string ⟨#[37]⟩, .string ⟨#[112, 120]⟩, .string ⟨#[45, 120]⟩] 9)).alloc (.cells #[.int .i64 10, .int .i64 11, .int .i64 12, .int .i64 12] 3)) (by omega)
          have hb2' := hbA.trans (hb2.mono hbA.size)
          have cR := tread_any _ (N ++ (⟨#[112, 120]⟩ : ByteArray)).size cap1 (ascI (N ++ (⟨#[112, 120]⟩ : ByteArray))) w2 hl2 hr2 (ascI_u8 _) (by omega) ((HT.out.later HBc.out).later hb2')
          rw [htk, hzE] at cR
          generalize ((wc.alloc (.cells #[.string ⟨#[]⟩, .string ⟨#[37]⟩, .string ⟨#[112, 120]⟩, .string ⟨#[45, 120]⟩] 9)).alloc (.cells #[.int .i64 10, .int .i64 11, .int .i64 12, .int .i64 12] 3)).heap.size = A at hcv1 cR
          have HBw := Lib.hid (below_trans HBc.out hb2')
          clear hb2 hr2 hl2 hbA hb2' htk
          go_wp2_with fail
          refine cR.mono ?_
          rintro e w3 ⟨a3, d3, rfl, hr3, hb3⟩
          have HBw3 := Lib.hid (below_trans HBw.out hb3)
          obtain ⟨hd3, hd3', b3, rfl, hlt3, hc3⟩ := hr3
          have k0 : ∀ o, (w3.alloc o).cell? ⟨b3, 0, none⟩ = some (.int .i64 12) := fun o => (((Below.refl _ w3).alloc (Nat.le_refl _) o).cell (p := ⟨b3, 0, none⟩) hlt3).trans (hc3 0 _ rfl)
          have k1 : ∀ o, (w3.alloc o).cell? ⟨b3, 1, none⟩ = some (.int .i64 0) := fun o => (((Below.refl _ w3).alloc (Nat.le_refl _) o).cell (p := ⟨b3, 1, none⟩) hlt3).trans (hc3 1 _ rfl)
          have k2 : ∀ o, (w3.alloc o).cell? ⟨b3, 2, none⟩ = some (.int .i64 ((N.size : Int) + 2)) := fun o => (((Below.refl _ w3).alloc (Nat.le_refl _) o).cell (p := ⟨b3, 2, none⟩) hlt3).trans ((hc3 2 _ rfl).trans (by
            have hl : (ascI N).length = N.size := by unfold ascI; rw [List.length_map, strB_len]
            show some (Value.int .i64 (((ascI N).length + 2 : Nat) : Int)) = _
            rw [hl]; rfl))
          have k3 : ∀ o, (w3.alloc o).cell? ⟨b3, 3, none⟩ = some (.string ⟨#[112, 120]⟩) := fun o => (((Below.refl _ w3).alloc (Nat.le_refl _) o).cell (p := ⟨b3, 3, none⟩) hlt3).trans (hc3 3 _ rfl)
          have k4 : ∀ o, (w3.alloc o).cell? ⟨b3, 4, none⟩ = some (.string N) := fun o => (((Below.refl _ w3).alloc (Nat.le_refl _) o).cell (p := ⟨b3, 4, none⟩) hlt3).trans ((hc3 4 _ rfl).trans (by show some (Value.string (strOfNums (ascI N))) = _; rw [strOf_asc]))
          have k5 : ∀ o, (w3.alloc o).cell? ⟨b3, 5, none⟩ = some (.bool true) := fun o => (((Below.refl _ w3).alloc (Nat.le_refl _) o).cell (p := ⟨b3, 5, none⟩) hlt3).trans (hc3 5 _ rfl)
          have qN : (N.toList == N.toList) = true := beq_self_eq_true _
          clear cR hcv1 hb3 hc3
          go_wp2
          go_region
          go_wp2
          go_ret
          exact ⟨rfl, (HBw3.out.alloc HBw3.out.size _).drew⟩
        · have hcatT : ¬ 9223372036854775807 < N.size + (⟨#[45, 120]⟩ : ByteArray).size := by have : (⟨#[45, 120]⟩ : ByteArray).size = 2 := rfl; omega
          have hzE : (N ++ (⟨#[45, 120]⟩ : ByteArray)).size = N.size + 2 := ByteArray.size_append
          have htk := p3_toks (TS := ⟨#[45, 120]⟩) HP3.out (.inr (.inr (.inr rfl))) (by decide) (by unfold Asc1; decide)
          obtain ⟨cap1, w2, hcv1, hb2, hr2, hl2⟩ := conv_reads (N ++ (⟨#[45, 120]⟩ : ByteArray)) ((wc.alloc (.cells #[.string ⟨#[]⟩, .string ⟨#[37]⟩, .string ⟨#[112, 120]⟩, .string ⟨#[45, 120]⟩] 9)).alloc (.cells #[.int .i64 10, .int .i64 11, .int .i64 12, .int .i64 12] 3)) (by omega)
          have hb2' := hbA.trans (hb2.mono hbA.size)
          have cR := tread_any _ (N ++ (⟨#[45, 120]⟩ : ByteArray)).size cap1 (ascI (N ++ (⟨#[45, 120]⟩ : ByteArray))) w2 hl2 hr2 (ascI_u8 _) (by omega) ((HT.out.later HBc.out).later hb2')
          rw [htk, hzE] at cR
          generalize ((wc.alloc (.cells #[.string ⟨#[]⟩, .string ⟨#[37]⟩, .string ⟨#[112, 120]⟩, .string ⟨#[45, 120]⟩] 9)).alloc (.cells #[.int .i64 10, .int .i64 11, .int .i64 12, .int .i64 12] 3)).heap.size = A at hcv1 cR
          have HBw := Lib.hid (below_trans HBc.out hb2')
          clear hb2 hr2 hl2 hbA hb2' htk
          go_wp2_with fail
          refine cR.mono ?_
          rintro e w3 ⟨a3, d3, rfl, hr3, hb3⟩
          have HBw3 := Lib.hid (below_trans HBw.out hb3)
          obtain ⟨hd3, hd3', b3, rfl, hlt3, hc3⟩ := hr3
          have k0 : ∀ o, (w3.alloc o).cell? ⟨b3, 0, none⟩ = some (.int .i64 12) := fun o => (((Below.refl _ w3).alloc (Nat.le_refl _) o).cell (p := ⟨b3, 0, none⟩) hlt3).trans (hc3 0 _ rfl)
          have k1 : ∀ o, (w3.alloc o).cell? ⟨b3, 1, none⟩ = some (.int .i64 0) := fun o => (((Below.refl _ w3).alloc (Nat.le_refl _) o).cell (p := ⟨b3, 1, none⟩) hlt3).trans (hc3 1 _ rfl)
          have k2 : ∀ o, (w3.alloc o).cell? ⟨b3, 2, none⟩ = some (.int .i64 ((N.size : Int) + 2)) := fun o => (((Below.refl _ w3).alloc (Nat.le_refl _) o).cell (p := ⟨b3, 2, none⟩) hlt3).trans ((hc3 2 _ rfl).trans (by
            have hl : (ascI N).length = N.size := by unfold ascI; rw [List.length_map, strB_len]
            show some (Value.int .i64 (((ascI N).length + 2 : Nat) : Int)) = _
            rw [hl]; rfl))
          have k3 : ∀ o, (w3.alloc o).cell? ⟨b3, 3, none⟩ = some (.string ⟨#[45, 120]⟩) := fun o => (((Below.refl _ w3).alloc (Nat.le_refl _) o).cell (p := ⟨b3, 3, none⟩) hlt3).trans (hc3 3 _ rfl)
          have k4 : ∀ o, (w3.alloc o).cell? ⟨b3, 4, none⟩ = some (.string N) := fun o => (((Below.refl _ w3).alloc (Nat.le_refl _) o).cell (p := ⟨b3, 4, none⟩) hlt3).trans ((hc3 4 _ rfl).trans (by show some (Value.string (strOfNums (ascI N))) = _; rw [strOf_asc]))
          have k5 : ∀ o, (w3.alloc o).cell? ⟨b3, 5, none⟩ = some (.bool true) := fun o => (((Below.refl _ w3).alloc (Nat.le_refl _) o).cell (p := ⟨b3, 5, none⟩) hlt3).trans (hc3 5 _ rfl)
          have qN : (N.toList == N.toList) = true := beq_self_eq_true _
          clear cR hcv1 hb3 hc3
          go_wp2
          go_region
          go_wp2
          go_ret
          exact ⟨rfl, (HBw3.out.alloc HBw3.out.size _).drew⟩
end Go.Proofs.YtoepldjjoeidoaaDoor
