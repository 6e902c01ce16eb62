/- What is written holds no control byte, plain names stay: the statement's walk. -/
import Derived.Test.YtpccakalkcgdeaaDoorChP
import Derived.Test.YtpccakalkcgdeaaDoorChW
import Derived.Test.YtpccakalkcgdeaaDoorAppend
namespace Go.Proofs.YtpccakalkcgdeaaDoor
open Go.ChangeShapes Go.WideShapes Go.RowKit Go.Shelf Go.Lib
set_option linter.unusedVariables false
set_option linter.unusedSimpArgs false

theorem byte_mem (T : ByteArray) (j : Nat) (h : j < T.size) : (((T[j]'h).toNat : Nat) : Int) ∈ strI T := by
  have hm : T[j]'h ∈ strB T := by
    unfold strB
    have h' : j < T.data.size := h
    have : T[j]'h = T.data[j]'h' := rfl
    rw [this]
    simp
  exact List.mem_map.2 ⟨_, hm, rfl⟩

theorem tab_at (y : Int) (h0 : 0 ≤ y) (h1 : y < 9) (hp : y.toNat < (ByteArray.mk #[97, 98, 122, 95, 45, 48, 57, 65, 90]).size) : ((((ByteArray.mk #[97, 98, 122, 95, 45, 48, 57, 65, 90])[y.toNat]'hp).toNat : Nat) : Int) ∈ nmTab := by
  have key : ∀ n : Fin 9, ((((ByteArray.mk #[97, 98, 122, 95, 45, 48, 57, 65, 90]).data[n.val]?.getD 0).toNat : Nat) : Int) ∈ nmTab := by decide +kernel
  have := key ⟨y.toNat, by omega⟩
  have hp' : y.toNat < (ByteArray.mk #[97, 98, 122, 95, 45, 48, 57, 65, 90]).data.size := hp
  rw [Array.getElem?_eq_getElem hp'] at this
  exact this

set_option maxRecDepth 100000 in
set_option maxHeartbeats 4000000 in
theorem lawPlain_any (s : ByteArray) (a : Option Addr) (n cap : Nat) (xs : List Int) (w : World) (hT : Tab w) (hs : s.size ≤ maxLen) (hn : xs.length = n) (hr : Reads w .u8 a cap xs) (hnil : a = none → cap = 0) (hx : U8 xs) :
    Calls Tryd.prog 5 #[.string s, .slice a n cap] w fun e w' => e = .returned (.bool true) ∧ Below w.heap.size w w' := by
  have cS := speaks2_any w hT
  have hsm : s.size ≤ 9223372036854775807 := hs
  have hncap : n ≤ cap := by rw [← hn]; exact hr.1
  have HN := Lib.hid hn
  have HR := Lib.hid hr
  have HNIL := Lib.hid hnil
  have HX := Lib.hid hx
  clear hn hr hnil hx
  go_enter Tryd.func5, Tryd.ntmps5
  go_wp2_with fail
  refine cS.mono ?_
  rintro e w1 ⟨rfl, hb1⟩
  have hT1 := hT.later hb1 hT.lt
  clear cS hT
  by_cases h2000 : 2000 < s.size
  · have q : decide ((2000 : Int) < (s.size : Int)) = true := decide_eq_true (by omega)
    clear h2000
    go_wp2
    go_ret
    exact ⟨rfl, hb1⟩
  have q : decide ((2000 : Int) < (s.size : Int)) = false := decide_eq_false (by omega)
  by_cases h500 : 500 < n
  · have q5 : decide ((500 : Int) < (n : Int)) = true := decide_eq_true (by omega)
    clear h500 h2000
    go_wp2
    go_ret
    exact ⟨rfl, hb1⟩
  have q5 : decide ((500 : Int) < (n : Int)) = false := decide_eq_false (by omega)
  have hs1 : s.size ≤ 10000 := by omega
  have hn1 : n ≤ 500 := by omega
  have hzr := rawF_right (strI s) (strI_u8 s)
  have hzl : (rawF (strI s)).length ≤ 10000 := by have := rawF_len (strI s); rw [strI_len] at this; omega
  have hI1 := identTo_ok _ hzr _ (Nat.le_refl _)
  have hQ1 := quoteTo_ok _ hzr _ (Nat.le_refl _)
  have hQ2 : U8 (quoteF (rawF (strI s))) := fun z hz => (List.mem_append.1 hz).elim (hQ1.1 z) (fun h => by simp at h; omega)
  obtain ⟨I, hI⟩ : ∃ I, strOfNums (identF (rawF (strI s))) = I := ⟨_, rfl⟩
  obtain ⟨Q, hQ⟩ : ∃ I, strOfNums (quoteF (rawF (strI s))) = I := ⟨_, rfl⟩
  have hII : strI I = identF (rawF (strI s)) := by rw [← hI]; exact strI_nums _ hI1.1
  have hQI : strI Q = quoteF (rawF (strI s)) := by rw [← hQ]; exact strI_nums _ hQ2
  have HPI := Lib.hid (show PlainL (strI I) from hII ▸ identF_plain _ hzr)
  have HPQ := Lib.hid (show PlainL (strI Q) from hQI ▸ quoteF_plain _ hzr)
  have hIs : I.size ≤ 60010 := by rw [← strI_len, hII]; unfold identF; omega
  have hQs : Q.size ≤ 60010 := by rw [← strI_len, hQI]; unfold quoteF; rw [List.length_append]; simp; omega
  have cI := fun (W : World) (hb : Below w1.heap.size w1 W) => ident_any s W (hT1.later hb hT1.lt) hs1
  have cQ := fun (W : World) (hb : Below w1.heap.size w1 W) => quote_any s W (hT1.later hb hT1.lt) hs1
  rw [hI] at cI
  rw [hQ] at cQ
  have HT1 := Lib.hid hT1
  have HB1 := Lib.hid hb1
  clear hI hQ hT1 hb1 h2000 h500 hzr hzl hI1 hQ1 hQ2 hII hQI
  go_wp2_with fail
  refine (cI _ (Below.refl _ _)).mono ?_
  rintro e w2 ⟨rfl, hb2⟩
  go_wp2_with fail
  refine (cQ _ hb2).mono ?_
  rintro e w3 ⟨rfl, hb3⟩
  have hb13 := below_trans hb2 hb3
  clear cI cQ hb2 hb3
  go_wp2_with fail
  go_loopw [27] (fun iv wr => ∃ k : Nat, k ≤ 2 ∧ iv = .int .i64 k ∧ wr.heap[w3.heap.size]? = some (.cells #[.string I, .string Q] 9) ∧ Below w3.heap.size w3 wr) (fun iv _ => 2 - (intOf iv).toNat)
  case atStart => exact ⟨0, by omega, rfl, heap_alloc_new w3 _, (Below.refl _ _).alloc (Nat.le_refl _) _⟩
  case round =>
    obtain ⟨k, hk, rfl, hh, hbr⟩ := hrel
    by_cases hlt : k < 2
    · obtain ⟨T, hcell, hTP, hTs⟩ : ∃ T : ByteArray, wr.cell? ⟨w3.heap.size, k, none⟩ = some (.string T) ∧ PlainL (strI T) ∧ T.size ≤ 60010 := by
        rcases (show k = 0 ∨ k = 1 from by omega) with rfl | rfl
        · exact ⟨I, by simp [World.cell?, hh], HPI.out, hIs⟩
        · exact ⟨Q, by simp [World.cell?, hh], HPQ.out, hQs⟩
      have HTP := Lib.hid hTP
      have HH := Lib.hid hh
      have HBR := Lib.hid hbr
      clear hTP hh hbr
      go_wp2_with fail
      go_loopw [7] (fun jv wq => ∃ j : Nat, j ≤ T.size ∧ jv = .int .i64 j ∧ wq = wr) (fun jv _ => T.size - (intOf jv).toNat)
      case atStart => exact ⟨0, Nat.zero_le _, rfl, rfl⟩
      case round =>
        obtain ⟨j, hj, rfl, rfl⟩ := hrel
        by_cases hjt : j < T.size
        · have hjI : (0 : Int) ≤ (j : Int) := by omega
          have hjI2 : (j : Int) < (T.size : Int) := by omega
          have hbm := HTP.out _ (byte_mem T j hjt)
          have q1 : decide ((((T[j]'hjt).toNat : Nat) : Int) < 32) = false := decide_eq_false (by omega)
          have q2 : ((((T[j]'hjt).toNat : Nat) : Int) == 127) = false := beq_eq_false_iff_ne.2 hbm.2
          clear hbm
          go_wp2
          go_roundw
          case rel => exact ⟨j + 1, by omega, by go_num, trivial⟩
          case measure => simp [intOf]; omega
        · obtain rfl : j = T.size := by omega
          go_wp2
          go_roundw
          case rel => exact ⟨k + 1, by omega, by go_num, HH.out, HBR.out⟩
          case measure => simp [intOf]; omega
    · obtain rfl : k = 2 := by omega
      obtain ⟨i0, hi, hz0, hz1, hz2⟩ := info_parts Tryd.info5
      have own0 : (wr.alloc (.cells #[.int .u8 110] 5)).ownsRow w3.heap.size 5 1 (.slice (some ⟨wr.heap.size, 0, none⟩) 1 1) 1 (([110] : List Int).map (Value.int .u8)) := World.ownsRow_lit wr #[.int .u8 110] 1 hbr.size (by simp [maxLen]) (by simp)
      have hb0 : Below w3.heap.size w3 (wr.alloc (.cells #[.int .u8 110] 5)) := hbr.alloc hbr.size _
      clear hh hbr
      have HRX := Lib.hid (show Reads w3 .u8 a cap xs from (HR.out.later HB1.out).later hb13)
      go_wp2_with fail
      go_loopw [8, 51] (fun v iv wq => ∃ (k : Nat) (m : List Int), k ≤ n ∧ m.length = k ∧ iv = .int .i64 k ∧ Hid (∀ c ∈ m, c ∈ nmTab) ∧ wq.ownsRow w3.heap.size 5 1 v (110 :: m).length ((110 :: m).map (Value.int .u8)) ∧ Below w3.heap.size w3 wq) (fun _ iv _ => n - (intOf iv).toNat)
      case atStart => exact ⟨0, [], Nat.zero_le _, by simp, rfl, Lib.hid (fun c hc => by cases hc), own0, hb0⟩
      case round =>
        clear own0 hb0
        obtain ⟨k, m, hk, hm, rfl, HM, hown, hbq⟩ := hrel
        by_cases hlt : k < n
        · have hkx : k < xs.length := by rw [HN.out]; exact hlt
          obtain ⟨g, off, ha, hat⟩ := ((HRX.out.later hbq).2.2).resolve_left (fun h => by rw [h] at hkx; simp at hkx)
          have hcell := hat.2 k hkx
          subst ha
          have hx0 : 0 ≤ xs[k]?.getD 0 ∧ xs[k]?.getD 0 ≤ 255 := by rw [List.getElem?_eq_getElem hkx]; exact HX.out _ (List.getElem_mem _)
          obtain ⟨x, hxx⟩ : ∃ x, xs[k]?.getD 0 = x := ⟨_, rfl⟩
          rw [hxx] at hcell hx0
          obtain ⟨hx1, hx2⟩ := hx0
          have hkI : (0 : Int) ≤ (k : Int) := by omega
          have hkI2 : (k : Int) < (n : Int) := by omega
          clear hxx hat hkx
          have hp : (x % 9).toNat < (ByteArray.mk #[97, 98, 122, 95, 45, 48, 57, 65, 90]).size := by show _ < 9; omega
          have hct := tab_at (x % 9) (by omega) (by omega) hp
          obtain ⟨c, hcv⟩ : ∃ c, ((((ByteArray.mk #[97, 98, 122, 95, 45, 48, 57, 65, 90])[(x % 9).toNat]'hp).toNat : Nat) : Int) = c := ⟨_, rfl⟩
          rw [hcv] at hct
          have HCT := Lib.hid hct
          have hlm : (110 :: m).length ≤ 1000 := by simp; omega
          have HMK := Lib.hid hm
          clear hct hm
          go_wp2_with (at_builtin; refine wpList_append_own _ rfl _ _ 29 rfl w3.heap.size 5 i0 (.int .u8 0) 1 1 Tryd.underlying29 hi hz0 hz1 hz2 rfl (by decide) _ _ _ rfl (hown.alloc _) ⟨wr.heap.size, 0, none⟩ 1 1 [.int .u8 c] rfl rfl (cell_one_new _ _ _) (fun x hx => by simp at hx; subst hx; rfl) (by unfold maxLen; omega) (by omega) (by have := hbq.size; simp; omega) ?_; intro v' w4 hown3 hgrow3 _)
          have hown4 := owns_snoc hown3
          have hbl4 : Below w3.heap.size w3 w4 := hbq.trans (Below.of_grown (grown_trans (World.grownBy_alloc _ _ _) hgrow3) hbq.size (fun j hj => (hown.lt j hj).1))
          go_roundw
          case rel => exact ⟨_, _, _, _, _, _, _, _, _, _, _, _, _, ⟨k + 1, m ++ [c], by omega, by simp [HMK.out], by go_num, Lib.hid (fun d hd => (List.mem_append.1 hd).elim (HM.out d) (fun h => by simp at h; subst h; exact HCT.out)), hown4, hbl4⟩, rfl⟩
          case measure => simp [intOf]; omega
        · obtain rfl : k = n := by omega
          have hPN : PlainN (110 :: m) := ⟨m, rfl, HM.out⟩
          have hU : U8 (110 :: m) := fun z hz => by have := nmTab_ok (hPN.mem hz); omega
          have hlen : (110 :: m).length ≤ 501 := by simp; omega
          obtain ⟨a', cap', hv, hrd⟩ := Reads.of_owns hown
          obtain ⟨N, hN⟩ : ∃ N, strOfNums (110 :: m) = N := ⟨_, rfl⟩
          have hNI : strI N = 110 :: m := by rw [← hN]; exact strI_nums _ hU
          have hNs : N.size ≤ 501 := by rw [← strI_len, hNI]; exact hlen
          have eI : strOfNums (identF (rawF (strI N))) = N := by rw [hNI, rawF_plain hPN, identF_name hPN]; exact hN
          have eQ : strOfNums (quoteF (rawF (strI N))) = ⟨#[34]⟩ ++ N ++ ⟨#[34]⟩ := strOf_strI (by rw [strI_append, strI_append, hNI, rawF_plain hPN, quoteF_name hPN]; rfl)
          have hT1q := HT1.out.later (hb13.trans (hbq.mono hb13.size)) HT1.out.lt
          have cI2 := fun (W : World) (hb : Below wr.heap.size wr W) => ident_any N W (hT1q.later hb hT1q.lt) (by omega)
          have cQ2 := fun (W : World) (hb : Below wr.heap.size wr W) => quote_any N W (hT1q.later hb hT1q.lt) (by omega)
          rw [eI] at cI2
          rw [eQ] at cQ2
          have cv := fun (W : World) (hb : Below wr.heap.size wr W) => conv3_any W 29 5 9 Tryd.underlying29 Tryd.underlying5 Tryd.underlying9 a' (110 :: m).length cap' (110 :: m) rfl (hrd.later hb)
          rw [hN] at cv
          have HBQ := Lib.hid (show Below w.heap.size w wr from below_trans HB1.out (hb13.trans (hbq.mono hb13.size)))
          have hq1 : ¬ 9223372036854775807 < (⟨#[34]⟩ : ByteArray).size + N.size := by have : (⟨#[34]⟩ : ByteArray).size = 1 := rfl; omega
          have hq2 : ¬ 9223372036854775807 < ((⟨#[34]⟩ : ByteArray) ++ N).size + (⟨#[34]⟩ : ByteArray).size := by have : (⟨#[34]⟩ : ByteArray).size = 1 := rfl; rw [ByteArray.size_append]; omega
          have CV := Lib.hid cv
          have cv0 := cv wr (Below.refl _ _)
          have cv1 := cv wr.drew (Below.refl _ _).drew
          obtain ⟨L, hL⟩ : ∃ L, (110 :: m).length = L := ⟨_, rfl⟩
          rw [hL] at hv cv0 cv1 CV
          subst hv
          clear cv hL eI eQ hN hNI hlen hU hPN hown hbq hrd hT1q HM hm
          go_wp2_with fail
          go_region_with (first
          | (go_at_call 16; refine (cI2 _ (by first | exact Below.refl _ _ | exact (Below.refl _ _).drew)).mono ?_; rintro e w5 ⟨rfl, hb5⟩; have hq5 : Below wr.heap.size wr w5 := (by first | exact hb5 | exact (Below.refl _ _).drew.trans hb5); have cv5 := CV.out w5 hq5)
          | (go_at_call 18; refine (cQ2 _ hq5).mono ?_; rintro e w6 ⟨rfl, hb6⟩; have hq6 : Below wr.heap.size wr w6 := below_trans hq5 hb6; have cv6 := CV.out w6 hq6))
          all_goals (go_wp2; go_ret; first | exact ⟨rfl, below_trans HBQ.out hq6⟩ | exact ⟨by simp, below_trans HBQ.out hq6⟩)
end Go.Proofs.YtpccakalkcgdeaaDoor
