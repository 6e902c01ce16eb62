/- DecodePrepares: the law's walk. -/
import Derived.Test.YtmcboiopglpbkaaPrepares
namespace Go.Proofs.Ytmcboiopglpbkaa
open Go.RowKit

set_option maxHeartbeats 1000000 in
theorem lawPrepares_long (a : Option Addr) (len cap : Nat) (w : World) (hl : 2000 < len) :
    Calls Try.prog 4 #[.slice a len cap] w (LawPost w) := by
  go_enter Try.func4, Try.ntmps4
  go_wp2_with fail
  refine (speaks_any _).mono ?_
  rintro e w1 ⟨rfl, hb1⟩
  go_wp2
  go_ret
  exact ⟨rfl, hb1⟩

theorem same_yes' (a a' : Option Addr) (n n' c c' : Nat) (xs : List Int) (w : World) (hn : xs.length = n) (hn' : xs.length = n') (hx : Reads w .i64 a c xs) (hy : Reads w .i64 a' c' xs) :
    Calls Try.prog 12 #[.slice a n c, .slice a' n' c'] w (BoolPost true w) := by
  subst hn; subst hn'; exact same_yes a a' c c' xs w hx hy

set_option maxHeartbeats 4000000 in
theorem lawPrepares_short (a : Option Addr) (len cap : Nat) (zs : List Int) (w : World) (hlen : zs.length = len) (hsm : len ≤ 2000) (hr : Reads w .i64 a cap zs) (hnil : a = none → cap = 0) (hz : I64 zs) :
    Calls Try.prog 4 #[.slice a len cap] w (LawPost w) := by
  obtain ⟨i0, hi, hz0, hz1, hz2⟩ := info_parts Try.info3
  have hpl := prepF_len zs
  rw [hlen] at hpl
  have HL := Lib.hid hlen; clear hlen
  have HNil := Lib.hid hnil; clear hnil
  go_enter Try.func4, Try.ntmps4
  go_wp2_with fail
  refine (speaks_any _).mono ?_
  rintro e w1 ⟨rfl, hb1⟩
  have own0 := World.ownsRow_made (base := w1.heap.size) (e := 3) (size := 1) w1 #[] 0 (Nat.le_refl _) (by simp [maxLen]) (by simp)
  have hr1 := (hr.later hb1).later ((Below.refl _ w1).alloc (Nat.le_refl _) (.cells #[] 3))
  go_wp2_with (at_builtin; refine wpList_append_reads rfl _ _ 24 rfl w1.heap.size 3 i0 .i64 8 Try.underlying24 hi hz0 hz1 hz2 _ 0 [] rfl own0 rfl a len cap zs HL.out rfl hr1 HNil.out (by unfold maxLen; omega) (by omega) (by simp) ?_; intro v' w2 hown2 hgrow2)
  have hown3 := owns_cast (k := .i64) hown2 zs (by simp)
  obtain ⟨ai, ci, hv, hrd2⟩ := Reads.of_owns hown3
  rw [HL.out] at hv
  subst hv
  have hb2 : Below w.heap.size w w2 := (hb1.alloc hb1.size _).grown hgrow2 (by simp; have := hb1.size; omega) (by rintro _ ⟨⟩; exact hb1.size)
  have hrb2 : Reads w2 .i64 a cap zs := hr.later hb2
  clear hgrow2 hown2 own0 hr1 hown3
  go_wp2_with fail
  refine (prepare_any ai ci len zs w2 HL.out hrd2 hz (by omega)).mono ?_
  rintro e w3 ⟨ao, co, rfl, hro, hb3, _, _⟩
  have hb3' := hb2.trans (hb3.mono hb2.size)
  have hri3 := hrd2.later hb3
  have hrb3 := hrb2.later hb3
  obtain ⟨n, hn⟩ : ∃ n, (prepF zs).length = n := ⟨_, rfl⟩
  have HN := Lib.hid hn
  rw [hn] at hpl ⊢
  clear hn hb3 hrd2 hrb2
  go_wp2_with fail
  have hro3d : Reads w3.drew .i64 ao co (prepF zs) := hro
  have hri3d : Reads w3.drew .i64 ai ci zs := hri3
  have hrb3d : Reads w3.drew .i64 a cap zs := hrb3
  clear hro hri3 hrb3
  go_region_with (first
    | (go_at_call 16; refine (refPrepare_any a cap len zs w3.drew HL.out hrb3d hz (by omega)).mono ?_; rintro e w4 ⟨ar, cr, rfl, hrr, hb4, _, _⟩; rw [HN.out]; have hro4 := hro3d.later hb4; have hri4 := hri3d.later hb4; have hrb4 := hrb3d.later hb4; have hb4' := hb3'.drew.trans (hb4.mono hb3'.size))
    | (go_at_call_of 12 (Value.slice ao n co); refine (same_yes' ao ar n n co cr (prepF zs) w4 HN.out HN.out hro4 hrr).mono ?_; rintro e w5 ⟨rfl, hb5⟩; have hro5 := hro4.later hb5; have hri5 := hri4.later hb5; have hrb5 := hrb4.later hb5; have hb5' := hb4'.trans (hb5.mono hb4'.size))
    | (go_at_call_of 12 (Value.slice ai len ci); refine (same_yes' ai a len len ci cap zs w5 HL.out HL.out hri5 hrb5).mono ?_; rintro e w6 ⟨rfl, hb6⟩; have hro6 := hro5.later hb6; have hrb6 := hrb5.later hb6; have hb6' := hb5'.trans (hb6.mono hb5'.size))
    | (go_at_call 17; refine (text_any a cap len zs w6 HL.out hrb6 (by omega)).mono ?_; rintro e w7 ⟨at1, ct1, rfl, hrt1, hb7, _, _⟩; have hro7 := hro6.later hb7; have hrb7 := hrb6.later hb7; have hb7' := hb6'.trans (hb7.mono hb6'.size); have cv7 := conv_any w7 22 5 9 Try.underlying22 Try.underlying5 Try.underlying9 at1 _ ct1 (textF zs) rfl hrt1)
    | (go_at_call 18; refine (refText_any a cap len zs w7 HL.out hrb7 (by omega)).mono ?_; rintro e w8 ⟨at2, ct2, rfl, hrt2, hb8, _, _⟩; have hro8 := hro7.later hb8; have hrb8 := hrb7.later hb8; have hb8' := hb7'.trans (hb8.mono hb7'.size); have cv8 := conv_any w8 22 5 9 Try.underlying22 Try.underlying5 Try.underlying9 at1 _ ct1 (textF zs) rfl (hrt1.later hb8); have cv8b := conv_any w8 22 5 9 Try.underlying22 Try.underlying5 Try.underlying9 at2 _ ct2 (textF zs) rfl hrt2))
  all_goals
    clear hri3d hrb3d hro3d hro4 hri4 hrb4 hro5 hri5 hrb5 hro6 hrb6 hro7 hrb7 cv8 cv8b
    by_cases h0 : n = 0
    · subst h0
      go_wp2
      refine wp_loop_rounds 1 ?_; rw [rounds_succ]
      go_wp2_with fail
      refine (prepare_any ao co 0 (prepF zs) w8 HN.out hro8 (clean_i64 (prepF_clean zs)) (by omega)).mono ?_
      rintro e w9 ⟨ap, cp, rfl, hrp, hb9, _, _⟩
      rw [prep_same _ (prepF_clean zs)] at hrp
      rw [prep_same _ (prepF_clean zs), HN.out]
      go_wp2_with fail
      refine (same_yes' ap ao 0 0 cp co (prepF zs) w9 HN.out HN.out hrp (hro8.later hb9)).mono ?_
      rintro e w10 ⟨rfl, hb10⟩
      go_wp2
      go_ret
      exact ⟨rfl, hb8'.trans ((hb9.trans (hb10.mono hb9.size)).mono hb8'.size)⟩
    · obtain ⟨bo, offo, hao, hato⟩ := hro8.2.2.resolve_left (fun h => h0 (by rw [← HN.out, h]; rfl))
      subst hao
      have hco := hro8.1
      have hco2 := hro8.2.1
      rw [HN.out] at hco
      unfold maxLen at hco2
      go_wp2
      go_loopw [39] (fun i wr => ∃ k : Nat, k ≤ n ∧ i = .int .i64 k ∧ Below w8.heap.size w8 wr) (fun i _ => n - (intOf i).toNat)
      case atStart => exact ⟨0, by omega, rfl, Below.refl _ _⟩
      case round =>
        obtain ⟨k, hk, rfl, hbl⟩ := hrel
        have hrx := hro8.later hbl
        by_cases hlt : k < n
        · have hkz : k < (prepF zs).length := by rw [HN.out]; exact hlt
          have hc := (hato.later hbl hato.1).2 k hkz
          have hcl : Clean ((prepF zs)[k]?.getD 0) := by rw [List.getElem?_eq_getElem hkz]; exact prepF_clean zs _ (List.getElem_mem hkz)
          have hlt' : (k : Int) < (n : Int) := by omega
          clear hkz
          generalize (prepF zs)[k]?.getD 0 = c at hc hcl
          obtain ⟨q0, q12, q13, qr⟩ := hcl
          have q0' : (c == 0) = false := by rw [beq_eq_false_iff_ne]; exact q0
          have q12' : (c == 12) = false := by rw [beq_eq_false_iff_ne]; exact q12
          have q13' : (c == 13) = false := by rw [beq_eq_false_iff_ne]; exact q13
          have QR := Lib.hid qr
          clear q0 q12 q13 qr
          go_wp2_with fail
          refine (refRight_any c wr).mono ?_
          rintro e w9 ⟨he, rfl⟩
          rw [QR.out] at he
          subst he
          go_wp2
          go_roundw
          case rel => exact ⟨k + 1, by omega, by go_num, hbl⟩
          case measure => simp [intOf]; omega
        · have hblw := hb8'.trans (hbl.mono hb8'.size)
          go_wp2_with fail
          refine (prepare_any (some ⟨bo, offo, none⟩) co n (prepF zs) wr HN.out hrx (clean_i64 (prepF_clean zs)) (by omega)).mono ?_
          rintro e w9 ⟨ap, cp, rfl, hrp, hb9, _, _⟩
          rw [prep_same _ (prepF_clean zs)] at hrp
          rw [prep_same _ (prepF_clean zs), HN.out]
          go_wp2_with fail
          refine (same_yes' ap (some ⟨bo, offo, none⟩) n n cp co (prepF zs) w9 HN.out HN.out hrp (hrx.later hb9)).mono ?_
          rintro e w10 ⟨rfl, hb10⟩
          go_wp2
          go_ret
          exact ⟨rfl, hblw.trans ((hb9.trans (hb10.mono hb9.size)).mono hblw.size)⟩

theorem lawPrepares_any (a : Option Addr) (cap : Nat) (zs : List Int) (w : World) (hr : Reads w .i64 a cap zs) (hnil : a = none → cap = 0) (hz : I64 zs) :
    Calls Try.prog 4 #[.slice a zs.length cap] w (LawPost w) := by
  by_cases hsm : zs.length ≤ 2000
  · exact lawPrepares_short a zs.length cap zs w rfl hsm hr hnil hz
  · exact lawPrepares_long a zs.length cap w (by omega)
end Go.Proofs.Ytmcboiopglpbkaa
