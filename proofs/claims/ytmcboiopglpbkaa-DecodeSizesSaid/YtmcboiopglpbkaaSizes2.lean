/- DecodeSizes: the law's walk. -/
import Derived.Test.YtmcboiopglpbkaaSizes
namespace Go.Proofs.Ytmcboiopglpbkaa
open Go.RowKit

set_option maxHeartbeats 1000000 in
theorem lawSizes_long (a : Option Addr) (len cap : Nat) (w : World) (hl : 2000 < len) :
    Calls Try.prog 8 #[.slice a len cap] w (LawPost w) := by
  go_enter Try.func8, Try.ntmps8
  go_wp2_with fail
  refine (speaks_any _).mono ?_
  rintro e w1 ⟨rfl, hb1⟩
  go_wp2
  go_ret
  exact ⟨rfl, hb1⟩

/-- Are the first numbers all between 0 and 128? -/
def plainTo (zs : List Int) (k : Nat) : Bool := (zs.take k).all fun z => decide (0 < z) && decide (z < 128)
theorem plainTo_snoc (zs : List Int) (k : Nat) (h : k < zs.length) : plainTo zs (k + 1) = (plainTo zs k && (decide (0 < zs[k]?.getD 0) && decide (zs[k]?.getD 0 < 128))) := by
  unfold plainTo
  rw [List.take_add_one, List.getElem?_eq_getElem h, List.all_append]; simp
theorem plainTo_all (zs : List Int) (k : Nat) (hk : zs.length ≤ k) (h : plainTo zs k = true) : ∀ z ∈ zs, 0 < z ∧ z < 128 := by
  unfold plainTo at h
  rw [List.take_of_length_le hk, List.all_eq_true] at h
  intro z hz
  have := h z hz
  simpa using this

set_option maxHeartbeats 4000000 in
theorem lawSizes_some (b off len cap : Nat) (zs : List Int) (w : World) (hlen : zs.length = len) (h1 : 1 ≤ len) (hsm : len ≤ 2000) (hl : len ≤ cap) (hcap : cap ≤ maxLen) (hat : At w .u8 b off zs) (hz : U8 zs) :
    Calls Try.prog 8 #[.slice (some ⟨b, off, none⟩) len cap] w (LawPost w) := by
  have hcap' := hcap
  unfold maxLen at hcap'
  have H0 := Lib.hid hlen; clear hlen
  have HC := Lib.hid hcap; clear hcap
  obtain ⟨n, hn⟩ : ∃ n, (charsF zs).length = n := ⟨_, rfl⟩
  have hnl : n ≤ len := by rw [← hn, ← H0.out]; exact charsF_len zs
  have HN := Lib.hid hn; clear hn
  go_enter Try.func8, Try.ntmps8
  go_wp2_with fail
  refine (speaks_any _).mono ?_
  rintro e w1 ⟨rfl, hb1⟩
  go_wp2_with fail
  have call1 := chars_any (some ⟨b, off, none⟩) cap zs w1 ⟨by rw [H0.out]; exact hl, HC.out, .inr ⟨b, off, rfl, hat.later hb1 hat.1⟩⟩ hz (by rw [H0.out]; omega)
  rw [H0.out] at call1
  refine call1.mono ?_
  rintro e w2 ⟨al, cl, rfl, hrl, hb2, _⟩
  rw [HN.out]
  clear call1
  have hb2' := hb1.trans (hb2.mono hb1.size)
  clear hb2
  go_wp2
  go_loopw [4, 18] (fun p i wr => ∃ k : Nat, k ≤ len ∧ i = .int .i64 k ∧ p = .bool (plainTo zs k) ∧ Below w2.heap.size w2 wr) (fun _ i _ => len - (intOf i).toNat)
  case atStart => exact ⟨0, by omega, rfl, rfl, Below.refl _ _⟩
  case round =>
    obtain ⟨k, hk, rfl, rfl, hbl⟩ := hrel
    have hblw := hb2'.trans (hbl.mono hb2'.size)
    by_cases hlt : k < len
    · have hkz : k < zs.length := by rw [H0.out]; exact hlt
      have HS := Lib.hid (plainTo_snoc zs k hkz)
      have hc := (hat.later hblw hat.1).2 k hkz
      clear hkz
      generalize zs[k]?.getD 0 = z at hc HS
      generalize plainTo zs k = p at HS ⊢
      cases p
      · go_wp2
        go_roundw
        case rel => exact ⟨k + 1, by omega, by go_num, by rw [HS.out]; rfl, hbl⟩
        case measure => simp [intOf]; omega
      · by_cases h128 : z < 128
        · by_cases h00 : 0 < z
          · have HQ : Hid ((decide (0 < z) && decide (z < 128)) = true) := Lib.hid (by simp [h00, h128])
            go_wp2
            go_roundw
            case rel => exact ⟨k + 1, by omega, by go_num, by rw [HS.out, HQ.out]; rfl, hbl⟩
            case measure => simp [intOf]; omega
          · have HQ : Hid ((decide (0 < z) && decide (z < 128)) = false) := Lib.hid (by simp [h00])
            have h00' : z ≤ 0 := by omega
            clear h00
            go_wp2
            go_roundw
            case rel => exact ⟨k + 1, by omega, by go_num, by rw [HS.out, HQ.out, decide_eq_false (by omega)]; rfl, hbl⟩
            case measure => simp [intOf]; omega
        · have HQ : Hid ((decide (0 < z) && decide (z < 128)) = false) := Lib.hid (by simp [h128])
          have h128' : 128 ≤ z := by omega
          clear h128
          go_wp2
          go_roundw
          case rel => exact ⟨k + 1, by omega, by go_num, by rw [HS.out, HQ.out]; rfl, hbl⟩
          case measure => simp [intOf]; omega
    · have hkl : k = len := by omega
      have hrl2 := hrl.later hbl
      have hnl' : (n : Int) ≤ (len : Int) := by omega
      have HPA : Hid (plainTo zs k = true → ∀ z ∈ zs, 0 < z ∧ z < 128) := Lib.hid (plainTo_all zs k (by rw [H0.out]; omega))
      generalize plainTo zs k = p at HPA ⊢
      cases p
      · -- not plain
        go_wp2_with fail
        refine (prepare_any al cl n (charsF zs) wr HN.out hrl2 (charsF_i64 zs hz) (by omega)).mono ?_
        rintro e w5 ⟨a5, c5, rfl, hr5, hb5, _, _⟩
        have hl5 := prepF_len (charsF zs)
        rw [HN.out] at hl5
        go_wp2_with fail
        refine (text_any a5 c5 _ (prepF (charsF zs)) w5 rfl hr5 (by omega)).mono ?_
        rintro e w6 ⟨a6, c6, rfl, hr6, hb6, _, _⟩
        have hb56 := hb5.trans (hb6.mono hb5.size)
        go_wp2_with fail
        refine (right_any a6 c6 (textF (prepF (charsF zs))) w6 hr6 (textF_u8 _)).mono ?_
        rintro e w7 ⟨he, hb7⟩
        rw [clean_text] at he
        subst he
        have hb57 := hb56.trans (hb7.mono hb56.size)
        have hbf := hblw.trans (hb57.mono hblw.size)
        go_wp2
        go_ret
        exact ⟨rfl, hbf⟩
      · have HP : Hid (∀ z ∈ zs, 0 < z ∧ z < 128) := Lib.hid (HPA.out rfl)
        have HE : Hid (charsF zs = zs) := Lib.hid (charsF_plain zs (fun z hz => by have := HP.out z hz; omega))
        have hnn : n = len := by rw [← HN.out, HE.out, H0.out]
        subst hnn
        obtain ⟨bl, offl, hal, hatl⟩ := hrl2.2.2.resolve_left (by intro h; have := HN.out; rw [h] at this; simp at this; omega)
        subst hal
        have hcl := hrl2.1
        have hcl2 := hrl2.2.1
        rw [HN.out] at hcl
        unfold maxLen at hcl2
        go_wp2
        go_loopw [35] (fun i wr2 => ∃ k2 : Nat, k2 ≤ n ∧ i = .int .i64 k2 ∧ Below wr.heap.size wr wr2) (fun i _ => n - (intOf i).toNat)
        case atStart => exact ⟨0, by omega, rfl, Below.refl _ _⟩
        case round =>
          obtain ⟨k2, hk2, rfl, hbl3⟩ := hrel
          have hblw3 := hblw.trans (hbl3.mono hblw.size)
          by_cases hlt2 : k2 < n
          · have hc1 := (hat.later hblw3 hat.1).2 k2 (by rw [H0.out]; exact hlt2)
            have hc2 := (hatl.later hbl3 hatl.1).2 k2 (by rw [HN.out]; exact hlt2)
            rw [HE.out] at hc2
            have hbd := hz.at k2
            have hlt3 : (k2 : Int) < (n : Int) := by omega
            generalize zs[k2]?.getD 0 = z at hc1 hc2 hbd
            go_wp2
            go_roundw
            case rel => exact ⟨k2 + 1, by omega, by go_num, hbl3⟩
            case measure => simp [intOf]; omega
          · have hrl4 := hrl2.later hbl3
            go_wp2_with fail
            refine (prepare_any (some ⟨bl, offl, none⟩) cl n (charsF zs) _ HN.out hrl4 (charsF_i64 zs hz) (by omega)).mono ?_
            rintro e w5 ⟨a5, c5, rfl, hr5, hb5, _, _⟩
            have hl5 := prepF_len (charsF zs)
            rw [HN.out] at hl5
            go_wp2_with fail
            refine (text_any a5 c5 _ (prepF (charsF zs)) w5 rfl hr5 (by omega)).mono ?_
            rintro e w6 ⟨a6, c6, rfl, hr6, hb6, _, _⟩
            have hb56 := hb5.trans (hb6.mono hb5.size)
            go_wp2_with fail
            refine (right_any a6 c6 (textF (prepF (charsF zs))) w6 hr6 (textF_u8 _)).mono ?_
            rintro e w7 ⟨he, hb7⟩
            rw [clean_text] at he
            subst he
            have hb57 := hb56.trans (hb7.mono hb56.size)
            have hbf := hblw3.trans (hb57.mono hblw3.size)
            go_wp2_with fail
            have call3 := right_any (some ⟨b, off, none⟩) cap zs w7 ⟨by rw [H0.out]; exact hl, HC.out, .inr ⟨b, off, rfl, hat.later hbf hat.1⟩⟩ hz
            rw [H0.out, right_plain zs HP.out] at call3
            refine call3.mono ?_
            rintro e w8 ⟨rfl, hb8⟩
            go_wp2
            go_ret
            exact ⟨rfl, hbf.trans (hb8.mono hbf.size)⟩


theorem right_nil (a : Option Addr) (cap : Nat) (w : World) : Calls Try.prog 11 #[.slice a 0 cap] w (BoolPost true w) := right_none a cap w

set_option maxHeartbeats 1000000 in
theorem lawSizes_none (a : Option Addr) (cap : Nat) (w : World) : Calls Try.prog 8 #[.slice a 0 cap] w (LawPost w) := by
  go_enter Try.func8, Try.ntmps8
  go_wp2_with fail
  refine (speaks_any _).mono ?_
  rintro e w1 ⟨rfl, hb1⟩
  go_wp2_with fail
  refine (chars_none a cap w1).mono ?_
  rintro e w2 ⟨al, cl, rfl, hrl, hb2, _⟩
  rw [show charsF [] = [] from rfl] at hrl ⊢
  have hb2' := hb1.trans (hb2.mono hb1.size)
  clear hb2
  go_wp2
  refine wp_loop_rounds 1 ?_; rw [rounds_succ]
  go_wp2
  refine wp_loop_rounds 1 ?_; rw [rounds_succ]
  go_wp2_with fail
  refine (prepare_any al cl 0 [] w2 rfl hrl (by intro z hz; simp at hz) (by omega)).mono ?_
  rintro e w5 ⟨a5, c5, rfl, hr5, hb5, _, _⟩
  rw [show prepF [] = [] from rfl] at hr5 ⊢
  go_wp2_with fail
  refine (text_any a5 c5 0 [] w5 rfl hr5 (by omega)).mono ?_
  rintro e w6 ⟨a6, c6, rfl, hr6, hb6, _, _⟩
  rw [show textF [] = [] from rfl] at hr6 ⊢
  have hb56 := hb5.trans (hb6.mono hb5.size)
  go_wp2_with fail
  refine (right_nil a6 c6 w6).mono ?_
  rintro e w7 ⟨rfl, hb7⟩
  have hb57 := hb56.trans (hb7.mono hb56.size)
  go_wp2_with fail
  refine (right_nil a cap w7).mono ?_
  rintro e w8 ⟨rfl, hb8⟩
  have hb58 := hb57.trans (hb8.mono hb57.size)
  go_wp2
  go_ret
  exact ⟨rfl, hb2'.trans (hb58.mono hb2'.size)⟩

theorem lawSizes_any (a : Option Addr) (cap : Nat) (zs : List Int) (w : World) (hr : Reads w .u8 a cap zs) (hz : U8 zs) :
    Calls Try.prog 8 #[.slice a zs.length cap] w (LawPost w) := by
  obtain ⟨h1, h2, h3⟩ := hr
  by_cases hsm : zs.length ≤ 2000
  · by_cases h0 : zs = []
    · subst h0; exact lawSizes_none a cap w
    · obtain ⟨b, off, rfl, hat⟩ := h3.resolve_left h0
      exact lawSizes_some b off zs.length cap zs w rfl (List.length_pos_iff.2 h0) hsm h1 h2 hat hz
  · exact lawSizes_long a zs.length cap w (by omega)
end Go.Proofs.Ytmcboiopglpbkaa
