/- DecodeReads: the law's walk. -/
import Derived.Test.YtmcboiopglpbkaaRefChars
import Derived.Test.YtmcboiopglpbkaaAppend
import Derived.Test.YtmcboiopglpbkaaLines
namespace Go.Proofs.Ytmcboiopglpbkaa
open Go.RowKit

theorem Reads.kept {w w' : World} {k : IntKind} {a : Option Addr} {cap : Nat} {zs : List Int} (h : Reads w k a cap zs) {row : Option Nat} (hg : w.grownBy w' row) (hne : ∀ ad, a = some ad → row ≠ some ad.block) : Reads w' k a cap zs := by
  obtain ⟨h1, h2, h3⟩ := h
  refine ⟨h1, h2, ?_⟩
  rcases h3 with h3 | ⟨b, off, rfl, hat⟩
  · exact .inl h3
  · exact .inr ⟨b, off, rfl, Nat.lt_of_lt_of_le hat.1 hg.size, fun j hj => by
      rw [World.cell?_of_block (hg.block b hat.1 (fun e => hne _ rfl e.symm))]; exact hat.2 j hj⟩

set_option maxHeartbeats 1000000 in
theorem lawReads_long (a : Option Addr) (len cap : Nat) (w : World) (hl : 5000 < len) :
    Calls Try.prog 3 #[.slice a len cap] w (LawPost w) := by
  go_enter Try.func3, Try.ntmps3
  go_wp2_with fail
  refine (speaks_any _).mono ?_
  rintro e w1 ⟨rfl, hb1⟩
  go_wp2
  go_ret
  exact ⟨rfl, hb1⟩

set_option maxHeartbeats 2000000 in
theorem lawReads_short (a : Option Addr) (len cap : Nat) (zs : List Int) (w : World) (hlen : zs.length = len) (hsm : len ≤ 5000) (hr : Reads w .u8 a cap zs) (hnil : a = none → cap = 0) (hz : U8 zs) :
    Calls Try.prog 3 #[.slice a len cap] w (LawPost w) := by
  obtain ⟨i0, hi, hz0, hz1, hz2⟩ := info_parts Try.info5
  have hsz : zs.length ≤ 1000000 := by omega
  have HL := Lib.hid hlen; clear hlen
  have HNil := Lib.hid hnil; clear hnil
  go_enter Try.func3, Try.ntmps3
  go_wp2_with fail
  refine (speaks_any _).mono ?_
  rintro e w1 ⟨rfl, hb1⟩
  have own0 := World.ownsRow_made (base := w1.heap.size) (e := 5) (size := 1) w1 #[] 0 (Nat.le_refl _) (by simp [maxLen]) (by simp)
  have hr1 := (hr.later hb1).later ((Below.refl _ w1).alloc (Nat.le_refl _) (.cells #[] 5))
  go_wp2_with (at_builtin; refine wpList_append_reads rfl _ _ 22 rfl w1.heap.size 5 i0 .u8 1 Try.underlying22 hi hz0 hz1 hz2 _ 0 [] rfl own0 rfl a len cap zs HL.out rfl hr1 HNil.out (by unfold maxLen; omega) (by omega) (by simp) ?_; intro v' w2 hown2 hgrow2)
  have hown3 := owns_cast (k := .u8) hown2 zs (by simp)
  obtain ⟨ai, ci, hv, hrd2⟩ := Reads.of_owns hown3
  subst hv
  have hb2 : Below w.heap.size w w2 := (hb1.alloc hb1.size _).grown hgrow2 (by simp; have := hb1.size; omega) (by rintro _ ⟨⟩; exact hb1.size)
  have hrb2 : Reads w2 .u8 a cap zs := hr.later hb2
  clear hgrow2 hown2 own0 hr1
  go_wp2_with fail
  refine (chars_any ai ci zs w2 hrd2 hz hsz).mono ?_
  rintro e w3 ⟨al, cl, rfl, hrl, hb3, hfl, _⟩
  go_wp2_with fail
  refine (right_any ai ci zs w3 (hrd2.later hb3) hz).mono ?_
  rintro e w4 ⟨rfl, hb4⟩
  have hb34 := hb3.trans (hb4.mono hb3.size)
  have hrl4 := hrl.later hb4
  have hrb4 := hrb2.later hb34
  have hown4 := owns_later hown3 hb34
  have hb4' := hb2.trans (hb34.mono hb2.size)
  have hlt2 := hown3.lt
  clear hb3 hb4 hb34 hrl hrd2 hown3 hrb2
  rw [HL.out] at hown4 hlt2 ⊢
  by_cases h0 : len = 0
  · subst h0
    go_wp2
    refine wp_loop_rounds 1 ?_; rw [rounds_succ]
    go_wp2_with fail
    have call1 := refChars_any a cap zs w4 hrb4 hz hsz
    rw [HL.out] at call1
    refine call1.mono ?_
    rintro e w5 ⟨a5, c5, rfl, hr5, hb5, _⟩
    go_wp2_with fail
    refine (same_yes al a5 cl c5 (charsF zs) w5 (hrl4.later hb5) hr5).mono ?_
    rintro e w6 ⟨rfl, hb6⟩
    have hb56 := hb5.trans (hb6.mono hb5.size)
    have hr6 := hrb4.later hb56
    go_wp2_with fail
    have call2 := good_any a cap zs w6 hr6 hz hsz
    rw [HL.out] at call2
    refine call2.mono ?_
    rintro e w7 ⟨rfl, hb7⟩
    have hb57 := hb56.trans (hb7.mono hb56.size)
    go_wp2
    go_ret
    exact ⟨ret_bool (by simp), hb4'.trans (hb57.mono hb4'.size)⟩
  · obtain ⟨g, hg⟩ : ∃ g, ai = some ⟨g, 0, none⟩ := by
      rcases hown4.2 with ⟨h1, h2⟩ | ⟨g, cap', cur, h1, _⟩
      · exact absurd h2 h0
      · exact ⟨g, by injection h1⟩
    subst hg
    have hg1 := hlt2 g rfl
    have hg3 : w1.heap.size ≤ g ∧ g < w2.heap.size := hg1
    go_wp2
    go_loopw [21] (fun i wr => ∃ (k : Nat) (xs : List Value), k ≤ len ∧ i = .int .i64 k ∧ wr.ownsRow w1.heap.size 5 1 (.slice (some ⟨g, 0, none⟩) len ci) len xs ∧ Reads wr .i64 al cl (charsF zs) ∧ Reads wr .u8 a cap zs ∧ Below w.heap.size w wr) (fun i _ => len - (intOf i).toNat)
    case atStart => exact ⟨0, _, by omega, rfl, hown4, hrl4, hrb4, hb4'⟩
    case round =>
      obtain ⟨k, xs, hk, rfl, hown, hrl5, hrb5, hbl⟩ := hrel
      by_cases hlt : k < len
      · have hlt' : (k : Int) < (len : Int) := by omega
        have hxl : k < xs.length := by rw [hown.1]; omega
        have hcell := (hown.cellAt k (by omega)).trans (List.getElem?_eq_getElem hxl)
        have hfz := hown.frozenAt k
        have hst := hown.stored k (.int .u8 238)
        have hne1 : ∀ ad, a = some ad → some g ≠ some ad.block := by
          intro ad had e
          rcases hr.2.2 with h | ⟨b, off, hb, hat⟩
          · exact h0 (by rw [← HL.out, h]; rfl)
          · rw [hb] at had; cases had; have e2 : g = b := Option.some.inj e; have h3 := hat.1; have h4 := hb1.size; have h5 := hg3.1; omega
        have hne2 : ∀ ad, al = some ad → some g ≠ some ad.block := by
          intro ad had e
          cases e; have := hfl ad had; omega
        have hrl6 := hrl5.kept hst.2 hne2
        have hrb6 := hrb5.kept hst.2 hne1
        have hbl6 := hbl.setCell (p := ⟨g, k, none⟩) (by show w.heap.size ≤ g; have := hb1.size; omega) (.int .u8 238)
        have HST := Lib.hid hst; clear hst
        clear hne1 hne2
        go_wp2
        go_roundw
        case rel => exact ⟨k + 1, _, by omega, by go_num, HST.out.1, hrl6, hrb6, hbl6⟩
        case measure => simp [intOf]; omega
      · have hge' : (len : Int) ≤ (k : Int) := by omega
        go_wp2_with fail
        have call1 := refChars_any a cap zs wr hrb5 hz hsz
        rw [HL.out] at call1
        refine call1.mono ?_
        rintro e w5 ⟨a5, c5, rfl, hr5, hb5, _⟩
        go_wp2_with fail
        refine (same_yes al a5 cl c5 (charsF zs) w5 (hrl5.later hb5) hr5).mono ?_
        rintro e w6 ⟨rfl, hb6⟩
        have hb56 := hb5.trans (hb6.mono hb5.size)
        have hr6 := hrb5.later hb56
        go_wp2_with fail
        have call2 := good_any a cap zs w6 hr6 hz hsz
        rw [HL.out] at call2
        refine call2.mono ?_
        rintro e w7 ⟨rfl, hb7⟩
        have hb57 := hb56.trans (hb7.mono hb56.size)
        go_wp2
        go_ret
        exact ⟨ret_bool (by simp), hbl.trans (hb57.mono hbl.size)⟩

theorem lawReads_any (a : Option Addr) (cap : Nat) (zs : List Int) (w : World) (hr : Reads w .u8 a cap zs) (hnil : a = none → cap = 0) (hz : U8 zs) :
    Calls Try.prog 3 #[.slice a zs.length cap] w (LawPost w) := by
  by_cases hsm : zs.length ≤ 5000
  · exact lawReads_short a zs.length cap zs w rfl hsm hr hnil hz
  · exact lawReads_long a zs.length cap w (by omega)
end Go.Proofs.Ytmcboiopglpbkaa
