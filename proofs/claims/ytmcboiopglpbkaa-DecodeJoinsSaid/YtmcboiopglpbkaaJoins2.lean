/- DecodeJoins: the law's walk. -/
import Derived.Test.YtmcboiopglpbkaaJoins
import Derived.Test.YtmcboiopglpbkaaAppFull
namespace Go.Proofs.Ytmcboiopglpbkaa
open Go.RowKit

set_option maxHeartbeats 1000000 in
theorem lawJoins_long (a b : Option Addr) (la ca lb cb : Nat) (w : World) (hl : 1000 < la ∨ (la ≤ 1000 ∧ 1000 < lb)) :
    Calls Try.prog 7 #[.slice a la ca, .slice b lb cb] w (LawPost w) := by
  rcases hl with hl | ⟨hl, hl'⟩
  all_goals
    go_enter Try.func7, Try.ntmps7
    go_wp2_with fail
    refine (speaks_any _).mono ?_
    rintro e w1 ⟨rfl, hb1⟩
    go_wp2
    go_ret
    exact ⟨rfl, hb1⟩

set_option maxHeartbeats 1000000 in
theorem lawJoins_wrong (a b : Option Addr) (la ca lb cb : Nat) (xs : List Int) (w : World) (hla : xs.length = la) (hl : la ≤ 1000) (hl' : lb ≤ 1000) (hr : Reads w .u8 a ca xs) (hz : U8 xs) (hno : rightF xs = false ∨ la = 0) :
    Calls Try.prog 7 #[.slice a la ca, .slice b lb cb] w (LawPost w) := by
  have HL := Lib.hid hla; clear hla
  rcases hr' : rightF xs with _ | _
  · have HR := Lib.hid hr'; clear hr' hno
    go_enter Try.func7, Try.ntmps7
    go_wp2_with fail
    refine (speaks_any _).mono ?_
    rintro e w1 ⟨rfl, hb1⟩
    go_wp2_with fail
    have call1 := good_any a ca xs w1 (hr.later hb1) hz (by rw [HL.out]; omega)
    rw [HL.out, HR.out] at call1
    refine call1.mono ?_
    rintro e w2 ⟨rfl, hb2⟩
    go_wp2
    go_ret
    exact ⟨rfl, hb1.trans (hb2.mono hb1.size)⟩
  · have h0 : la = 0 := by
      rcases hno with h | h
      · rw [hr'] at h; cases h
      · exact h
    have HR := Lib.hid hr'; clear hr' hno
    subst h0
    go_enter Try.func7, Try.ntmps7
    go_wp2_with fail
    refine (speaks_any _).mono ?_
    rintro e w1 ⟨rfl, hb1⟩
    go_wp2_with fail
    have call1 := good_any a ca xs w1 (hr.later hb1) hz (by rw [HL.out]; omega)
    rw [HL.out, HR.out] at call1
    refine call1.mono ?_
    rintro e w2 ⟨rfl, hb2⟩
    go_wp2
    go_ret
    exact ⟨rfl, hb1.trans (hb2.mono hb1.size)⟩

theorem size_alloc_drew (w : World) (o : Obj) : (w.drew.alloc o).heap.size = w.heap.size + 1 := by simp
theorem chars_any' (a : Option Addr) (cap n : Nat) (zs : List Int) (w : World) (hn : zs.length = n) (hr : Reads w .u8 a cap zs) (hz : U8 zs) (hsm : zs.length ≤ 1000000) :
    Calls Try.prog 10 #[.slice a n cap] w (CharsPost zs w) := by
  subst hn; exact chars_any a cap zs w hr hz hsm

set_option maxHeartbeats 4000000 in
theorem lawJoins_main (b off la ca : Nat) (b2 : Option Addr) (lb cb : Nat) (xs ys : List Int) (w : World) (hla : xs.length = la) (hlb : ys.length = lb) (hl : la ≤ 1000) (hl' : lb ≤ 1000) (h1 : 1 ≤ la)
    (hr : Reads w .u8 (some ⟨b, off, none⟩) ca xs) (hr2 : Reads w .u8 b2 cb ys) (hnil : b2 = none → cb = 0) (hz : U8 xs) (hz2 : U8 ys) (hright : rightF xs = true) :
    Calls Try.prog 7 #[.slice (some ⟨b, off, none⟩) la ca, .slice b2 lb cb] w (LawPost w) := by
  obtain ⟨i5, hi5, hz50, hz51, hz52⟩ := info_parts Try.info5
  obtain ⟨i3, hi3, hz30, hz31, hz32⟩ := info_parts Try.info3
  have HJ := Lib.hid (joins xs ys hz hz2 (by intro h; rw [h] at hla; simp at hla; omega) hright)
  have HX := Lib.hid (show charsF (120 :: ys) = 120 :: rawF ys from by rw [charsF_raw, show (120 :: ys) = putF 120 ++ ys from rfl, rawF_put 120 (by decide) ys hz2, dropMark, if_neg (by omega)])
  have hlx := charsF_len xs
  have hly := rawF_len _ ys (Nat.le_refl _)
  rw [hla] at hlx
  rw [hlb] at hly
  have HLA := Lib.hid hla; clear hla
  have HLB := Lib.hid hlb; clear hlb
  have HR := Lib.hid hright; clear hright
  have HNil := Lib.hid hnil; clear hnil
  have hla0 : ((la : Int) == 0) = false := by rw [beq_eq_false_iff_ne]; omega
  have kc := fun (w : World) (C : Array Value) (n c : Nat) => Lib.run_convert_bytes_const (P := Try.prog) w 22 5 C n c Try.underlying22 Try.underlying5
  go_enter Try.func7, Try.ntmps7
  go_wp2_with fail
  refine (speaks_any _).mono ?_
  rintro e w1 ⟨rfl, hb1⟩
  have hr_1 := hr.later hb1
  go_wp2_with fail
  have call1 := good_any (some ⟨b, off, none⟩) ca xs w1 hr_1 hz (by rw [HLA.out]; omega)
  rw [HLA.out, HR.out] at call1
  refine call1.mono ?_
  rintro e w2 ⟨rfl, hb2⟩
  clear call1
  have hb2' := hb1.trans (hb2.mono hb1.size)
  have hr_2 := hr.later hb2'
  go_wp2_with fail
  have call2 := chars_any (some ⟨b, off, none⟩) ca xs w2 hr_2 hz (by rw [HLA.out]; omega)
  rw [HLA.out] at call2
  refine call2.mono ?_
  rintro e w3 ⟨ax, cx, rfl, hrx, hb3, _, hnilx⟩
  have HNX0 := Lib.hid hnilx; clear hnilx
  clear call2
  have hb3' := hb2'.trans (hb3.mono hb2'.size)
  have hr2_3 := (hr2.later hb3').later ((Below.refl _ w3).alloc (Nat.le_refl _) (.cells #[.int .u8 120] 5 (1, 2)))
  have at0 : At (w3.alloc (.cells #[.int .u8 120] 5 (1, 2))) .u8 w3.heap.size 0 [120] := by
    refine ⟨by simp, fun j hj => ?_⟩
    obtain rfl : j = 0 := by simpa using hj
    rw [cell_of_row _ w3.heap.size 0 #[.int .u8 120] 5 (1, 2) (heap_alloc_new w3 _)]; rfl
  have hz3 : U8 ([120] ++ ys) := by intro z hz; rcases List.mem_append.1 hz with h | h; (simp at h; omega); exact hz2 z h
  go_wp2_with (at_builtin; refine wpList_append_full rfl _ _ 22 rfl 5 i5 .u8 1 Try.underlying22 hi5 hz50 hz51 hz52 w3.heap.size 0 1 [120] rfl rfl at0 (by unfold maxLen; omega) b2 lb cb ys HLB.out rfl hr2_3 HNil.out (by unfold maxLen; omega) (by omega) ?_; intro a4 c4 w4 hr4 hb4 hnil4)
  have hb4' : Below w.heap.size w w4 := (hb3'.alloc hb3'.size _).trans (hb4.mono (by have := hb3'.size; simp; omega))
  have hb34 : Below w3.heap.size w3 w4 := ((Below.refl _ w3).alloc (Nat.le_refl _) _).trans (hb4.mono (by simp))
  have call3 := chars_any a4 c4 ([120] ++ ys) w4 hr4 hz3 (by rw [List.length_append, HLB.out]; simp; omega)
  rw [show (([120] : List Int) ++ ys).length = 1 + lb from by rw [List.length_append, HLB.out]; rfl] at call3
  refine call3.mono ?_
  rintro e w5 ⟨ay, cy, rfl, hry, hb5, _⟩
  clear call3
  have HX2 : Hid (charsF ([120] ++ ys) = 120 :: rawF ys) := HX
  rw [HX2.out] at hry ⊢
  have hb5' := hb4'.trans (hb5.mono hb4'.size)
  have hrx5 := hrx.later (hb34.trans (hb5.mono hb34.size))
  clear hr2_3 at0 hr4 hb3 hb4 hb34 hb5
  have hr_5 := hr.later hb5'
  have hr2_5 := hr2.later hb5'
  have hab : (xs ++ ys).length = la + lb := by rw [List.length_append, HLA.out, HLB.out]
  have hzab : U8 (xs ++ ys) := fun z h => by
    rcases List.mem_append.1 h with h | h
    · exact hz z h
    · exact hz2 z h
  have HJ2 : Hid (charsF (xs ++ ys) = charsF xs ++ rawF ys) := Lib.hid (by rw [HJ.out, HX.out]; rfl)
  obtain ⟨nx, hnx⟩ : ∃ n, (charsF xs).length = n := ⟨_, rfl⟩
  obtain ⟨ny, hny⟩ : ∃ n, (rawF ys).length = n := ⟨_, rfl⟩
  rw [hnx] at hlx
  rw [hny] at hly
  have HNX := Lib.hid hnx
  have HNY := Lib.hid hny
  rw [hnx, List.length_cons, hny]
  clear hnx hny
  obtain ⟨by_, offy, hay, haty⟩ := hry.2.2.resolve_left (by simp)
  subst hay
  have hcy := hry.1
  have hcy2 := hry.2.1
  unfold maxLen at hcy2
  rw [List.length_cons, HNY.out] at hcy
  by_cases hc1 : cy = 1
  · subst hc1
    have hn0 : ny = 0 := by omega
    subst hn0
    have hrt0 : Reads w5 .i64 (some ⟨by_, offy, none⟩) 0 (rawF ys) := ⟨by rw [HNY.out]; exact Nat.le_refl _, by simp, .inl (List.length_eq_zero_iff.1 HNY.out)⟩
    go_wp2_with fail
    go_region_law (first
      | (refine step_append_dst rfl (.tmp 34) (.tmp 35) 22 rfl w5.heap.size 5 i5 .u8 1 Try.underlying22 hi5 hz50 hz51 hz52 _ [] rfl (some ⟨b, off, none⟩) la ca xs HLA.out rfl (fun h => by cases h) (by unfold maxLen; simp; omega) (by simp; omega) ?_ ?_ ?_ ?_; (exact Dst.empty _ (by simp <;> omega)); (first | exact hr_5.later ((Below.refl _ w5).drew.alloc (by simp <;> omega) _) | exact hr_5.later (((Below.refl _ w5).drew.alloc (by simp <;> omega) _).alloc (by simp <;> omega) _)); (exact (by simp <;> omega)); intro v36 w36 hd36 hb36; have hb36' : Below w5.heap.size w5 w36 := (by first | exact ((Below.refl _ w5).drew.alloc (by simp <;> omega) _).trans hb36 | exact (((Below.refl _ w5).drew.alloc (by simp <;> omega) _).alloc (by simp <;> omega) _).trans hb36); have hs36 := hb36.size; (try simp at hs36); rw [List.nil_append] at hd36)
      | (refine step_append_dst rfl (.tmp 36) (.tmp 37) 22 rfl w5.heap.size 5 i5 .u8 1 Try.underlying22 hi5 hz50 hz51 hz52 _ xs rfl b2 lb cb ys HLB.out rfl HNil.out (by rw [HLA.out]; unfold maxLen; omega) (by rw [HLA.out]; omega) ?_ ?_ ?_ ?_; (first | exact hd36 | exact hd36.alloc _); (first | exact hr2_5.later hb36' | exact hr2_5.later (hb36'.alloc hb36'.size _)); (first | exact hb36'.size | exact (hb36'.alloc hb36'.size _).size); intro v38 w38 hd38 hb38; have hb38' : Below w5.heap.size w5 w38 := (by first | exact hb36'.trans hb38 | exact (hb36'.alloc hb36'.size _).trans hb38); have hs38 := hb38.size; (try simp at hs38); obtain ⟨a38, c38, hv38, hrd38, _⟩ := hd38.reads; rw [hab] at hv38; subst hv38)
      | (go_simp; go_at_call 10; refine (chars_any' a38 c38 _ (xs ++ ys) _ hab ?_ hzab (by rw [hab]; omega)).mono ?_; (first | exact hrd38 | exact hrd38.later ((Below.refl _ _).alloc (Nat.le_refl _) _)); rintro e w39 ⟨a39, c39, rfl, hr39, hb39, _⟩; rw [HJ2.out] at hr39; have hb39' : Below w5.heap.size w5 w39 := (by first | exact hb38'.trans (hb39.mono hb38'.size) | exact (hb38'.alloc hb38'.size _).trans (hb39.mono (hb38'.alloc hb38'.size _).size)); have hs39 := hb39.size; (try simp at hs39))
      | (refine step_append_dst rfl (.tmp 40) (.tmp 41) 24 rfl w39.heap.size 3 i3 .i64 8 Try.underlying24 hi3 hz30 hz31 hz32 _ [] rfl ax nx cx (charsF xs) HNX.out rfl HNX0.out (by simp only [List.length_nil, maxLen]; omega) (by simp only [List.length_nil]; omega) ?_ ?_ ?_ ?_; (exact Dst.empty _ (by first | omega | (simp; done) | (simp; omega))); (first | exact hrx5.later hb39' | exact hrx5.later (hb39'.alloc hb39'.size _)); (first | exact Nat.le_refl _ | exact ((Below.refl _ _).alloc (Nat.le_refl _) _).size); intro v42 w42 hd42 hb42; have hb42a : Below w39.heap.size w39 w42 := (by first | exact hb42 | exact ((Below.refl _ _).alloc (Nat.le_refl _) _).trans hb42); have hb42' := hb39'.trans (hb42a.mono hb39'.size); rw [List.nil_append] at hd42)
      | (refine step_append_dst rfl (.tmp 42) (.tmp 44) 24 rfl w39.heap.size 3 i3 .i64 8 Try.underlying24 hi3 hz30 hz31 hz32 _ (charsF xs) rfl (some ⟨by_, offy, none⟩) 0 0 (rawF ys) HNY.out rfl (fun h => by cases h) (by rw [HNX.out]; unfold maxLen; omega) (by rw [HNX.out]; omega) ?_ ?_ ?_ ?_; exact hd42; exact (hrt0).later hb42'; exact hb42a.size; intro v45 w45 hd45 hb45; have hb45a := hb42a.trans hb45; have hb45' := hb39'.trans (hb45a.mono hb39'.size); obtain ⟨a45, c45, hv45, hrd45, _⟩ := hd45.reads; subst hv45)
      | (go_simp; go_at_call 12; refine (same_yes' a39 a45 _ _ c39 c45 (charsF xs ++ rawF ys) w45 ?_ ?_ ?_ hrd45).mono ?_; (rw [HJ2.out]); (rw [List.length_append]); exact hr39.later hb45a; rintro e w46 ⟨rfl, hb46⟩; have hb46' := hb5'.trans ((hb45'.trans (hb46.mono hb45'.size)).mono hb5'.size)))
    all_goals
      go_wp2
      go_ret
      exact ⟨rfl, hb46'⟩
  · have hrt := reads_tail hry
    have hny1 : (1 : Int) ≤ (ny : Int) + 1 := by omega
    go_wp2_with fail
    go_region_law (first
      | (refine step_append_dst rfl (.tmp 34) (.tmp 35) 22 rfl w5.heap.size 5 i5 .u8 1 Try.underlying22 hi5 hz50 hz51 hz52 _ [] rfl (some ⟨b, off, none⟩) la ca xs HLA.out rfl (fun h => by cases h) (by unfold maxLen; simp; omega) (by simp; omega) ?_ ?_ ?_ ?_; (exact Dst.empty _ (by simp <;> omega)); (first | exact hr_5.later ((Below.refl _ w5).drew.alloc (by simp <;> omega) _) | exact hr_5.later (((Below.refl _ w5).drew.alloc (by simp <;> omega) _).alloc (by simp <;> omega) _)); (exact (by simp <;> omega)); intro v36 w36 hd36 hb36; have hb36' : Below w5.heap.size w5 w36 := (by first | exact ((Below.refl _ w5).drew.alloc (by simp <;> omega) _).trans hb36 | exact (((Below.refl _ w5).drew.alloc (by simp <;> omega) _).alloc (by simp <;> omega) _).trans hb36); have hs36 := hb36.size; (try simp at hs36); rw [List.nil_append] at hd36)
      | (refine step_append_dst rfl (.tmp 36) (.tmp 37) 22 rfl w5.heap.size 5 i5 .u8 1 Try.underlying22 hi5 hz50 hz51 hz52 _ xs rfl b2 lb cb ys HLB.out rfl HNil.out (by rw [HLA.out]; unfold maxLen; omega) (by rw [HLA.out]; omega) ?_ ?_ ?_ ?_; (first | exact hd36 | exact hd36.alloc _); (first | exact hr2_5.later hb36' | exact hr2_5.later (hb36'.alloc hb36'.size _)); (first | exact hb36'.size | exact (hb36'.alloc hb36'.size _).size); intro v38 w38 hd38 hb38; have hb38' : Below w5.heap.size w5 w38 := (by first | exact hb36'.trans hb38 | exact (hb36'.alloc hb36'.size _).trans hb38); have hs38 := hb38.size; (try simp at hs38); obtain ⟨a38, c38, hv38, hrd38, _⟩ := hd38.reads; rw [hab] at hv38; subst hv38)
      | (go_simp; go_at_call 10; refine (chars_any' a38 c38 _ (xs ++ ys) _ hab ?_ hzab (by rw [hab]; omega)).mono ?_; (first | exact hrd38 | exact hrd38.later ((Below.refl _ _).alloc (Nat.le_refl _) _)); rintro e w39 ⟨a39, c39, rfl, hr39, hb39, _⟩; rw [HJ2.out] at hr39; have hb39' : Below w5.heap.size w5 w39 := (by first | exact hb38'.trans (hb39.mono hb38'.size) | exact (hb38'.alloc hb38'.size _).trans (hb39.mono (hb38'.alloc hb38'.size _).size)); have hs39 := hb39.size; (try simp at hs39))
      | (refine step_append_dst rfl (.tmp 40) (.tmp 41) 24 rfl w39.heap.size 3 i3 .i64 8 Try.underlying24 hi3 hz30 hz31 hz32 _ [] rfl ax nx cx (charsF xs) HNX.out rfl HNX0.out (by simp only [List.length_nil, maxLen]; omega) (by simp only [List.length_nil]; omega) ?_ ?_ ?_ ?_; (exact Dst.empty _ (by first | omega | (simp; done) | (simp; omega))); (first | exact hrx5.later hb39' | exact hrx5.later (hb39'.alloc hb39'.size _)); (first | exact Nat.le_refl _ | exact ((Below.refl _ _).alloc (Nat.le_refl _) _).size); intro v42 w42 hd42 hb42; have hb42a : Below w39.heap.size w39 w42 := (by first | exact hb42 | exact ((Below.refl _ _).alloc (Nat.le_refl _) _).trans hb42); have hb42' := hb39'.trans (hb42a.mono hb39'.size); rw [List.nil_append] at hd42)
      | (refine step_append_dst rfl (.tmp 42) (.tmp 44) 24 rfl w39.heap.size 3 i3 .i64 8 Try.underlying24 hi3 hz30 hz31 hz32 _ (charsF xs) rfl (some ⟨by_, offy + 1, none⟩) ny (cy - 1) (rawF ys) HNY.out rfl (fun h => by cases h) (by rw [HNX.out]; unfold maxLen; omega) (by rw [HNX.out]; omega) ?_ ?_ ?_ ?_; exact hd42; exact (hrt).later hb42'; exact hb42a.size; intro v45 w45 hd45 hb45; have hb45a := hb42a.trans hb45; have hb45' := hb39'.trans (hb45a.mono hb39'.size); obtain ⟨a45, c45, hv45, hrd45, _⟩ := hd45.reads; subst hv45)
      | (go_simp; go_at_call 12; refine (same_yes' a39 a45 _ _ c39 c45 (charsF xs ++ rawF ys) w45 ?_ ?_ ?_ hrd45).mono ?_; (rw [HJ2.out]); (rw [List.length_append]); exact hr39.later hb45a; rintro e w46 ⟨rfl, hb46⟩; have hb46' := hb5'.trans ((hb45'.trans (hb46.mono hb45'.size)).mono hb5'.size)))
    all_goals
      go_wp2
      go_ret
      exact ⟨rfl, hb46'⟩

theorem lawJoins_any (a b : Option Addr) (ca cb : Nat) (xs ys : List Int) (w : World) (hr : Reads w .u8 a ca xs) (hr2 : Reads w .u8 b cb ys) (hnil : b = none → cb = 0) (hz : U8 xs) (hz2 : U8 ys) :
    Calls Try.prog 7 #[.slice a xs.length ca, .slice b ys.length cb] w (LawPost w) := by
  by_cases h1 : 1000 < xs.length
  · exact lawJoins_long a b _ ca _ cb w (.inl h1)
  by_cases h2 : 1000 < ys.length
  · exact lawJoins_long a b _ ca _ cb w (.inr ⟨by omega, h2⟩)
  by_cases h3 : rightF xs = true
  · by_cases h0 : xs = []
    · exact lawJoins_wrong a b _ ca _ cb xs w rfl (by omega) (by omega) hr hz (.inr (by rw [h0]; rfl))
    · obtain ⟨b1, off, hb, hat⟩ := hr.2.2.resolve_left h0
      subst hb
      exact lawJoins_main b1 off _ ca b _ cb xs ys w rfl rfl (by omega) (by omega) (List.length_pos_iff.2 h0) hr hr2 hnil hz hz2 h3
  · exact lawJoins_wrong a b _ ca _ cb xs w rfl (by omega) (by omega) hr hz (.inl (by simpa using h3))
end Go.Proofs.Ytmcboiopglpbkaa
