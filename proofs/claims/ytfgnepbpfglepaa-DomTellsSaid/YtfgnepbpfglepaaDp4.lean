/- Right attributes: the program's walk. -/
import Derived.Test.YtfgnepbpfglepaaDp3
namespace Go.Proofs.Ytfgnepbpfglepaa
open Go.RowKit Go.Maps
set_option linter.unusedVariables false
set_option linter.unusedSimpArgs false

set_option maxRecDepth 100000 in
set_option maxHeartbeats 4000000 in
theorem rightAttrs_any (l : List At3) (a : Option Addr) (n c : Nat) (w : World) (h : RdA (· < w.heap.size) w a n c l) (hsm : SmS l) (hn : n ≤ 1000000) : Calls Try.prog 82 #[.slice a n c] w (Told (.bool (attrsB l)) w) := by
  have hmm := @run_makeMap Try.prog
  have hm : n ≤ 9223372036854775807 := by omega
  have HN := Lib.hid h.1
  have HX := Lib.hid h
  have HSM := Lib.hid hsm
  clear h hsm
  go_enter Try.func82, Try.ntmps82
  go_wp2_with fail
  go_loopw [12] (fun i wr => ∃ k : Nat, k ≤ n ∧ i = .int .i64 k ∧ Hid (allTo (okA l) k = true) ∧ Hid (wr.ownsMap Try.prog 56 (unitElem (H := Unit)) w.heap.size k (setOf (H := Unit) (.agg []) (keysA (l.take k)))) ∧ Hid (Below w.heap.size w wr)) (fun i _ => n - (intOf i).toNat)
  case atStart => exact ⟨0, Nat.zero_le _, rfl, Lib.hid rfl, Lib.hid (by exact World.ownsMap_made _ _ _ _), Lib.hid ((Below.refl _ _).alloc (Nat.le_refl _) _)⟩
  case round =>
    obtain ⟨k, hk, rfl, hp, HO, HB⟩ := hrel
    by_cases hlt : k < n
    · obtain ⟨t, hx⟩ : ∃ t, l[k]? = some t := ⟨_, List.getElem?_eq_getElem (by rw [← HN.out]; exact hlt)⟩
      obtain ⟨b, off, rfl, hb, x0, x1, x2, _⟩ := HX.out.at k t hx
      rw [← cell_same (HB.out.block b hb)] at x0 x1 x2
      have ht := HSM.out t (List.mem_of_getElem? hx)
      have hkI : (0 : Int) ≤ (k : Int) := by omega
      have hkI2 : (k : Int) < (n : Int) := by omega
      have HXK := Lib.hid hx
      have hkey := key_some t.space t.name ht.1 ht.2.1
      have hhas := keys_has (l.take k) (fun u hu => HSM.out u (List.mem_of_mem_take hu)) t ht
      have hok2 : Hid (okA l k = (!(l.take k).any (fun u => oneN u t) && (rightS t.space && (nameS t.name && rightS t.val)))) := Lib.hid (by unfold okA; rw [hx])
      have hsnoc : Hid (setOf (H := Unit) (.agg []) (keysA (l.take (k + 1))) = (setOf (H := Unit) (.agg []) (keysA (l.take k))).put (keyF t.space t.name) (.agg [])) := Lib.hid (by rw [keysA_snoc l k t hx, setOf_snoc])
      -- the three new blocks
      obtain ⟨W1, hW1⟩ : ∃ W1, wr.alloc (.cells #[.string t.space, .string t.name, .string t.val] 56) = W1 := ⟨_, rfl⟩
      have hz1 : W1.heap.size = wr.heap.size + 1 := by rw [← hW1]; simp
      have B1 : Blk W1 wr.heap.size [.string t.space, .string t.name, .string t.val] 56 := by rw [← hW1]; exact Blk.alloc _ _
      have hb1 : Below w.heap.size w W1 := by rw [← hW1]; exact HB.out.alloc HB.out.size _
      have O1 : W1.ownsMap Try.prog 56 (unitElem (H := Unit)) w.heap.size k (setOf (H := Unit) (.agg []) (keysA (l.take k))) := by rw [← hW1]; exact HO.out.alloc _
      have C2 : Blk (W1.alloc (.cells #[.string t.space, .string t.name, .string ⟨#[]⟩] 56)) (wr.heap.size + 1) [.string t.space, .string t.name, .string ⟨#[]⟩] 56 := by rw [← hz1]; exact Blk.alloc _ _
      have O2 : (W1.alloc (.cells #[.string t.space, .string t.name, .string ⟨#[]⟩] 56)).ownsMap Try.prog 56 (unitElem (H := Unit)) w.heap.size k (setOf (H := Unit) (.agg []) (keysA (l.take k))) := O1.alloc _
      have hz2 : (W1.alloc (.cells #[.string t.space, .string t.name, .string ⟨#[]⟩] 56)).heap.size = wr.heap.size + 1 + 1 := by simp [hz1]
      obtain ⟨W3, hW3⟩ : ∃ W3, (W1.alloc (.cells #[.string t.space, .string t.name, .string ⟨#[]⟩] 56)).alloc (.cells #[] 144) = W3 := ⟨_, rfl⟩
      have B3 : Blk W3 wr.heap.size [.string t.space, .string t.name, .string t.val] 56 := by rw [← hW3]; exact (B1.alloc_old _).alloc_old _
      have C3 : Blk W3 (wr.heap.size + 1) [.string t.space, .string t.name, .string ⟨#[]⟩] 56 := by rw [← hW3]; exact C2.alloc_old _
      have hb3 : Below w.heap.size w W3 := by
        rw [← hW3]
        have h1 := hb1.alloc hb1.size (.cells #[.string t.space, .string t.name, .string ⟨#[]⟩] 56)
        exact h1.alloc h1.size _
      have O3 : W3.ownsMap Try.prog 56 (unitElem (H := Unit)) w.heap.size k (setOf (H := Unit) (.agg []) (keysA (l.take k))) := by rw [← hW3]; exact O2.alloc _
      have cb := B1.cell 0 _ rfl
      have cb1 := B1.cell 1 _ rfl
      have d0 := C2.cell 0 _ rfl
      have d1 := C2.cell 1 _ rfl
      have d2 := C2.cell 2 _ rfl
      have e0 := B3.cell 0 _ rfl
      have e1 := B3.cell 1 _ rfl
      have e2 := B3.cell 2 _ rfl
      have HB3 := Lib.hid B3
      have HC3 := Lib.hid C3
      have HO2 := Lib.hid O2
      have HO3 := Lib.hid O3
      have Hb3 := Lib.hid hb3
      clear hx B1 O1 hb1 C2 O2 B3 C3 hb3 O3
      have f1 := fun w => isRight_any t.space w ht.1
      have f2 := fun w => isName_any t.name w ht.2.1
      have f3 := fun w => isRight_any t.val w ht.2.2
      generalize (l.take k).any (fun u => oneN u t) = r0 at *
      generalize rightS t.space = r1 at *
      generalize nameS t.name = r2 at *
      generalize rightS t.val = r3 at *
      cases r0
      · cases r1
        · have hres := Lib.hid (show attrsB l = false from allTo_false (by rw [hok2.out]; first | rfl | simp) _ (by rw [← HN.out]; exact hlt))
          go_wp2_with (first
          | (at_lookup; refine wpList_lookup_own_unit _ rfl _ _ 143 rfl 56 144 TryattrLaw Try.underlying143 (TryzeroUnit _) w.heap.size k _ rfl HO2.out _ _ rfl hkey ?_)
          | (go_at_call 80; (with_reducible refine (f1 _).mono ?_); rintro e w4 ⟨rfl, hb4⟩; have H4 := Hb3.out.trans (hb4.mono Hb3.out.size); have B4 := HB3.out.later hb4 HB3.out.lt; have C4 := HC3.out.later hb4 HC3.out.lt; have e1 := B4.cell 1 _ rfl; have e2 := B4.cell 2 _ rfl; have O4 := HO3.out.kept (grown_of_below hb4) (by simp))
          | (go_at_call 81; (with_reducible refine (f2 _).mono ?_); rintro e w5 ⟨rfl, hb5⟩; have H5 := H4.trans (hb5.mono H4.size); have B5 := B4.later hb5 B4.lt; have C5 := C4.later hb5 C4.lt; have e2 := B5.cell 2 _ rfl; have O5 := O4.kept (grown_of_below hb5) (by simp))
          | (go_at_call 80; (with_reducible refine (f3 _).mono ?_); rintro e w6 ⟨rfl, hb6⟩; have H6 := H5.trans (hb6.mono H5.size); have C6 := C5.later hb6 C5.lt; have d0 := C6.cell 0 _ rfl; have d1 := C6.cell 1 _ rfl; have d2 := C6.cell 2 _ rfl; have O6 := O5.kept (grown_of_below hb6) (by simp))
          | (at_mapUpdate; refine wpList_mapUpdate_own _ rfl _ _ _ 143 rfl 56 144 TryattrLaw Try.underlying143 (unitElem (H := Unit)) w.heap.size k _ rfl O6 (by unfold maxLen; omega) _ _ _ rfl rfl hkey _ [] unitElem_mk ?_; intro w7 hown7 hgrow7; have O7 := Lib.hid hown7; have H7 := Lib.hid (H6.grown hgrow7 H6.size (fun j hj => by cases hj; exact Nat.le_refl _))))
          go_ret
          exact ⟨by rw [hres.out]; rfl, H4⟩
        · cases r2
          · have hres := Lib.hid (show attrsB l = false from allTo_false (by rw [hok2.out]; first | rfl | simp) _ (by rw [← HN.out]; exact hlt))
            go_wp2_with (first
          | (at_lookup; refine wpList_lookup_own_unit _ rfl _ _ 143 rfl 56 144 TryattrLaw Try.underlying143 (TryzeroUnit _) w.heap.size k _ rfl HO2.out _ _ rfl hkey ?_)
          | (go_at_call 80; (with_reducible refine (f1 _).mono ?_); rintro e w4 ⟨rfl, hb4⟩; have H4 := Hb3.out.trans (hb4.mono Hb3.out.size); have B4 := HB3.out.later hb4 HB3.out.lt; have C4 := HC3.out.later hb4 HC3.out.lt; have e1 := B4.cell 1 _ rfl; have e2 := B4.cell 2 _ rfl; have O4 := HO3.out.kept (grown_of_below hb4) (by simp))
          | (go_at_call 81; (with_reducible refine (f2 _).mono ?_); rintro e w5 ⟨rfl, hb5⟩; have H5 := H4.trans (hb5.mono H4.size); have B5 := B4.later hb5 B4.lt; have C5 := C4.later hb5 C4.lt; have e2 := B5.cell 2 _ rfl; have O5 := O4.kept (grown_of_below hb5) (by simp))
          | (go_at_call 80; (with_reducible refine (f3 _).mono ?_); rintro e w6 ⟨rfl, hb6⟩; have H6 := H5.trans (hb6.mono H5.size); have C6 := C5.later hb6 C5.lt; have d0 := C6.cell 0 _ rfl; have d1 := C6.cell 1 _ rfl; have d2 := C6.cell 2 _ rfl; have O6 := O5.kept (grown_of_below hb6) (by simp))
          | (at_mapUpdate; refine wpList_mapUpdate_own _ rfl _ _ _ 143 rfl 56 144 TryattrLaw Try.underlying143 (unitElem (H := Unit)) w.heap.size k _ rfl O6 (by unfold maxLen; omega) _ _ _ rfl rfl hkey _ [] unitElem_mk ?_; intro w7 hown7 hgrow7; have O7 := Lib.hid hown7; have H7 := Lib.hid (H6.grown hgrow7 H6.size (fun j hj => by cases hj; exact Nat.le_refl _))))
            go_ret
            exact ⟨by rw [hres.out]; rfl, H5⟩
          · cases r3
            · have hres := Lib.hid (show attrsB l = false from allTo_false (by rw [hok2.out]; first | rfl | simp) _ (by rw [← HN.out]; exact hlt))
              go_wp2_with (first
          | (at_lookup; refine wpList_lookup_own_unit _ rfl _ _ 143 rfl 56 144 TryattrLaw Try.underlying143 (TryzeroUnit _) w.heap.size k _ rfl HO2.out _ _ rfl hkey ?_)
          | (go_at_call 80; (with_reducible refine (f1 _).mono ?_); rintro e w4 ⟨rfl, hb4⟩; have H4 := Hb3.out.trans (hb4.mono Hb3.out.size); have B4 := HB3.out.later hb4 HB3.out.lt; have C4 := HC3.out.later hb4 HC3.out.lt; have e1 := B4.cell 1 _ rfl; have e2 := B4.cell 2 _ rfl; have O4 := HO3.out.kept (grown_of_below hb4) (by simp))
          | (go_at_call 81; (with_reducible refine (f2 _).mono ?_); rintro e w5 ⟨rfl, hb5⟩; have H5 := H4.trans (hb5.mono H4.size); have B5 := B4.later hb5 B4.lt; have C5 := C4.later hb5 C4.lt; have e2 := B5.cell 2 _ rfl; have O5 := O4.kept (grown_of_below hb5) (by simp))
          | (go_at_call 80; (with_reducible refine (f3 _).mono ?_); rintro e w6 ⟨rfl, hb6⟩; have H6 := H5.trans (hb6.mono H5.size); have C6 := C5.later hb6 C5.lt; have d0 := C6.cell 0 _ rfl; have d1 := C6.cell 1 _ rfl; have d2 := C6.cell 2 _ rfl; have O6 := O5.kept (grown_of_below hb6) (by simp))
          | (at_mapUpdate; refine wpList_mapUpdate_own _ rfl _ _ _ 143 rfl 56 144 TryattrLaw Try.underlying143 (unitElem (H := Unit)) w.heap.size k _ rfl O6 (by unfold maxLen; omega) _ _ _ rfl rfl hkey _ [] unitElem_mk ?_; intro w7 hown7 hgrow7; have O7 := Lib.hid hown7; have H7 := Lib.hid (H6.grown hgrow7 H6.size (fun j hj => by cases hj; exact Nat.le_refl _))))
              go_ret
              exact ⟨by rw [hres.out]; rfl, H6⟩
            · have hst := Lib.hid (show allTo (okA l) (k + 1) = true from by rw [allTo_succ, hp.out, hok2.out]; rfl)
              go_wp2_with (first
          | (at_lookup; refine wpList_lookup_own_unit _ rfl _ _ 143 rfl 56 144 TryattrLaw Try.underlying143 (TryzeroUnit _) w.heap.size k _ rfl HO2.out _ _ rfl hkey ?_)
          | (go_at_call 80; (with_reducible refine (f1 _).mono ?_); rintro e w4 ⟨rfl, hb4⟩; have H4 := Hb3.out.trans (hb4.mono Hb3.out.size); have B4 := HB3.out.later hb4 HB3.out.lt; have C4 := HC3.out.later hb4 HC3.out.lt; have e1 := B4.cell 1 _ rfl; have e2 := B4.cell 2 _ rfl; have O4 := HO3.out.kept (grown_of_below hb4) (by simp))
          | (go_at_call 81; (with_reducible refine (f2 _).mono ?_); rintro e w5 ⟨rfl, hb5⟩; have H5 := H4.trans (hb5.mono H4.size); have B5 := B4.later hb5 B4.lt; have C5 := C4.later hb5 C4.lt; have e2 := B5.cell 2 _ rfl; have O5 := O4.kept (grown_of_below hb5) (by simp))
          | (go_at_call 80; (with_reducible refine (f3 _).mono ?_); rintro e w6 ⟨rfl, hb6⟩; have H6 := H5.trans (hb6.mono H5.size); have C6 := C5.later hb6 C5.lt; have d0 := C6.cell 0 _ rfl; have d1 := C6.cell 1 _ rfl; have d2 := C6.cell 2 _ rfl; have O6 := O5.kept (grown_of_below hb6) (by simp))
          | (at_mapUpdate; refine wpList_mapUpdate_own _ rfl _ _ _ 143 rfl 56 144 TryattrLaw Try.underlying143 (unitElem (H := Unit)) w.heap.size k _ rfl O6 (by unfold maxLen; omega) _ _ _ rfl rfl hkey _ [] unitElem_mk ?_; intro w7 hown7 hgrow7; have O7 := Lib.hid hown7; have H7 := Lib.hid (H6.grown hgrow7 H6.size (fun j hj => by cases hj; exact Nat.le_refl _))))
              go_roundw
              case rel => exact ⟨k + 1, by omega, by go_num, hst, Lib.hid (by rw [hsnoc.out]; exact O7.out), H7⟩
              case measure => simp [intOf]; omega
      · have hres := Lib.hid (show attrsB l = false from allTo_false (by rw [hok2.out]; first | rfl | simp) _ (by rw [← HN.out]; exact hlt))
        go_wp2_with (first
          | (at_lookup; refine wpList_lookup_own_unit _ rfl _ _ 143 rfl 56 144 TryattrLaw Try.underlying143 (TryzeroUnit _) w.heap.size k _ rfl HO2.out _ _ rfl hkey ?_)
          | (go_at_call 80; (with_reducible refine (f1 _).mono ?_); rintro e w4 ⟨rfl, hb4⟩; have H4 := Hb3.out.trans (hb4.mono Hb3.out.size); have B4 := HB3.out.later hb4 HB3.out.lt; have C4 := HC3.out.later hb4 HC3.out.lt; have e1 := B4.cell 1 _ rfl; have e2 := B4.cell 2 _ rfl; have O4 := HO3.out.kept (grown_of_below hb4) (by simp))
          | (go_at_call 81; (with_reducible refine (f2 _).mono ?_); rintro e w5 ⟨rfl, hb5⟩; have H5 := H4.trans (hb5.mono H4.size); have B5 := B4.later hb5 B4.lt; have C5 := C4.later hb5 C4.lt; have e2 := B5.cell 2 _ rfl; have O5 := O4.kept (grown_of_below hb5) (by simp))
          | (go_at_call 80; (with_reducible refine (f3 _).mono ?_); rintro e w6 ⟨rfl, hb6⟩; have H6 := H5.trans (hb6.mono H5.size); have C6 := C5.later hb6 C5.lt; have d0 := C6.cell 0 _ rfl; have d1 := C6.cell 1 _ rfl; have d2 := C6.cell 2 _ rfl; have O6 := O5.kept (grown_of_below hb6) (by simp))
          | (at_mapUpdate; refine wpList_mapUpdate_own _ rfl _ _ _ 143 rfl 56 144 TryattrLaw Try.underlying143 (unitElem (H := Unit)) w.heap.size k _ rfl O6 (by unfold maxLen; omega) _ _ _ rfl rfl hkey _ [] unitElem_mk ?_; intro w7 hown7 hgrow7; have O7 := Lib.hid hown7; have H7 := Lib.hid (H6.grown hgrow7 H6.size (fun j hj => by cases hj; exact Nat.le_refl _))))
        go_ret
        exact ⟨by rw [hres.out]; rfl, Hb3.out⟩
    · have hkI : ¬ (k : Int) < (n : Int) := by omega
      obtain rfl : k = n := by omega
      have hres := Lib.hid (show attrsB l = true from by unfold attrsB; rw [← HN.out]; exact hp.out)
      go_wp2
      go_ret
      exact ⟨by rw [hres.out]; rfl, HB.out⟩
end Go.Proofs.Ytfgnepbpfglepaa
