/- A tree's rows: walks. -/
import Derived.Test.YtfgnepbpfglepaaDo7
namespace Go.Proofs.Ytfgnepbpfglepaa
open Go.RowKit
set_option linter.unusedVariables false
set_option linter.unusedSimpArgs false

def vI (zs : List Nat) : List Value := zs.map fun j : Nat => .int .i64 (j : Int)
/-- New memory that reads as some places. -/
def RowP (zs : List Nat) (w : World) (e : Ending) (w' : World) : Prop := ∃ a c, e = .returned (.slice a zs.length c) ∧ Reads w' .i64 a c (zs.map fun j : Nat => (j : Int)) ∧ Below w.heap.size w w'
def rowI (xs : List Nd) (p : Int) : List Nat := if elemB xs p then rowF xs p.toNat else []

/-- A row of one's own, as cells that are known. -/
theorem own_cells {w : World} {base : Nat} {e : TypeId} {v : Value} {acc : List Nat} (h : w.ownsRow base e 1 v acc.length (vI acc)) (hp : 0 < acc.length) :
    ∃ g cap cs, v = .slice (some ⟨g, 0, none⟩) acc.length cap ∧ base ≤ g ∧ Blk w g cs e ∧ acc.length ≤ cap ∧ cap ≤ maxLen ∧ cs.length = cap ∧ ∀ (j : Nat) (u : Value), (vI acc)[j]? = some u → cs[j]? = some u := by
  obtain ⟨g, cap, cs, h1, h2, h3, h4, h5, h6, h7⟩ := own_get h hp
  exact ⟨g, cap, cs, h1, h2, h3, h4, h5, by omega, h7⟩

set_option maxRecDepth 100000 in
set_option maxHeartbeats 4000000 in
theorem reverse_any {w : World} {base : Nat} {v : Value} {acc : List Nat} (h : w.ownsRow base 3 1 v acc.length (vI acc)) (hbl : acc.length ≤ 1000000) :
    ∃ a c, v = .slice a acc.length c ∧ Calls Try.prog 48 #[v] w fun e w' => e = .returned (.tuple #[]) ∧ Reads w' .i64 a c (acc.reverse.map fun j : Nat => (j : Int)) ∧ Below base w w' := by
  rcases Nat.eq_zero_or_pos acc.length with h0 | hp
  · have h0' : acc = [] := List.length_eq_zero_iff.1 h0
    subst h0'
    obtain ⟨ad, cap, rfl, hc, hn⟩ := own_none h
    refine ⟨ad, cap, rfl, (Try.slices_Reverse_int_empty ad cap w).mono ?_⟩
    rintro e w' ⟨rfl, rfl⟩
    exact ⟨rfl, ⟨Nat.zero_le _, hc, .inl rfl⟩, Below.refl _ _⟩
  · obtain ⟨g, cap, cs, rfl, hb, hB, h4, h5, h6, h7⟩ := own_cells h hp
    have hcs : ∀ (j : Nat), j < acc.length → w.cell? ⟨g, 0 + j, none⟩ = some (.int .i64 ((acc.map fun j : Nat => (j : Int)).getD j 0)) := fun j hj => by
      rw [Nat.zero_add]
      refine hB.cell j _ (h7 j _ ?_)
      unfold vI
      rw [List.getElem?_map, List.getD_eq_getElem?_getD, List.getElem?_map, List.getElem?_eq_getElem hj]
      rfl
    refine ⟨_, cap, rfl, (Try.slices_Reverse_int_cells g 0 acc.length cap (acc.map fun j : Nat => (j : Int)) w (by rw [List.length_map]; exact Nat.le_refl _) (by omega) (fun j hj => hcs j (by rwa [List.length_map] at hj)) (fun j hj => hB.frozen _)).mono ?_⟩
    rintro e w' ⟨rfl, q, rfl⟩
    have hB2 : Blk ((w.drewN q).setCells g 0 ((List.take acc.length (acc.map fun j : Nat => (j : Int))).reverse.map (Value.int .i64))) g _ _ := Blk.setCells _ _ 0 _ (hB.drewN q)
    refine ⟨rfl, ⟨by simp only [List.length_map, List.length_reverse]; exact h4, h5, .inr ⟨g, 0, rfl, hB2.lt, fun j hj => ?_⟩⟩, below_setCells hb _ 0 _ (below_drewN (Below.refl _ _) q)⟩
    rw [Nat.zero_add]
    refine hB2.cell j _ ?_
    have hlen : ((List.take acc.length (acc.map fun j : Nat => (j : Int))).reverse.map (Value.int .i64)).length = acc.length := by simp
    have hj' : j < acc.length := by simpa using hj
    have := setL_in ((List.take acc.length (acc.map fun j : Nat => (j : Int))).reverse.map (Value.int .i64)) cs 0 j (by rw [hlen]; exact hj') (by rw [hlen]; omega)
    rw [Nat.zero_add] at this
    rw [this, List.getElem?_map, List.take_of_length_le (by rw [List.length_map]; exact Nat.le_refl _), ← List.map_reverse]
    rw [List.getElem?_eq_getElem (by simpa using hj')]
    rfl

theorem vI_snoc (acc : List Nat) (k : Nat) : vI (acc ++ [k]) = vI acc ++ [.int .i64 (k : Int)] := by unfold vI; rw [List.map_append]; rfl

set_option maxRecDepth 100000 in
set_option maxHeartbeats 4000000 in
theorem row_any {w : World} {B t b r n : Nat} {xs : List Nd} (h : TreeAt w B t b r n xs) (hR : RightP xs) (hn : n ≤ 1000000) (p : Int) : Calls Try.prog 22 #[.pointer (some ⟨t, 0, none⟩), .int .i64 p] w (RowP (rowI xs p) w) := by
  obtain ⟨i0, hi, hz⟩ := Option.map_eq_some_iff.1 TryinfoIntR
  simp only [Prod.mk.injEq] at hz
  obtain ⟨hz0, hz1, hz2⟩ := hz
  have f0 := isElement_any h p
  have HT := Lib.hid h
  have HN := Lib.hid h.doc.1
  unfold rowI
  cases he : elemB xs p with
  | false =>
    rw [he] at f0
    rw [if_neg (by decide)]
    clear h he
    go_enter Try.func22, Try.ntmps22
    go_wp2_with (go_at_call 43; (refine f0.mono ?_); rintro e w1 ⟨rfl, hb1⟩)
    refine wp_loop_rounds 1 ?_
    rw [rounds_succ]
    go_wp2_with fail
    refine (Try.slices_Reverse_int_empty none 0 _).mono ?_
    rintro e w2 ⟨rfl, rfl⟩
    go_wp2
    go_ret
    exact ⟨none, 0, rfl, ⟨Nat.zero_le _, by unfold maxLen; omega, .inl rfl⟩, hb1⟩
  | true =>
    rw [he] at f0
    rw [if_pos rfl]
    have hex : ∃ (k : Nat) (x : Nd), p = (k : Int) ∧ xs[k]? = some x ∧ x.kind = 1 := by
      rcases atI_cases xs p with ⟨k, x, rfl, hx, hk, ha⟩ | ⟨ha, hp⟩
      · unfold elemB at he
        rw [ha] at he
        exact ⟨k, x, rfl, hx, of_decide_eq_true he⟩
      · unfold elemB at he
        rw [ha] at he
        cases he
    obtain ⟨k0, x0, rfl, hx0, hk0⟩ := hex
    have hF : Hid (rowF xs ((k0 : Nat) : Int).toNat = (desc xs x0.par (k0 + 1)).reverse) := Lib.hid (by
      rw [Int.toNat_natCast]
      unfold rowF
      rw [hx0]
      simp only
      rw [if_pos hk0])
    have hFl : Hid ((desc xs x0.par (k0 + 1)).length ≤ n) := Lib.hid (by
      have := desc_len xs x0.par (k0 + 1)
      have := (List.getElem?_eq_some_iff.1 hx0).1
      rw [HN.out]
      omega)
    obtain ⟨F, hFe⟩ : ∃ F, desc xs x0.par (k0 + 1) = F := ⟨_, rfl⟩
    rw [hFe] at hF hFl
    obtain ⟨P, hP⟩ : ∃ P, x0.par = P := ⟨_, rfl⟩
    have HX0 := Lib.hid (And.intro hx0 (And.intro hk0 (And.intro hP (by rw [← hP]; exact hFe : desc xs P (k0 + 1) = F))))
    have HR := Lib.hid hR
    clear h he hx0 hk0 hFe hP hR
    go_enter Try.func22, Try.ntmps22
    go_wp2_with (go_at_call 43; (refine f0.mono ?_); rintro e w1 ⟨rfl, hb1⟩)
    have HB1 := Lib.hid hb1
    clear hb1
    go_loopw [1, 5, 6] (fun s1 s5 s6 wr => ∃ (m : Int) (o : Bool) (acc : List Nat), s1 = .int .i64 m ∧ s6 = .bool o ∧ Hid (wr.ownsRow w.heap.size 3 1 s5 acc.length (vI acc)) ∧ Hid (Below w.heap.size w wr) ∧ Hid ((o = false ∧ acc = F) ∨ (o = true ∧ ∃ (k : Nat) (x : Nd), m = (k : Int) ∧ xs[k]? = some x ∧ x.kind = 1 ∧ x.par = P ∧ acc ++ desc xs P (k + 1) = F))) (fun s1 s5 s6 _ => match s6 with | .bool true => (intOf s1).toNat + 1 | _ => 0)
    case atStart => exact ⟨(k0 : Int), true, [], rfl, rfl, Lib.hid (by show World.ownsRow w1 w.heap.size 3 1 _ 0 []; exact World.ownsRow_nil w1 w.heap.size 3 1), HB1, Lib.hid (.inr ⟨rfl, k0, x0, rfl, HX0.out.1, HX0.out.2.1, HX0.out.2.2.1, by rw [List.nil_append]; exact HX0.out.2.2.2⟩)⟩
    case round =>
      obtain ⟨m, o, acc, rfl, rfl, HO, HW, HI⟩ := hrel
      cases o with
      | false =>
        have hacc : acc = F := by
          rcases HI.out with h | h
          · exact h.2
          · cases h.1
        subst hacc
        obtain ⟨a, c, rfl, hrev⟩ := reverse_any HO.out (by have := hFl.out; omega)
        clear HI
        go_wp2_with fail
        refine hrev.mono ?_
        rintro e w2 ⟨rfl, hrd, hb2⟩
        go_wp2
        go_ret
        refine ⟨a, c, ?_, ?_, HW.out.trans hb2⟩
        · rw [hF.out, List.length_reverse]; rfl
        · rw [hF.out]; exact hrd
      | true =>
        have hI : ∃ (k : Nat) (x : Nd), m = (k : Int) ∧ xs[k]? = some x ∧ x.kind = 1 ∧ x.par = P ∧ acc ++ desc xs P (k + 1) = F := by
          rcases HI.out with h | h
          · cases h.1
          · exact h.2
        obtain ⟨k, x, rfl, hx, hk, hP, hD⟩ := hI
        clear HI
        have hal : acc.length + 1 ≤ n := by
          have h1 := hFl.out
          rw [← hD, List.length_append, desc_succ, if_pos (by rw [← hP]; exact hit_of hx hk), List.length_cons] at h1
          omega
        have hst : Hid ((aheadF xs k = -1 ∧ acc ++ [k] = F) ∨ (∃ j y, j < k ∧ aheadF xs k = (j : Int) ∧ xs[j]? = some y ∧ y.kind = 1 ∧ y.par = P ∧ (acc ++ [k]) ++ desc xs P (j + 1) = F)) := Lib.hid (by
          have hh := ahead_step HR.out hx hk
          rw [hP] at hh
          rw [desc_succ, if_pos (by rw [← hP]; exact hit_of hx hk)] at hD
          rcases hh with ⟨h1, h2⟩ | ⟨j, y, hj, h1, h2, h3, h4, h5⟩
          · exact .inl ⟨h1, by rw [← hD, h2]⟩
          · exact .inr ⟨j, y, hj, h1, h2, h3, h4, by rw [← hD, h5, List.append_assoc]; rfl⟩)
        have hE : elemB xs (k : Int) = true := by unfold elemB; rw [atI_nat, hx]; exact decide_eq_true hk
        have fA : ∀ w', Below w.heap.size w w' → Calls Try.prog 23 #[.pointer (some ⟨t, 0, none⟩), .int .i64 (k : Int)] w' (Told (tupV (aheadF xs k)) w') := fun w' hb => by
          have := ahead_any (HT.out.later hb) (k : Int)
          unfold aheadI at this
          rw [hE, if_pos rfl, Int.toNat_natCast] at this
          exact this
        have HA := Lib.hid fA
        clear hx hk hP hD hE fA
        go_wp2_with (at_builtin; refine wpList_append_own _ rfl _ _ 37 rfl w.heap.size 3 i0 (.int .i64 0) 1 8 Try.underlying37 hi hz0 hz1 hz2 rfl (by decide) _ _ _ rfl (HO.out.alloc _) ⟨wr.heap.size, 0, none⟩ 1 1 [.int .i64 (k : Int)] rfl rfl (cell_one_new _ _ _) (fun x hx => by simp at hx; subst hx; rfl) (by unfold maxLen; omega) (by omega) (by have := HW.out.size; simp; omega) ?_; intro v' w2 hown2 hgrow2 _)
        have hb2 := (HW.out.alloc HW.out.size (.cells #[.int .i64 (k : Int)] 3)).grown hgrow2 (by have := HW.out.size; simp; omega) (fun k hk => own_base HO.out k hk)
        have hown3 : Hid (w2.ownsRow w.heap.size 3 1 v' (acc ++ [k]).length (vI (acc ++ [k]))) := Lib.hid (by rw [vI_snoc, List.length_append]; exact hown2)
        have fA := HA.out w2 hb2
        have Hb2 := Lib.hid hb2
        clear hb2 hown2 hgrow2
        obtain ⟨z, o2, hz⟩ := tupV_is (aheadF xs k)
        have HZ := Lib.hid hz
        rw [hz] at fA
        clear hz
        refine fA.mono ?_
        rintro e w3 ⟨rfl, hb3⟩
        have hb4 := Hb2.out.trans (hb3.mono Hb2.out.size)
        have Hb4 := Lib.hid hb4
        have hown4 := Lib.hid (owns_later hown3.out hb3)
        clear hb3 hb4 fA
        have hfin : Hid ((o2 = false ∧ acc ++ [k] = F) ∨ (o2 = true ∧ z.toNat < k ∧ ∃ (j : Nat) (y : Nd), z = (j : Int) ∧ xs[j]? = some y ∧ y.kind = 1 ∧ y.par = P ∧ (acc ++ [k]) ++ desc xs P (j + 1) = F)) := Lib.hid (by
          have h1 := HZ.out
          rcases hst.out with ⟨h2, h3⟩ | ⟨j, y, hj, h2, h3, h4, h5, h6⟩
          · rw [h2, tupV_none] at h1
            simp only [Value.tuple.injEq] at h1
            have h1 := congrArg Array.toList h1
            simp at h1
            exact .inl ⟨h1.2, h3⟩
          · rw [h2] at h1
            unfold tupV at h1
            rw [if_neg (by omega)] at h1
            simp only [Value.tuple.injEq] at h1
            have h1 := congrArg Array.toList h1
            simp at h1
            exact .inr ⟨h1.2, by omega, j, y, h1.1.symm, h3, h4, h5, h6⟩)
        go_wp2
        go_roundw
        case rel =>
          refine ⟨z, o2, acc ++ [k], rfl, rfl, hown4, Hb4, Lib.hid ?_⟩
          rcases hfin.out with h | ⟨h1, _, h2⟩
          · exact .inl h
          · exact .inr ⟨h1, h2⟩
        case measure =>
          rcases hfin.out with h | ⟨h1, h2, _⟩
          · rw [h.1]; simp [intOf]
          · rw [h1]; simp [intOf]; omega
end Go.Proofs.Ytfgnepbpfglepaa
