/- What is in one of two sets; all numbers: walks. -/
import Derived.Test.YtcfcoojnjdoeeaaNthY
namespace Go.Proofs.Ytcfcoojnjdoeeaa
open Go.RowKit

theorem isSet_al {w : World} {v : Value} {S : Nat → Bool} {h p : Nat} (s : IsSet w v S h p) (o : Obj) : IsSet (w.alloc o) v S h p := s.later ((Below.refl _ w).alloc (Nat.le_refl _) o)
theorem below_al {w w' : World} {o : Obj} (h : Below (w.alloc o).heap.size (w.alloc o) w') : Below w.heap.size w w' := ((Below.refl _ w).alloc (Nat.le_refl _) o).trans (h.mono (by simp))
theorem below_st {W w' : World} {b : Nat} {cs : List Value} {T : TypeId} (h : Below W.heap.size W w') (_z : Blk w' b cs T) (hb : W.heap.size ≤ b) (v0 v1 : Value) : Below W.heap.size W ((w'.setCell ⟨b, 0, none⟩ v0).setCell ⟨b, 1, none⟩ v1) :=
  (h.setCell (p := ⟨b, 0, none⟩) hb v0).setCell (p := ⟨b, 1, none⟩) hb v1

theorem below_of_held {W X Y : World} {c0 c1 c2 c3 : Prop} (h : c0 ∧ c1 ∧ c2 ∧ c3 ∧ Below W.heap.size W X) (hN : Below X.heap.size X Y) : Below W.heap.size W Y := h.2.2.2.2.trans (hN.mono h.2.2.2.2.size)
theorem below_of_held2 {W X Y : World} {c0 c1 c2 c3 : Prop} (h : c0 ∧ c1 ∧ c2 ∧ c3 ∧ Below W.heap.size W X) (_hN : Below X.heap.size X Y) : W.heap.size ≤ X.heap.size := h.2.2.2.2.size

set_option maxRecDepth 100000 in
set_option maxHeartbeats 8000000 in
theorem union_any (w : World) (v u : Value) (S T : Nat → Bool) (g p k q : Nat) (hs : IsSet w v S g p) (ht : IsSet w u T k q) (hfit : max g k + p * q ≤ 4096) :
    Calls Try.prog 14 #[v, u] w (GivesBoth (fun n => S n || T n) (max g k) (p * q) w) := by
  have H := Lib.hid hs
  have H' := Lib.hid ht
  obtain ⟨a, n, c, rfl⟩ := isSet_val hs
  obtain ⟨a', n', c', rfl⟩ := isSet_val ht
  clear hs ht
  have e1 : (w.alloc (.cells #[.int .i64 g, .slice a n c] 28)).heap.size = w.heap.size + 1 := by simp
  have e2 : ((w.alloc (.cells #[.int .i64 g, .slice a n c] 28)).alloc (.cells #[.int .i64 k, .slice a' n' c'] 28)).heap.size = w.heap.size + 1 + 1 := by simp
  have hX := Lib.hid (((Blk.alloc (w := w) [.int .i64 g, .slice a n c] 28).alloc_old (.cells #[.int .i64 k, .slice a' n' c'] 28)).alloc_old (.cells #[.int .i64 0, .slice none 0 0] 28))
  have hY := (Blk.alloc (w := w.alloc (.cells #[.int .i64 g, .slice a n c] 28)) [.int .i64 k, .slice a' n' c'] 28).alloc_old (.cells #[.int .i64 0, .slice none 0 0] 28)
  have hZ := Blk.alloc (w := (w.alloc (.cells #[.int .i64 g, .slice a n c] 28)).alloc (.cells #[.int .i64 k, .slice a' n' c'] 28)) [.int .i64 0, .slice none 0 0] 28
  have B1 := Lib.hid ((((Below.refl _ w).alloc (Nat.le_refl _) (.cells #[.int .i64 g, .slice a n c] 28)).alloc (by simp) (.cells #[.int .i64 k, .slice a' n' c'] 28)).alloc (by simp; omega) (.cells #[.int .i64 0, .slice none 0 0] 28))
  rw [e1] at hY
  rw [e2] at hZ
  have HY := Lib.hid hY
  have HZ := Lib.hid hZ
  clear hY hZ e1 e2
  go_enter Try.func14, Try.ntmps14
  go_wp2
  generalize hW : ((w.alloc (.cells #[.int .i64 g, .slice a n c] 28)).alloc (.cells #[.int .i64 k, .slice a' n' c'] 28)).alloc (.cells #[.int .i64 0, .slice none 0 0] 28) = W at *
  clear hW
  have BW : Below w.heap.size w W.drew := B1.out.drew
  have x0 : W.drew.cell? ⟨w.heap.size, 0, none⟩ = some (.int .i64 g) := hX.out.cell 0 _ rfl
  have x1 : W.drew.cell? ⟨w.heap.size, 1, none⟩ = some (.slice a n c) := hX.out.cell 1 _ rfl
  have y0 : W.drew.cell? ⟨w.heap.size + 1, 0, none⟩ = some (.int .i64 k) := HY.out.cell 0 _ rfl
  have y1 : W.drew.cell? ⟨w.heap.size + 1, 1, none⟩ = some (.slice a' n' c') := HY.out.cell 1 _ rfl
  have HS1 := Lib.hid (H.out.later BW)
  have HT1 := Lib.hid (H'.out.later BW)
  have NB : ∀ X : World, Blk (X.alloc (.cells #[.int .i64 0, .slice none 0 0] 28)) X.heap.size [.int .i64 0, .slice none 0 0] 28 := fun X => Blk.alloc _ _
  go_region_held3 (fun w' => w'.cell? ⟨w.heap.size, 0, none⟩ = some (.int .i64 g) ∧ w'.cell? ⟨w.heap.size, 1, none⟩ = some (.slice a n c) ∧ w'.cell? ⟨w.heap.size + 1, 0, none⟩ = some (.int .i64 k) ∧ w'.cell? ⟨w.heap.size + 1, 1, none⟩ = some (.slice a' n' c') ∧ Below W.drew.heap.size W.drew w')
    (first
      | exact ⟨x0, x1, y0, y1, Below.refl _ _⟩
      | exact keep4 x0 x1 y0 y1 ((Below.refl _ _).alloc (Nat.le_refl _) _)
      | exact keep4 x0 x1 y0 y1 bC
      | exact keep4 x0 x1 y0 y1 (bC.alloc bC.size _)
      | exact keep4 x0 x1 y0 y1 bB
      | exact keep4 x0 x1 y0 y1 (bB.alloc bB.size _)
      | exact keep4 x0 x1 y0 y1 bA
      | exact keep4 x0 x1 y0 y1 (bA.alloc bA.size _)
      | exact keep4 x0 x1 y0 y1 (below_st bC zC bB.size _ _)
      | exact keep4 x0 x1 y0 y1 (below_st bC zC bA.size _ _)
      | exact keep4 x0 x1 y0 y1 (below_st bC zC (Nat.le_refl _) _ _)
      | exact keep4 x0 x1 y0 y1 (below_st (bC.alloc bC.size _) (NB _) bC.size _ _))
    (first
      | (go_at_call 12; (with_reducible refine (not_any _ (.agg #[.int .i64 g, .slice a n c]) S g p ?_).mono ?_); (first | exact HS1.out | exact isSet_al HS1.out _); rintro e wA ⟨v1, rfl, hs1, -, hA⟩; have bA : Below W.drew.heap.size W.drew wA := (by first | exact hA | exact below_al hA); (try have zA : Blk wA W.heap.size [.int .i64 0, .slice none 0 0] 28 := (NB W.drew).later hA (lt_of_block (NB W.drew))); skip)
      | (go_at_call 12; (with_reducible refine (not_any _ (.agg #[.int .i64 k, .slice a' n' c']) T k q ?_).mono ?_); (first | exact HT1.out.later bA | exact isSet_al (HT1.out.later bA) _); rintro e wB ⟨v2, rfl, hs2, -, hB⟩; have bAB : Below wA.heap.size wA wB := (by first | exact hB | exact below_al hB); have bB := bA.trans (bAB.mono bA.size); (first | have zB := zA.later bAB (lt_of_block zA) | have zB := (NB wA).later hB (lt_of_block (NB wA)) | skip))
      | (go_at_call 15; (with_reducible refine (inter_any _ v1 v2 (fun n => !S n) (fun n => !T n) g p k q ?_ ?_ hfit).mono ?_); (first | exact hs1.later bAB | exact isSet_al (hs1.later bAB) _); (first | exact hs2 | exact isSet_al hs2 _); rintro e wC ⟨d, r, ⟨vI, rfl, hsI, hfI, hC⟩, hd, hr⟩; have bBC : Below wB.heap.size wB wC := (by first | exact hC | exact below_al hC); have bC := bB.trans (bBC.mono bB.size); obtain ⟨aI, nI, cI, rfl⟩ := isSet_val hsI; (first | have zC := zB.later bBC (lt_of_block zB) | have zC := (NB wB).later hC (lt_of_block (NB wB)) | have zC := trivial); (try have q0 := zC.cell 0 _ rfl); (try have q1 := zC.cell 1 _ rfl); (try have f0 := zC.frozen 0); (try have f1 := zC.frozen 1)))
  all_goals
    go_wp2_with fail
    refine (not_any _ (.agg #[.int .i64 d, .slice aI nI cI]) (fun n => !S n && !T n) d r ?hI).mono ?_
    case hI =>
      have s1 := bA.size
      have s2 := bAB.size
      have s3 := bBC.size
      first
        | exact isSet_al hsI _
        | exact isSet_setCell (isSet_setCell hsI _ ⟨wB.heap.size, 0, none⟩ (.int .i64 d) hfI (by simp <;> omega)) _ ⟨wB.heap.size, 1, none⟩ (.slice aI nI cI) hfI (by simp <;> omega)
        | exact isSet_setCell (isSet_setCell hsI _ ⟨wA.heap.size, 0, none⟩ (.int .i64 d) hfI (by simp <;> omega)) _ ⟨wA.heap.size, 1, none⟩ (.slice aI nI cI) hfI (by simp <;> omega)
        | exact isSet_setCell (isSet_setCell hsI _ ⟨W.heap.size, 0, none⟩ (.int .i64 d) hfI (by simp at s1 ⊢ <;> omega)) _ ⟨W.heap.size, 1, none⟩ (.slice aI nI cI) hfI (by simp at s1 ⊢ <;> omega)
    rintro e wN ⟨vU, rfl, hsU, hfU, hN⟩
    obtain ⟨aU, nU, cU, rfl⟩ := isSet_val hsU
    have hcur := below_of_held (hN := hN) (by assumption)
    have hszN := below_of_held2 (_hN := hN) (by assumption)
    have hZN := Blk.later (w := W.drew) HZ.out hcur (lt_of_block HZ.out)
    have z0 := hZN.cell 0 _ rfl
    have z1 := hZN.cell 1 _ rfl
    have g0 := hZN.frozen 0
    have g1 := hZN.frozen 1
    have hlZ := lt_of_block HZ.out
    have hf' := hfU.mono (C := w.heap.size + 1 + 1 + 1) (by simp at hszN hlZ ⊢ <;> omega)
    have hs3 := (isSet_setCell (isSet_setCell hsU _ ⟨w.heap.size + 1 + 1, 0, none⟩ (.int .i64 d) hf' (by simp)) _ ⟨w.heap.size + 1 + 1, 1, none⟩ (.slice aU nU cU) hf' (by simp)).congr (T := fun n => S n || T n) (fun n _ => by cases S n <;> cases T n <;> rfl)
    have BF := ((below_from2 BW hcur).setCell (p := ⟨w.heap.size + 1 + 1, 0, none⟩) (by simp; omega) (.int .i64 d)).setCell (p := ⟨w.heap.size + 1 + 1, 1, none⟩) (by simp; omega) (.slice aU nU cU)
    have hf3 := hf'.mono (C := w.heap.size + 1) (by omega)
    have HSF := Lib.hid hs3
    have HFF := Lib.hid hf3
    have HBF := Lib.hid BF
    clear hs3 hf' hf3 BF hZN hsU hfU
    go_wp2
    exact bodyPost_ret (v := .tuple #[.agg #[.int .i64 d, .slice aU nU cU], .nilIface]) (by simp [results, Try.results14, go_sem, z0, z1]) rfl ⟨d, r, ⟨_, rfl, HSF.out, HFF.out, HBF.out⟩, hd, hr⟩

theorem zero_set (w : World) : IsSet w (.agg #[.int .i64 (0 : Nat), .slice none 0 0]) (fun _ => false) 0 1 :=
  ⟨⟨Nat.le_refl _, fun _ _ => rfl, .inl rfl, fun q hq _ => hq⟩, by omega, none, 0, 0, rfl, .inr ⟨rfl, rfl, rfl, rfl, rfl, rfl⟩⟩

set_option maxRecDepth 100000 in
set_option maxHeartbeats 2000000 in
theorem all_any (w : World) : Calls Try.prog 21 #[] w (GivesSet (fun _ => true) 0 1 w) := by
  have hA := Lib.hid (Blk.alloc (w := w) [.int .i64 0, .slice none 0 0] 28)
  have B1 : Below w.heap.size w (w.alloc (.cells #[.int .i64 0, .slice none 0 0] 28)) := (Below.refl _ w).alloc (Nat.le_refl _) _
  go_enter Try.func21, Try.ntmps21
  go_wp2_with fail
  refine (not_any _ (.agg #[.int .i64 0, .slice none 0 0]) (fun _ => false) 0 1 (zero_set _)).mono ?_
  rintro e wN ⟨vU, rfl, hsU, hfU, hN⟩
  obtain ⟨aU, nU, cU, rfl⟩ := isSet_val hsU
  have hZN := hA.out.later hN (lt_of_block hA.out)
  have z0 := hZN.cell 0 _ rfl
  have z1 := hZN.cell 1 _ rfl
  have g0 := hZN.frozen 0
  have g1 := hZN.frozen 1
  have hf' := hfU.mono (C := w.heap.size + 1) (by simp)
  have hs3 := (isSet_setCell (isSet_setCell hsU _ ⟨w.heap.size, 0, none⟩ (.int .i64 (0 : Nat)) hf' (by simp)) _ ⟨w.heap.size, 1, none⟩ (.slice aU nU cU) hf' (by simp))
  have BF := ((B1.trans (hN.mono B1.size)).setCell (p := ⟨w.heap.size, 0, none⟩) (by simp) (.int .i64 (0 : Nat))).setCell (p := ⟨w.heap.size, 1, none⟩) (by simp) (.slice aU nU cU)
  have HSF := Lib.hid hs3
  have HFF := Lib.hid hf'
  have HBF := Lib.hid BF
  clear hs3 hf' BF hZN hsU hfU
  go_wp2
  exact bodyPost_ret (v := .agg #[.int .i64 0, .slice aU nU cU]) (by simp [results, Try.results21, go_sem, z0, z1]) rfl ⟨_, rfl, HSF.out, HFF.out, HBF.out⟩
end Go.Proofs.Ytcfcoojnjdoeeaa
