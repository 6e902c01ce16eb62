/- Several texts of mine in one. -/
import Derived.Test.YtickcbmfboajiaaGreatDoorFB
import Derived.Test.YtickcbmfboajiaaGreatDoorRnZ
import Derived.Test.YtickcbmfboajiaaGreatDoorRoZ
import Derived.Test.YtickcbmfboajiaaGreatDoorRpZ
import Derived.Test.YtickcbmfboajiaaGreatDoorFN
import Derived.Test.YtickcbmfboajiaaGreatDoorFO
import Derived.Test.YtickcbmfboajiaaGreatDoorFC
import Derived.Test.YtickcbmfboajiaaGreatDoorFA
import Derived.Test.YtickcbmfboajiaaGreatDoorFH
import Derived.Test.YtickcbmfboajiaaGreatDoorFF
import Derived.Stop.LaidErr
import Derived.MakeChecks
namespace Go.Proofs.YtickcbmfboajiaaGreatDoor
section
open Go.RowKit

theorem first_call (b off len cap p : Nat) (zs : List Int) (w : World) (hlen : zs.length = len) (hp : p < len) (hl : len ≤ cap) (hsm : len ≤ 1000000) (hat : At w .u8 b off zs) (hz : U8 zs) :
    Calls Tryz.prog 27 #[.slice (some ⟨b, off, none⟩) len cap, .int .i64 p] w fun e w' =>
      e = .returned (.tuple #[.int .i64 (charF (zs.drop p)), .int .i64 (sizeF (zs.drop p))]) ∧ Below w.heap.size w w' :=
  (first_some b off len cap p zs w hlen hp hl hsm hat hz).mono fun e w' ⟨c, n, he, hs, hb⟩ => by
    obtain ⟨h1, h2, _⟩ := first_eq (zs.drop p) (hz.drop p) (by rw [List.length_drop]; omega) hs
    rw [← h1, ← h2]; exact ⟨he, hb⟩

theorem charF_bd (ys : List Int) (hz : U8 ys) : -2147483648 ≤ charF ys ∧ charF ys ≤ 2147483647 := by
  unfold charF; split
  · exact readF_char ys hz
  · omega

set_option maxRecDepth 100000 in
set_option maxHeartbeats 1000000 in
theorem refChars_some (b off len cap : Nat) (zs : List Int) (w : World) (hlen : zs.length = len) (h1 : 1 ≤ len) (hl : len ≤ cap) (hcap : cap ≤ maxLen)
    (hat : At w .u8 b off zs) (hz : U8 zs) (hsm : len ≤ 1000000) :
    Calls Tryz.prog 13 #[.slice (some ⟨b, off, none⟩) len cap] w (CharsPost zs w) := by
  obtain ⟨i0, hi, hz0, hz1, hz2⟩ := info_parts Tryz.info3
  unfold maxLen at hcap
  have H0 := Lib.hid hlen; clear hlen
  have own0 := World.ownsRow_made (base := w.heap.size) (e := 3) (size := 1) w #[] 0 (Nat.le_refl _) (by simp [maxLen]) (by simp)
  go_enter Tryz.func13, Tryz.ntmps13
  go_wp2
  go_loopw [3, 4] (fun v i wr => ∃ (k : Nat) (acc : List Int), k ≤ len ∧ acc.length ≤ k ∧ i = .int .i64 k ∧ wr.ownsRow w.heap.size 3 1 v acc.length (acc.map (Value.int .i64)) ∧ charsF zs = acc ++ charsFrom zs k ∧ Below w.heap.size w wr)
    (fun _ i _ => len - (intOf i).toNat)
  case atStart => exact ⟨0, [], by omega, by simp, rfl, own0, rfl, (Below.refl _ w).alloc (Nat.le_refl _) _⟩
  case round =>
    obtain ⟨k, acc, hk, hacc, rfl, hown, heq, hbl⟩ := hrel
    by_cases hlt : k < len
    · have hst := charsFrom_step zs k (by rw [H0.out]; omega)
      have HS := Lib.hid hst; clear hst
      have HE := Lib.hid heq; clear heq
      have hat' := (hat.later hbl hat.1)
      have hn := readF_size (zs.drop k) (by intro h; have := congrArg List.length h; rw [List.length_drop, H0.out] at this; simp at this; omega)
      have hcb := charF_bd (zs.drop k) (hz.drop k)
      rw [List.length_drop, H0.out] at hn
      obtain ⟨c, hc⟩ : ∃ c, charF (zs.drop k) = c := ⟨_, rfl⟩
      obtain ⟨n, hn'⟩ : ∃ n, sizeF (zs.drop k) = n := ⟨_, rfl⟩
      have hn2 : 1 ≤ n ∧ n ≤ len - k := by rw [← hn']; exact hn
      rw [hc] at hcb
      have HC := Lib.hid hc; clear hc
      have HN := Lib.hid hn'; clear hn'
      clear hn
      obtain ⟨hn1, hn2⟩ := hn2
      obtain ⟨hc1, hc2⟩ := hcb
      go_wp2_with fail
      refine (first_call b off len cap k zs wr H0.out hlt hl hsm hat' hz).mono ?_
      rintro e w2 ⟨he, hb2⟩
      rw [HC.out, HN.out] at he
      subst he
      have hown2 := owns_later hown hb2
      have hbl2 := hbl.trans (hb2.mono hbl.size)
      clear hown hb2 hat'
      by_cases hm : c = 65279
      · subst hm
        by_cases hk0 : k = 0
        · subst hk0
          go_wp2
          go_roundw
          case rel => exact ⟨0 + n, acc, by omega, by omega, by go_num, hown2, by rw [HE.out, HS.out, HN.out, HC.out]; simp, hbl2⟩
          case measure => simp [intOf]; omega
        · have hk1 : (0 : Int) < (k : Int) := by omega
          go_wp2_with (at_builtin; refine wpList_append_own _ rfl _ _ 28 rfl w.heap.size 3 i0 (.int .i64 0) 1 8 Tryz.underlying28 hi hz0 hz1 hz2 rfl (by decide) _ _ _ rfl (hown2.alloc _) ⟨w2.heap.size, 0, none⟩ 1 1 [.int .i64 65279] rfl rfl (cell_one_new _ _ _) (fun x hx => by simp at hx; subst hx; rfl) (by unfold maxLen; omega) (by omega) (by have := hbl2.size; simp; omega) ?_; intro v' w3 hown3 hgrow3 _)
          have hown4 := owns_snoc hown3
          have hbl4 : Below w.heap.size w w3 := hbl2.trans (Below.of_grown (grown_trans (World.grownBy_alloc w2 _ _) hgrow3) hbl2.size (fun j hj => (hown2.lt j hj).1))
          go_roundw
          case rel => exact ⟨k + n, acc ++ [65279], by omega, by simp; omega, by go_num, hown4, by rw [HE.out, HS.out, HN.out, HC.out]; simp [hk0], hbl4⟩
          case measure => simp [intOf]; omega
      · have hm1 : (c != 65279) = true := by rw [bne_iff_ne]; exact hm
        by_cases hk0 : k = 0
        · subst hk0
          go_wp2_with (at_builtin; refine wpList_append_own _ rfl _ _ 28 rfl w.heap.size 3 i0 (.int .i64 0) 1 8 Tryz.underlying28 hi hz0 hz1 hz2 rfl (by decide) _ _ _ rfl (hown2.alloc _) ⟨w2.heap.size, 0, none⟩ 1 1 [.int .i64 c] rfl rfl (cell_one_new _ _ _) (fun x hx => by simp at hx; subst hx; rfl) (by unfold maxLen; omega) (by omega) (by have := hbl2.size; simp; omega) ?_; intro v' w3 hown3 hgrow3 _)
          have hown4 := owns_snoc hown3
          have hbl4 : Below w.heap.size w w3 := hbl2.trans (Below.of_grown (grown_trans (World.grownBy_alloc w2 _ _) hgrow3) hbl2.size (fun j hj => (hown2.lt j hj).1))
          go_roundw
          case rel => exact ⟨0 + n, acc ++ [c], by omega, by simp; omega, by go_num, hown4, by rw [HE.out, HS.out, HN.out, HC.out]; simp [hm], hbl4⟩
          case measure => simp [intOf]; omega
        · have hk1 : (0 : Int) < (k : Int) := by omega
          go_wp2_with (at_builtin; refine wpList_append_own _ rfl _ _ 28 rfl w.heap.size 3 i0 (.int .i64 0) 1 8 Tryz.underlying28 hi hz0 hz1 hz2 rfl (by decide) _ _ _ rfl (hown2.alloc _) ⟨w2.heap.size, 0, none⟩ 1 1 [.int .i64 c] rfl rfl (cell_one_new _ _ _) (fun x hx => by simp at hx; subst hx; rfl) (by unfold maxLen; omega) (by omega) (by have := hbl2.size; simp; omega) ?_; intro v' w3 hown3 hgrow3 _)
          have hown4 := owns_snoc hown3
          have hbl4 : Below w.heap.size w w3 := hbl2.trans (Below.of_grown (grown_trans (World.grownBy_alloc w2 _ _) hgrow3) hbl2.size (fun j hj => (hown2.lt j hj).1))
          go_roundw
          case rel => exact ⟨k + n, acc ++ [c], by omega, by simp; omega, by go_num, hown4, by rw [HE.out, HS.out, HN.out, HC.out]; simp [hm], hbl4⟩
          case measure => simp [intOf]; omega
    · have hkl : k = len := by omega
      go_wp2
      go_ret
      obtain ⟨a, cp, hv, hrd⟩ := Reads.of_owns hown
      have hend : charsF zs = acc := by rw [heq, charsFrom_end zs k (by rw [H0.out]; omega), List.append_nil]
      have hfr := Fresh.of_owns hown hv
      have hnl := nil_of_owns hown hv
      rw [← hend] at hv hrd
      exact ⟨a, cp, by rw [← hv]; rfl, hrd, hbl, hfr, hnl⟩

set_option maxRecDepth 100000 in
set_option maxHeartbeats 400000 in
theorem refChars_none (a : Option Addr) (cap : Nat) (w : World) : Calls Tryz.prog 13 #[.slice a 0 cap] w (CharsPost [] w) := by
  go_enter Tryz.func13, Tryz.ntmps13
  go_wp2
  refine wp_loop_rounds 1 ?_; rw [rounds_succ]
  go_wp2
  go_ret
  exact ⟨_, 0, rfl, ⟨by simp [show charsF [] = [] from rfl], by simp [maxLen], .inl rfl⟩, (Below.refl _ w).alloc (Nat.le_refl _) _, by rintro ad ⟨⟩; exact Nat.le_refl _, by rintro ⟨⟩⟩

/-- The document's answer on any bytes' characters. -/
theorem refChars_any (a : Option Addr) (cap : Nat) (zs : List Int) (w : World) (hr : Reads w .u8 a cap zs) (hz : U8 zs) (hsm : zs.length ≤ 1000000) :
    Calls Tryz.prog 13 #[.slice a zs.length cap] w (CharsPost zs w) := by
  obtain ⟨h1, h2, h3⟩ := hr
  rcases h3 with rfl | ⟨b, off, rfl, hat⟩
  · exact refChars_none a cap w
  · by_cases h0 : zs = []
    · subst h0; exact refChars_none _ cap w
    · exact refChars_some b off zs.length cap zs w rfl (List.length_pos_iff.2 h0) h1 h2 hat hz hsm
end

section
open Go.RowKit
set_option linter.unusedVariables false

theorem sign_own (c : Int) (h : signKind c ≠ 9) : c = 40 ∨ c = 41 ∨ c = 91 ∨ c = 93 ∨ c = 123 ∨ c = 125 ∨ c = 44 ∨ c = 58 ∨ c = 59 := by
  unfold signKind at h
  repeat' split at h
  all_goals first | (exact absurd rfl h) | omega
theorem nameAt_dash {l : List Int} {j : Nat} (hna : nameAt l j = false) (h45 : isB l j 45 = true) : isB l (j + 1) 45 = false := by
  unfold nameAt at hna
  rw [if_pos h45, Bool.or_eq_false_iff, Bool.or_eq_false_iff] at hna
  exact hna.1.1
theorem isB_two {l : List Int} {j : Nat} {c d : Int} (h : isB l j c = true) (hd : c ≠ d) : isB l j d = false := decide_eq_false (by rw [isB_iff.1 h]; exact hd)

theorem rnext_some {b off n cap : Nat} {l : List Int} {w : World} (i : Int) (k : Nat) (h : Src w (some ⟨b, off, none⟩) n cap l) (hi : i = (k : Int)) (hk : k ≤ n) :
    Calls Tryz.prog 40 #[.slice (some ⟨b, off, none⟩) n cap, .int .i64 i] w (Told (tkV (nextF l k)) w) := by
  obtain ⟨j, hj⟩ : ∃ j, behindF l k = j := ⟨_, rfl⟩
  by_cases hjn : n ≤ j
  · exact rnext_end i k h hi hk j hj hjn
  have hjn : j < n := by omega
  rcases hsp : spB l j with _ | _
  rotate_left
  · exact rnext_space i k h hi hk j hj hjn hsp
  rcases h34 : isB l j 34 with _ | _
  rotate_left
  · exact rnx_quo34 i k h hi hk j hj hjn hsp h34
  rcases h39 : isB l j 39 with _ | _
  rotate_left
  · exact rnx_quo39 i k h hi hk j hj hjn hsp h34 h39
  rcases hnu : numAt l j with _ | _
  rotate_left
  · exact rnext_num i k h hi hk j hj hjn hsp h34 h39 hnu
  rcases hna : nameAt l j with _ | _
  rotate_left
  · rcases h45 : isB l j 45 with _ | _
    · exact rnx_name_d0 i k h hi hk j hj hjn hsp h34 h39 hnu h45 hna
    · rcases h45b : isB l (j + 1) 45 with _ | _
      · exact rnx_name_d1 i k h hi hk j hj hjn hsp h34 h39 hnu h45 h45b hna
      · rcases h62 : isB l (j + 2) 62 with _ | _
        · exact rnx_name_d2 i k h hi hk j hj hjn hsp h34 h39 hnu h45 h45b h62 hna
        · exact rnx_cdc i k h hi hk j hj hjn hsp h34 h39 hnu h45 h45b h62
  by_cases hsg : signKind (chA l j) = 9
  rotate_left
  · rcases sign_own _ hsg with hc | hc | hc | hc | hc | hc | hc | hc | hc
    · exact rnx_sign0 i k h hi hk j hj hjn hsp hnu hna hc
    · exact rnx_sign1 i k h hi hk j hj hjn hsp hnu hna hc
    · exact rnx_sign2 i k h hi hk j hj hjn hsp hnu hna hc
    · exact rnx_sign3 i k h hi hk j hj hjn hsp hnu hna hc
    · exact rnx_sign4 i k h hi hk j hj hjn hsp hnu hna hc
    · exact rnx_sign5 i k h hi hk j hj hjn hsp hnu hna hc
    · exact rnx_sign6 i k h hi hk j hj hjn hsp hnu hna hc
    · exact rnx_sign7 i k h hi hk j hj hjn hsp hnu hna hc
    · exact rnx_sign8 i k h hi hk j hj hjn hsp hnu hna hc
  rcases h45 : isB l j 45 with _ | _
  rotate_left
  · exact rnx_del_d i k h hi hk j hj hjn hsp h34 h39 hnu h45 (nameAt_dash hna h45) hna (isB_two h45 (by decide)) (isB_two h45 (by decide)) (isB_two h45 (by decide)) hsg
  rcases h60 : isB l j 60 with _ | _
  rotate_left
  · have h64 := isB_two h60 (d := 64) (by decide)
    have h35 := isB_two h60 (d := 35) (by decide)
    rcases h33 : isB l (j + 1) 33 with _ | _
    · exact rnx_del_oa i k h hi hk j hj hjn hsp h34 h39 hnu h45 hna h60 h33 h64 h35 hsg
    rcases g45 : isB l (j + 2) 45 with _ | _
    · exact rnx_del_ob i k h hi hk j hj hjn hsp h34 h39 hnu h45 hna h60 h33 g45 h64 h35 hsg
    rcases g45b : isB l (j + 3) 45 with _ | _
    · exact rnx_del_oc i k h hi hk j hj hjn hsp h34 h39 hnu h45 hna h60 h33 g45 g45b h64 h35 hsg
    · exact rnx_cdo i k h hi hk j hj hjn hsp h34 h39 hnu h45 hna h60 h33 g45 g45b
  rcases h64 : isB l j 64 with _ | _
  rotate_left
  · rcases hnb : nameAt l (j + 1) with _ | _
    · exact rnx_del_a i k h hi hk j hj hjn hsp h34 h39 hnu h45 hna h60 h64 hnb (isB_two h64 (by decide)) hsg
    · exact rnx_at i k h hi hk j hj hjn hsp h34 h39 hnu h45 hna h60 h64 hnb
  rcases h35 : isB l j 35 with _ | _
  · exact rnx_del_x i k h hi hk j hj hjn hsp h34 h39 hnu h45 hna h60 h64 h35 hsg
  · rcases hin : nmB l (j + 1) with _ | _
    · rcases hes : escB l (j + 1) with _ | _
      · exact rnx_del_h i k h hi hk j hj hjn hsp h34 h39 hnu h45 hna h60 h64 h35 hin hes hsg
      · exact rnx_hash_e i k h hi hk j hj hjn hsp h34 h39 hnu h45 hna h60 h64 h35 hin hes
    · exact rnx_hash_n i k h hi hk j hj hjn hsp h34 h39 hnu h45 hna h60 h64 h35 hin

theorem rnext_any {a : Option Addr} {n cap : Nat} {l : List Int} {w : World} (i : Int) (k : Nat) (h : Src w a n cap l) (hi : i = (k : Int)) (hk : k ≤ n) :
    Calls Tryz.prog 40 #[.slice a n cap, .int .i64 i] w (Told (tkV (nextF l k)) w) := by
  by_cases h0 : n ≤ behindF l k
  · exact rnext_end i k h hi hk _ rfl h0
  · obtain ⟨b, off, rfl, _⟩ := h.cell 0 (by omega)
    exact rnext_some i k h hi hk

set_option maxRecDepth 100000 in
set_option maxHeartbeats 4000000 in
theorem rall_any {a : Option Addr} {n cap : Nat} {l : List Int} {w : World} (h : Src w a n cap l) :
    Calls Tryz.prog 24 #[.slice a n cap] w (TksPost (allF l) w) := by
  obtain ⟨i0, hi, hz0, hz1, hz2⟩ := info_parts Tryz.infoTok
  have hlen := h.len
  have hsm := h.small
  have own0 := World.ownsRow_made (base := w.heap.size) (e := 32) (size := 6) w #[] 0 (Nat.le_refl _) (by simp [maxLen]) (by simp)
  generalize hR : allF l = R
  unfold allF at hR
  rw [hlen] at hR
  have HR := Lib.hid hR; clear hR
  have HL := Lib.hid hlen; clear hlen
  have HP := Lib.hid h; clear h
  go_enter Tryz.func24, Tryz.ntmps24
  go_wp2_with fail
  go_loopw [3, 4] (fun v at_ wr => ∃ (f j : Nat) (acc : List Tk), at_ = .int .i64 j ∧ wr.ownsRow w.heap.size 32 6 v acc.length (acc.flatMap tkCells) ∧ Hid (allGo f l j acc = R) ∧ n < j + f ∧ j ≤ n ∧ acc.length ≤ j ∧ Below w.heap.size w wr)
    (fun _ at_ _ => n - (intOf at_).toNat)
  case atStart => exact ⟨n + 1, 0, [], rfl, own0, HR, by omega, by omega, by simp, (Below.refl _ w).alloc (Nat.le_refl _) _⟩
  case round =>
    obtain ⟨f, j, acc, rfl, hown, hG, hf, hj, hal, hbl⟩ := hrel
    have hS := HP.out.later hbl
    obtain ⟨f, rfl⟩ : ∃ g, f = g + 1 := ⟨f - 1, by omega⟩
    have t2 : (nextF l j).kind ≠ 0 → j < (nextF l j).to ∧ (nextF l j).to ≤ n := fun hk => by
      rcases nextF_bd (l := l) (j := j) (by rw [HL.out]; exact hj) with ⟨h, _⟩ | ⟨_, _, h1, h2⟩
      · rw [h] at hk; exact absurd rfl hk
      · exact ⟨h1, by rw [← HL.out]; exact h2⟩
    have hx := rnext_any (j : Int) j hS rfl hj
    have hG' : Hid ((if (nextF l j).kind = 0 then acc ++ [nextF l j] else allGo f l (nextF l j).to (acc ++ [nextF l j])) = R) := Lib.hid (by rw [← hG.out]; rfl)
    clear hG
    generalize nextF l j = t at *
    go_wp2_with fail
    refine hx.mono ?_
    rintro e w2 ⟨rfl, hb2⟩
    have hown2 := owns_later hown hb2
    have hbl2 := hbl.trans (hb2.mono hbl.size)
    have hsz2 := hbl2.size
    have hsz := hbl.size
    clear hown hx hS
    have hA : ∀ o : Obj, (w2.alloc o).heap.size = w2.heap.size + 1 := fun o => by simp
    have hB := Blk.alloc (w := w2.alloc (.cells (tkCells t).toArray 32)) (tkCells t) 32
    rw [hA] at hB
    have hnews : ∀ j u, (tkCells t)[j]? = some u → ((w2.alloc (.cells (tkCells t).toArray 32)).alloc (.cells (tkCells t).toArray 32)).cell? ((⟨w2.heap.size + 1, 0, none⟩ : Addr).add j) = some u := fun j u hu => by
      have h0 := hB.cell j u hu
      rw [← h0]; congr 1; unfold Addr.add; simp <;> (intro h; exact h.symm)
    have hown4 := (hown2.alloc (.cells (tkCells t).toArray 32)).alloc (.cells (tkCells t).toArray 32)
    have hbl4 := (hbl2.alloc hsz2 (.cells (tkCells t).toArray 32)).alloc (by rw [hA]; omega) (.cells (tkCells t).toArray 32)
    have B5 : Blk ((w2.alloc (.cells (tkCells t).toArray 32)).alloc (.cells (tkCells t).toArray 32)) w2.heap.size (tkCells t) 32 := (Blk.alloc _ _).alloc_old _
    have hone := tk_cells t
    have hz4 : ((w2.alloc (.cells (tkCells t).toArray 32)).alloc (.cells (tkCells t).toArray 32)).heap.size = w2.heap.size + 2 := by simp
    unfold tkV
    rw [show (tkCells t).toArray = #[.int .i64 t.kind, .int .i64 t.frm, .int .i64 t.to, .string (strOfNums t.text), .string (strOfNums t.num), .bool t.whole] from rfl] at *
    have hlA : ∀ t : Tk, (acc ++ [t]).flatMap tkCells = acc.flatMap tkCells ++ tkCells t := fun t => by simp
    by_cases hk0 : t.kind = 0
    · have n0 : (t.kind == 0) = true := beq_iff_eq.2 hk0
      have hE : R = acc ++ [t] := by rw [← hG'.out, if_pos hk0]
      clear hk0 hG' t2
      go_wp2_with (at_builtin; refine wpList_append_own _ rfl _ _ 24 rfl w.heap.size 32 i0 _ 6 64 Tryz.underlying24 hi hz0 hz1 hz2 rfl (by decide) _ acc.length _ rfl hown4 ⟨w2.heap.size + 1, 0, none⟩ 1 1 (tkCells t) rfl rfl hnews hone (by unfold maxLen; omega) (by omega) (by simp <;> omega) ?_; intro v' w5 hown5 hgrow5 _; have hB6 : Blk w5 w2.heap.size (tkCells t) 32 := (hgrow5.block w2.heap.size (by omega) (fun e => by have := (hown2.lt _ e.symm).2; omega)).trans B5; have c0 := hB6.cell 0 _ rfl; have c2 := hB6.cell 2 _ rfl)
      have hbl5 : Below w.heap.size w w5 := hbl4.grown hgrow5 (by omega) (fun j hj => (hown2.lt j hj).1)
      go_ret
      rcases hown5.2 with ⟨_, hx0⟩ | ⟨g, cp, cur, hv, hg, hh, hn1, hn2, _, _⟩
      · omega
      · have hll : R.length = acc.length + 1 := by rw [hE, List.length_append]; rfl
        have hfm : R.flatMap tkCells = acc.flatMap tkCells ++ tkCells t := by rw [hE]; exact hlA t
        subst hv
        refine ⟨some ⟨g, 0, none⟩, cp, by rw [hll]; rfl, ⟨by rw [hll]; exact hn1, hn2, g, rfl, lt_of_block hh, fun j v hv => ?_⟩, hbl5⟩
        rw [hfm] at hv
        have h0 := hown5.cells (g := g) rfl j v hv
        rw [← h0]; congr 1; unfold Addr.add; simp
    · have n0 : (t.kind == 0) = false := beq_eq_false_iff_ne.2 hk0
      obtain ⟨t3, t4⟩ := t2 hk0
      have hG2 : Hid (allGo f l t.to (acc ++ [t]) = R) := Lib.hid (by rw [← hG'.out, if_neg hk0])
      clear hk0 hG' t2
      go_wp2_with (at_builtin; refine wpList_append_own _ rfl _ _ 24 rfl w.heap.size 32 i0 _ 6 64 Tryz.underlying24 hi hz0 hz1 hz2 rfl (by decide) _ acc.length _ rfl hown4 ⟨w2.heap.size + 1, 0, none⟩ 1 1 (tkCells t) rfl rfl hnews hone (by unfold maxLen; omega) (by omega) (by simp <;> omega) ?_; intro v' w5 hown5 hgrow5 _; have hB6 : Blk w5 w2.heap.size (tkCells t) 32 := (hgrow5.block w2.heap.size (by omega) (fun e => by have := (hown2.lt _ e.symm).2; omega)).trans B5; have c0 := hB6.cell 0 _ rfl; have c2 := hB6.cell 2 _ rfl)
      have hbl5 : Below w.heap.size w w5 := hbl4.grown hgrow5 (by omega) (fun j hj => (hown2.lt j hj).1)
      go_roundw
      case rel => exact ⟨f, t.to, acc ++ [t], by go_num, by rw [hlA, List.length_append]; exact hown5, hG2, by omega, by omega, by rw [List.length_append]; simp; omega, hbl5⟩
      case measure => simp [intOf]; omega


set_option maxRecDepth 100000 in
set_option maxHeartbeats 2000000 in
theorem rread_any (a : Option Addr) (n cap : Nat) (zs : List Int) (w : World) (hn : zs.length = n) (hr : Reads w .u8 a cap zs) (hz : U8 zs) (hsm : n ≤ 100000) :
    Calls Tryz.prog 10 #[.slice a n cap] w (TksPost (toksF zs) w) := by
  subst hn
  have hc := refChars_any a cap zs w hr hz (by omega)
  have hcl := chars_len zs
  have hci := chars_i64 zs hz
  unfold toksF
  unfold CharsPost at hc
  clear hr
  generalize charsF zs = cs at *
  go_enter Tryz.func10, Tryz.ntmps10
  go_wp2_with fail
  refine hc.mono ?_
  rintro e w1 ⟨a1, c1, rfl, hr1, hb1, _⟩
  have cP := refPrepare_any a1 c1 cs.length cs w1 rfl hr1 hci (by omega)
  have hpl := prepTo_len cs cs.length
  have hpp := prep_pre cs
  have hpl : (prepF cs).length ≤ cs.length := hpl
  unfold NewPost at cP
  generalize prepF cs = l at *
  clear hc hr1 hci hz
  go_wp2_with fail
  refine cP.mono ?_
  rintro e w2 ⟨a2, c2, rfl, hr2, hb2, _⟩
  have hb12 := below_trans hb1 hb2
  have cA := rall_any (a := a2) (cap := c2) (⟨hr2, rfl, hpp, by omega⟩ : Src w2 a2 l.length c2 l)
  clear cP hr2 hpp
  go_wp2_with fail
  refine cA.mono ?_
  rintro e w3 ⟨a3, c3, rfl, hr3, hb3⟩
  go_wp2
  go_ret
  exact ⟨a3, c3, rfl, hr3, below_trans hb12 hb3⟩
end

section
open Go.RowKit

def hasF (a b n : Int) : Bool := decide (1 ≤ n) && (if 0 < a then decide (b ≤ n) && decide ((n - b) % a = 0) else if a < 0 then decide (n ≤ b) && decide ((b - n) % (-a) = 0) else decide (n = b))
theorem u64_wrap (x : Int) : IntKind.u64.wrap x = x % 18446744073709551616 := rfl

theorem sign_mul {a q : Int} (ha : 0 < a) : 0 ≤ a * q ↔ 0 ≤ q := by
  constructor
  · intro h
    rcases Int.lt_or_le q 0 with hq | hq
    · have : a * q < a * 0 := Int.mul_lt_mul_of_pos_left hq ha
      omega
    · exact hq
  · intro h; exact Int.mul_nonneg (by omega) h

theorem hasF_ref {a b n : Int} (hn : 1 ≤ n) (ha : a ≠ 0) : hasF a b n = (decide ((n - b).tmod a = 0) && decide (0 ≤ (n - b).tdiv a)) := by
  unfold hasF
  rw [decide_eq_true hn, Bool.true_and]
  by_cases hd : a ∣ (n - b)
  · obtain ⟨q, hq⟩ := hd
    have e1 : (n - b).tmod a = 0 := by rw [hq]; exact Int.mul_tmod_right a q
    have e2 : (n - b).tdiv a = q := by rw [hq]; exact Int.mul_tdiv_cancel_left q ha
    rw [e1, e2, decide_eq_true rfl, Bool.true_and]
    by_cases h : 0 < a
    · rw [if_pos h, decide_eq_true (show (n - b) % a = 0 by rw [hq]; exact Int.mul_emod_right a q), Bool.and_true]
      have := sign_mul (q := q) h
      rw [← hq] at this
      exact decide_eq_decide.2 ⟨fun x => this.1 (by omega), fun x => by have := this.2 x; omega⟩
    · rw [if_neg h, if_pos (by omega)]
      have e3 : b - n = -a * q := by rw [Int.neg_mul]; omega
      rw [decide_eq_true (show (b - n) % (-a) = 0 by rw [e3]; exact Int.mul_emod_right (-a) q), Bool.and_true]
      have := sign_mul (a := -a) (q := q) (by omega)
      rw [← e3] at this
      exact decide_eq_decide.2 ⟨fun x => this.1 (by omega), fun x => by have := this.2 x; omega⟩
  · have e1 : decide ((n - b).tmod a = 0) = false := decide_eq_false fun e => hd (Int.dvd_of_tmod_eq_zero e)
    rw [e1, Bool.false_and]
    by_cases h : 0 < a
    · rw [if_pos h, decide_eq_false (show ¬ (n - b) % a = 0 from fun e => hd (Int.dvd_of_emod_eq_zero e)), Bool.and_false]
    · rw [if_neg h, if_pos (by omega), decide_eq_false (show ¬ (b - n) % (-a) = 0 from fun e => hd (by have := Int.dvd_of_emod_eq_zero e; rw [Int.neg_dvd] at this; rw [show n - b = -(b - n) by omega]; exact Int.dvd_neg.2 this)), Bool.and_false]

set_option maxRecDepth 100000 in
set_option maxHeartbeats 2000000 in
theorem has_any (a b n : Int) (w : World) (ha : -1099511627776 ≤ a ∧ a ≤ 1099511627776) (hb : -1099511627776 ≤ b ∧ b ≤ 1099511627776) (hn : -9223372036854775808 ≤ n ∧ n ≤ 1099511627776) :
    Calls Tryz.prog 28 #[.int .i64 a, .int .i64 b, .int .i64 n] w fun e w' => e = .returned (.bool (hasF a b n)) ∧ w' = w := by
  obtain ⟨a1, a2⟩ := ha
  obtain ⟨b1, b2⟩ := hb
  obtain ⟨n1, n2⟩ := hn
  have HF : Hid (hasF a b n = (decide (1 ≤ n) && (if 0 < a then decide (b ≤ n) && decide ((n - b) % a = 0) else if a < 0 then decide (n ≤ b) && decide ((b - n) % (-a) = 0) else decide (n = b)))) := Lib.hid rfl
  by_cases h1 : n < 1
  · have hE : hasF a b n = false := by rw [HF.out, decide_eq_false (by omega)]; rfl
    rw [hE]
    go_enter Tryz.func28, Tryz.ntmps28
    go_wp2
    go_ret
    exact ⟨rfl, rfl⟩
  · by_cases h2 : 0 < a
    · by_cases h3 : b ≤ n
      · have hE : hasF a b n = decide ((n - b) % a = 0) := by rw [HF.out, decide_eq_true (show 1 ≤ n by omega), if_pos h2, decide_eq_true h3]; rfl
        have hW : IntKind.u64.wrap (n - IntKind.u64.wrap b) = n - b := by rw [u64_wrap, u64_wrap]; omega
        rw [hE]
        go_enter Tryz.func28, Tryz.ntmps28
        go_wp2
        go_ret
        exact ⟨rfl, rfl⟩
      · have hE : hasF a b n = false := by rw [HF.out, decide_eq_true (show 1 ≤ n by omega), if_pos h2, decide_eq_false h3]; rfl
        rw [hE]
        go_enter Tryz.func28, Tryz.ntmps28
        go_wp2
        go_ret
        exact ⟨rfl, rfl⟩
    · by_cases h4 : a < 0
      · by_cases h3 : n ≤ b
        · have hE : hasF a b n = decide ((b - n) % (-a) = 0) := by rw [HF.out, decide_eq_true (show 1 ≤ n by omega), if_neg h2, if_pos h4, decide_eq_true h3]; rfl
          have hW : IntKind.u64.wrap (b - n) = b - n := by rw [u64_wrap]; omega
          have hW2 : IntKind.u64.wrap (-IntKind.u64.wrap a) = -a := by rw [u64_wrap, u64_wrap]; omega
          have hne : ((-a : Int) == 0) = false := beq_eq_false_iff_ne.2 (by omega)
          rw [hE]
          go_enter Tryz.func28, Tryz.ntmps28
          go_wp2
          go_ret
          exact ⟨rfl, rfl⟩
        · have hE : hasF a b n = false := by rw [HF.out, decide_eq_true (show 1 ≤ n by omega), if_neg h2, if_pos h4, decide_eq_false h3]; rfl
          rw [hE]
          go_enter Tryz.func28, Tryz.ntmps28
          go_wp2
          go_ret
          exact ⟨rfl, rfl⟩
      · have hE : hasF a b n = (n == b) := by rw [HF.out, decide_eq_true (show 1 ≤ n by omega), if_neg h2, if_neg h4, Bool.true_and]; rfl
        rw [hE]
        go_enter Tryz.func28, Tryz.ntmps28
        go_wp2
        go_ret
        exact ⟨rfl, rfl⟩
end

section
open Go.RowKit

theorem freeze_new (w : World) (C : Array Value) (e : TypeId) (m : Nat) : (w.alloc (.cells C e)).freeze ⟨w.heap.size, m, none⟩ 1 = w.alloc (.cells C e (m, m + 1)) := by
  have hm : ∀ (a : Array Obj) (x : Obj) (f : Obj → Obj), (a.push x).modify a.size f = a.push (f x) := by
    intro a x f
    apply Array.ext
    · simp
    · intro i h1 h2
      simp only [Array.getElem_modify, Array.getElem_push]
      by_cases h : a.size = i
      · subst h
        simp
      · have hi : i < a.size := by simp at h1; omega
        simp [h, hi]
  unfold World.freeze
  rw [if_neg (by decide)]
  show ({ w.alloc (.cells C e) with heap := (w.heap.push (.cells C e)).modify w.heap.size _ } : World) = _
  rw [hm]
  rfl
theorem conv_bytes (w : World) (C : Array Value) (n c : Nat) : (convert 22 22 (.slice (some ⟨w.heap.size, 0, none⟩) n c)).run Tryz.prog (w.alloc (.cells C 5)) = .ok (.slice (some ⟨w.heap.size, 0, none⟩) n c) (w.alloc (.cells C 5 (C.size, C.size + 1))) := by
  have hsh : (w.alloc (.cells C 5)).shape? w.heap.size = some (5, C.size) := by
    have : (w.alloc (.cells C 5)).heap[w.heap.size]? = some (.cells C 5) := by
      show (w.heap.push (.cells C 5))[w.heap.size]? = _
      simp
    unfold World.shape?
    rw [this]
  simp [convert, run_underlying Tryz.underlying22, run_underlying Tryz.underlying5, markStringish, hsh, freeze_new]
/-- A block of numbers, marked as a string's bytes. -/
theorem reads_marked (w : World) (k : IntKind) (zs : List Int) (T : TypeId) (m : Nat × Nat) (n : Nat) (hn : zs.length = n) (hm : n ≤ maxLen) : Reads (w.alloc (.cells (zs.map (Value.int k)).toArray T m)) k (some ⟨w.heap.size, 0, none⟩) n zs := by
  subst hn
  refine ⟨Nat.le_refl _, hm, .inr ⟨_, _, rfl, by simp, fun j hj => ?_⟩⟩
  have hh := heap_alloc_new w (.cells (zs.map (Value.int k)).toArray T m)
  rw [Nat.zero_add]
  simp only [World.cell?, hh]
  simp [List.getElem?_eq_getElem hj]
end

section
open Go.RowKit

set_option maxRecDepth 100000 in
set_option maxHeartbeats 2000000 in
theorem parse_0 (a : Option Addr) (cap : Nat) (w : World) (h : ReadsT w a cap T0) (hE : HasER w) :
    Calls Tryz.prog 15 #[.slice a 6 cap] w (Told (.tuple #[.int .i64 2, .int .i64 1, .int .i64 5, .nilIface]) w) := by
  have hlt : 0 < w.heap.size := by obtain ⟨t, p, hc⟩ := hE; exact World.block_lt_of_cell? w _ hc
  have HE := Lib.hid hE; clear hE
  go_enter Tryz.func15, Tryz.ntmps15
  go_wp2_with fail
  refine (find_0 _ _ _ h).mono ?_
  rintro e w1 ⟨rfl, hb1⟩
  go_wp2_with fail
  have hbA := hb1.alloc hb1.size (.cells [.string ⟨#[50]⟩, .string ⟨#[43, 49]⟩, .int .i64 5].toArray 52)
  have BA : Blk (w1.alloc (.cells [.string ⟨#[50]⟩, .string ⟨#[43, 49]⟩, .int .i64 5].toArray 52)) w1.heap.size [.string ⟨#[50]⟩, .string ⟨#[43, 49]⟩, .int .i64 5] 52 := Blk.alloc _ _
  have hzA : (w1.alloc (.cells [.string ⟨#[50]⟩, .string ⟨#[43, 49]⟩, .int .i64 5].toArray 52)).heap.size = w1.heap.size + 1 := by simp
  refine (wholeA_2 _ (HE.out.below hbA hlt)).mono ?_
  rintro e w2 ⟨rfl, hb2⟩
  have B2 := BA.later hb2 (by omega)
  have hbw2 := hbA.trans (hb2.mono (by have := hb1.size; omega))
  have hz2 := hb2.size
  have c1 := B2.cell 1 _ rfl
  clear BA hb2
  go_wp2_with fail
  refine (wholeA_p1 _ (HE.out.below hbw2 hlt)).mono ?_
  rintro e w3 ⟨rfl, hb3⟩
  have B3 := B2.later hb3 (by omega)
  have hbw3 := hbw2.trans (hb3.mono hbw2.size)
  have c2 := B3.cell 2 _ rfl
  have hi := fun w => is_nil_any 56 (.int .i64 3) w
  clear c1 B2 hb3
  go_wp2_with (go_at_call 32; refine (hi _).mono ?_; rintro e wq ⟨rfl, hwq⟩; replace hwq := hwq.symm; subst hwq)
  go_quiet (fail)
  go_wp2
  refine bodyPost_ret (v := .tuple #[.int .i64 2, .int .i64 1, .int .i64 5, .nilIface]) (by simp [results, Tryz.results15, go_sem]) rfl ⟨rfl, below_drewN hbw3 _⟩

theorem prep0 : prepF (charsF [50, 110, 32, 43, 32, 49]) = [50, 110, 32, 43, 32, 49] := by decide +kernel
theorem chars0 : charsF [50, 110, 32, 43, 32, 49] = [50, 110, 32, 43, 32, 49] := by decide +kernel

set_option maxRecDepth 100000 in
set_option maxHeartbeats 2000000 in
theorem speaks4_any (w : World) (hE : HasER w) : Calls Tryz.prog 14 #[] w (Told (.bool true) w) := by
  have hlt : 0 < w.heap.size := by obtain ⟨t, p, hc⟩ := hE; exact World.block_lt_of_cell? w _ hc
  have HE := Lib.hid hE; clear hE
  have hr0 := reads_marked w .u8 [50, 110, 32, 43, 32, 49] 5 (6, 7) 6 rfl (by unfold maxLen; omega)
  have hrd := rread_any _ 6 6 [50, 110, 32, 43, 32, 49] _ rfl hr0 (by intro z hz; simp at hz; omega) (by omega)
  have cv := conv_bytes w #[.int .u8 50, .int .u8 110, .int .u8 32, .int .u8 43, .int .u8 32, .int .u8 49] 6 6
  go_enter Tryz.func14, Tryz.ntmps14
  go_wp2_with fail
  refine hrd.mono ?_
  rintro e w1 ⟨a1, c1, rfl, hr1, hb1⟩
  rw [T0_toks] at hr1 ⊢
  have hbw1 : Below w.heap.size w w1 := ((Below.refl w.heap.size w).alloc (Nat.le_refl _) _).trans (hb1.mono (by simp))
  clear hr0 hrd hb1
  go_wp2_with fail
  refine (parse_0 a1 c1 w1 hr1 (HE.out.below hbw1 hlt)).mono ?_
  rintro e w2 ⟨rfl, hb2⟩
  have hbw2 := hbw1.trans (hb2.mono hbw1.size)
  have k1 := fun w => has_any (-1) 3 1 w (by omega) (by omega) (by omega)
  have k2 := fun w => has_any (-1) 3 2 w (by omega) (by omega) (by omega)
  have k3 := fun w => has_any (-1) 3 3 w (by omega) (by omega) (by omega)
  have k4 := fun w => has_any (-1) 3 4 w (by omega) (by omega) (by omega)
  rw [show hasF (-1) 3 1 = true from by decide] at k1
  rw [show hasF (-1) 3 2 = true from by decide] at k2
  rw [show hasF (-1) 3 3 = true from by decide] at k3
  rw [show hasF (-1) 3 4 = false from by decide] at k4
  go_wp2_with ((first | (go_at_call 28; with_reducible refine (k1 _).mono ?_) | (go_at_call 28; with_reducible refine (k2 _).mono ?_) | (go_at_call 28; with_reducible refine (k3 _).mono ?_) | (go_at_call 28; with_reducible refine (k4 _).mono ?_)); rintro e wq ⟨rfl, hwq⟩; replace hwq := hwq.symm; subst hwq)
  go_ret
  exact ⟨rfl, hbw2⟩
end

section
open Go.RowKit

set_option maxRecDepth 100000 in
theorem atoi_any (s : ByteArray) (w : World) (h : numB s = true) (h1 : 0 < s.size) (hs : s.size ≤ 18) : Calls Tryz.prog 53 #[.string s] w (Told (.tuple #[.int .i64 (valS s), .nilIface]) w) := by
  have h := fun w => atoiIn_any s w h h1 hs
  go_enter Tryz.func53, Tryz.ntmps53
  go_wp2_with fail
  refine (h _).mono ?_
  rintro e w1 ⟨rfl, hb1⟩
  go_wp2
  go_ret2
  exact ⟨rfl, hb1⟩

/-- What Whole tells of a number's text. -/
def WholePost (v : Int) (w : World) (r : Ending) (w' : World) : Prop :=
  Below w.heap.size w w' ∧ ((-2147483647 ≤ v ∧ v ≤ 2147483647 ∧ r = .returned (.tuple #[.int .i64 v, .nilIface])) ∨
    (¬ (-2147483647 ≤ v ∧ v ≤ 2147483647) ∧ ∃ e, w.heap.size ≤ e ∧ r = .returned (.tuple #[.int .i64 0, fltV e]) ∧ Blk w' e [.int .i64 3, .int .i64 0, .nilIface] 69))

set_option maxRecDepth 100000 in
set_option maxHeartbeats 1000000 in
theorem whole_any (s : ByteArray) (w : World) (hER : HasER w) (h : numB s = true) (h1 : 0 < s.size) (hs : s.size ≤ 18) (v : Int) (hv : valS s = v) (hvb : -1000000000000000000 ≤ v ∧ v ≤ 1000000000000000000) :
    Calls Tryz.prog 31 #[.string s] w (WholePost v w) := by
  have ha := fun w => atoi_any s w h h1 hs
  rw [hv] at ha
  have hn := isNumber_any s w (by omega)
  rw [h] at hn
  have hlt : 0 < w.heap.size := by obtain ⟨t, p, hc⟩ := hER; exact World.block_lt_of_cell? w _ hc
  have HE := Lib.hid hER; clear hER h hv
  obtain ⟨hv1, hv2⟩ := hvb
  rcases (show (v ≤ 2147483647 ∧ -2147483647 ≤ v) ∨ (2147483647 < v) ∨ (v ≤ 2147483647 ∧ v < -2147483647) from by omega) with ⟨b1, b2⟩ | b1 | ⟨b1, b2⟩
  all_goals
    go_enter Tryz.func31, Tryz.ntmps31
    go_wp2_with fail
    refine hn.mono ?_
    rintro e w1 ⟨rfl, hb1⟩
    go_wp2_with fail
    refine (ha _).mono ?_
    rintro e w2 ⟨rfl, hb2⟩
    have hb := hb1.trans (hb2.mono hb1.size)
    obtain ⟨t, p, hc⟩ := HE.out.below hb hlt
    have hi := fun w => is_nil_any t (.pointer (some p)) w
    go_wp2_with (go_at_call 32; refine (hi _).mono ?_; rintro e wq ⟨rfl, hwq⟩; replace hwq := hwq.symm; subst hwq)
  · go_ret2
    exact ⟨hb, .inl ⟨b2, b1, rfl⟩⟩
  · refine (fail_any 3 0 _).mono ?_
    rintro e w3 ⟨rfl, rfl⟩
    go_wp2
    go_ret2
    exact ⟨hb.alloc hb.size _, .inr ⟨by omega, _, hb.size, rfl, Blk.alloc _ _⟩⟩
  · refine (fail_any 3 0 _).mono ?_
    rintro e w3 ⟨rfl, rfl⟩
    go_wp2
    go_ret2
    exact ⟨hb.alloc hb.size _, .inr ⟨by omega, _, hb.size, rfl, Blk.alloc _ _⟩⟩

theorem and3 (x : Int) (h : 0 ≤ x ∧ x ≤ 255) : bits .and .u8 x 3 = 0 ∨ bits .and .u8 x 3 = 1 ∨ bits .and .u8 x 3 = 2 ∨ bits .and .u8 x 3 = 3 := by
  have key : ∀ k : Fin 256, bits .and .u8 ((k.val : Nat) : Int) 3 = 0 ∨ bits .and .u8 ((k.val : Nat) : Int) 3 = 1 ∨ bits .and .u8 ((k.val : Nat) : Int) 3 = 2 ∨ bits .and .u8 ((k.val : Nat) : Int) 3 = 3 := by decide +kernel
  have := key ⟨x.toNat, by omega⟩
  rwa [show ((x.toNat : Nat) : Int) = x by omega] at this
end

section
open Go.ChangeShapes Go.WideShapes Go.RowKit

theorem Tryz.gER : Tryz.prog.globalNamed "strconv.ErrRange" = some 0 := by kernel_rfl
theorem Tryz.gERType : (Tryz.prog.globals[0]?).map (·.type) = some 35 := by kernel_rfl
theorem Tryz.cellsES : Tryz.prog.cellsOf 176 = 1 := by kernel_rfl
theorem Tryz.cellsStr : Tryz.prog.cellsOf 9 = 1 := by kernel_rfl
theorem Tryz.starES : "*" ++ "errors.errorString" = "*errors.errorString" := by decide
theorem Tryz.rowES (u : TypeId) (h : Tryz.prog.typeName? 3 u = some "*errors.errorString") : u = 174 :=
  typeName_ptr_named (nm := "errors.errorString") (by rw [Tryz.starES]; kernel_rfl) (by kernel_rfl) (by decide) u (by rw [Tryz.starES]; exact h)

theorem wf64 {zs : List Int} (h : ∀ n ∈ zs, (Lit.int .i64 n).wf = true) : I64 zs := fun z hz => by
  have := h z hz
  have e1 : IntKind.i64.min = -9223372036854775808 := rfl
  have e2 : IntKind.i64.max = 9223372036854775807 := rfl
  simp only [Lit.wf, Bool.and_eq_true, decide_eq_true_eq] at this
  omega

theorem laidMet_tail {P : Program} {x : String × DataW Unit} {r : List (String × DataW Unit)} {W : World} (h : laidMet P (x :: r) W) : laidMet P r W := by
  obtain ⟨ps, ⟨g, t, cs, fuel, p, q, _, _, _, _, hr, rfl⟩, hnd, hrows⟩ := h
  exact ⟨q, hr, (List.nodup_append.1 hnd).2.1, fun b off hm => hrows b off (List.mem_append_right _ hm)⟩

/-- .. where it stands fourth on the list. -/
theorem hasER_4 {W : World} {a b c : String × DataW Unit} {text : List UInt8} {r : List (String × DataW Unit)}
    (h : laidMet Tryz.prog (a :: b :: c :: ("strconv.ErrRange", .iface "*errors.errorString" (.ptr (.agg [.lit (.string text)]))) :: r) W) : HasER W := by
  obtain ⟨a1, s1, hv1, _, _, _⟩ := laid_sentinel (laidMet_tail (laidMet_tail (laidMet_tail h))) Tryz.gER Tryz.gERType Tryz.underlying35 Tryz.rowES Tryz.underlying174 Tryz.underlying176 rfl rfl Tryz.underlying9 Tryz.cellsES Tryz.cellsStr
  exact ⟨174, a1, by simpa using World.var?_cell Tryz.gER hv1 0⟩
end
end Go.Proofs.YtickcbmfboajiaaGreatDoor
