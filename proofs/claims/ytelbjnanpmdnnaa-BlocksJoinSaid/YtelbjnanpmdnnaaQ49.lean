/- Texts of mine in one: Ra. -/
import Derived.Test.YtelbjnanpmdnnaaQ46
import Derived.Test.YtelbjnanpmdnnaaQ47
import Derived.Test.YtelbjnanpmdnnaaQ48
import Derived.Test.YtelbjnanpmdnnaaQ40
import Derived.Test.YtelbjnanpmdnnaaQ18
import Derived.Test.YtelbjnanpmdnnaaQ41
namespace Go.Proofs.Ytelbjnanpmdnnaa
section
open Go.RowKit
set_option linter.unusedVariables false
theorem sign_own (c : Int) (h : signKind c ≠ 9) : c = 40 ∨ c = 41 ∨ c = 91 ∨ c = 93 ∨ c = 123 ∨ c = 125 ∨ c = 44 ∨ c = 58 ∨ c = 59 := by
  unfold signKind at h
  repeat' split at h
  all_goals first | (exact absurd rfl h) | omega
theorem nameAt_dash {l : List Int} {j : Nat} (hna : nameAt l j = false) (h45 : isB l j 45 = true) : isB l (j + 1) 45 = false := by
  unfold nameAt at hna
  rw [if_pos h45, Bool.or_eq_false_iff, Bool.or_eq_false_iff] at hna
  exact hna.1.1
theorem isB_two {l : List Int} {j : Nat} {c d : Int} (h : isB l j c = true) (hd : c ≠ d) : isB l j d = false := decide_eq_false (by rw [isB_iff.1 h]; exact hd)
theorem rnext_some {b off n cap : Nat} {l : List Int} {w : World} (i : Int) (k : Nat) (h : Src w (some ⟨b, off, none⟩) n cap l) (hi : i = (k : Int)) (hk : k ≤ n) :
    Calls Try.prog 32 #[.slice (some ⟨b, off, none⟩) n cap, .int .i64 i] w (Told (tkV (nextF l k)) w) := by
  obtain ⟨j, hj⟩ : ∃ j, behindF l k = j := ⟨_, rfl⟩
  by_cases hjn : n ≤ j
  · exact rnext_end i k h hi hk j hj hjn
  have hjn : j < n := by omega
  rcases hsp : spB l j with _ | _
  rotate_left
  · exact rnext_space i k h hi hk j hj hjn hsp
  rcases h34 : isB l j 34 with _ | _
  rotate_left
  · exact rnx_quo34 i k h hi hk j hj hjn hsp h34
  rcases h39 : isB l j 39 with _ | _
  rotate_left
  · exact rnx_quo39 i k h hi hk j hj hjn hsp h34 h39
  rcases hnu : numAt l j with _ | _
  rotate_left
  · exact rnext_num i k h hi hk j hj hjn hsp h34 h39 hnu
  rcases hna : nameAt l j with _ | _
  rotate_left
  · rcases h45 : isB l j 45 with _ | _
    · exact rnx_name_d0 i k h hi hk j hj hjn hsp h34 h39 hnu h45 hna
    · rcases h45b : isB l (j + 1) 45 with _ | _
      · exact rnx_name_d1 i k h hi hk j hj hjn hsp h34 h39 hnu h45 h45b hna
      · rcases h62 : isB l (j + 2) 62 with _ | _
        · exact rnx_name_d2 i k h hi hk j hj hjn hsp h34 h39 hnu h45 h45b h62 hna
        · exact rnx_cdc i k h hi hk j hj hjn hsp h34 h39 hnu h45 h45b h62
  by_cases hsg : signKind (chA l j) = 9
  rotate_left
  · rcases sign_own _ hsg with hc | hc | hc | hc | hc | hc | hc | hc | hc
    · exact rnx_sign0 i k h hi hk j hj hjn hsp hnu hna hc
    · exact rnx_sign1 i k h hi hk j hj hjn hsp hnu hna hc
    · exact rnx_sign2 i k h hi hk j hj hjn hsp hnu hna hc
    · exact rnx_sign3 i k h hi hk j hj hjn hsp hnu hna hc
    · exact rnx_sign4 i k h hi hk j hj hjn hsp hnu hna hc
    · exact rnx_sign5 i k h hi hk j hj hjn hsp hnu hna hc
    · exact rnx_sign6 i k h hi hk j hj hjn hsp hnu hna hc
    · exact rnx_sign7 i k h hi hk j hj hjn hsp hnu hna hc
    · exact rnx_sign8 i k h hi hk j hj hjn hsp hnu hna hc
  rcases h45 : isB l j 45 with _ | _
  rotate_left
  · exact rnx_del_d i k h hi hk j hj hjn hsp h34 h39 hnu h45 (nameAt_dash hna h45) hna (isB_two h45 (by decide)) (isB_two h45 (by decide)) (isB_two h45 (by decide)) hsg
  rcases h60 : isB l j 60 with _ | _
  rotate_left
  · have h64 := isB_two h60 (d := 64) (by decide)
    have h35 := isB_two h60 (d := 35) (by decide)
    rcases h33 : isB l (j + 1) 33 with _ | _
    · exact rnx_del_oa i k h hi hk j hj hjn hsp h34 h39 hnu h45 hna h60 h33 h64 h35 hsg
    rcases g45 : isB l (j + 2) 45 with _ | _
    · exact rnx_del_ob i k h hi hk j hj hjn hsp h34 h39 hnu h45 hna h60 h33 g45 h64 h35 hsg
    rcases g45b : isB l (j + 3) 45 with _ | _
    · exact rnx_del_oc i k h hi hk j hj hjn hsp h34 h39 hnu h45 hna h60 h33 g45 g45b h64 h35 hsg
    · exact rnx_cdo i k h hi hk j hj hjn hsp h34 h39 hnu h45 hna h60 h33 g45 g45b
  rcases h64 : isB l j 64 with _ | _
  rotate_left
  · rcases hnb : nameAt l (j + 1) with _ | _
    · exact rnx_del_a i k h hi hk j hj hjn hsp h34 h39 hnu h45 hna h60 h64 hnb (isB_two h64 (by decide)) hsg
    · exact rnx_at i k h hi hk j hj hjn hsp h34 h39 hnu h45 hna h60 h64 hnb
  rcases h35 : isB l j 35 with _ | _
  · exact rnx_del_x i k h hi hk j hj hjn hsp h34 h39 hnu h45 hna h60 h64 h35 hsg
  · rcases hin : nmB l (j + 1) with _ | _
    · rcases hes : escB l (j + 1) with _ | _
      · exact rnx_del_h i k h hi hk j hj hjn hsp h34 h39 hnu h45 hna h60 h64 h35 hin hes hsg
      · exact rnx_hash_e i k h hi hk j hj hjn hsp h34 h39 hnu h45 hna h60 h64 h35 hin hes
    · exact rnx_hash_n i k h hi hk j hj hjn hsp h34 h39 hnu h45 hna h60 h64 h35 hin
theorem rnext_any {a : Option Addr} {n cap : Nat} {l : List Int} {w : World} (i : Int) (k : Nat) (h : Src w a n cap l) (hi : i = (k : Int)) (hk : k ≤ n) :
    Calls Try.prog 32 #[.slice a n cap, .int .i64 i] w (Told (tkV (nextF l k)) w) := by
  by_cases h0 : n ≤ behindF l k
  · exact rnext_end i k h hi hk _ rfl h0
  · obtain ⟨b, off, rfl, _⟩ := h.cell 0 (by omega)
    exact rnext_some i k h hi hk
set_option maxRecDepth 100000 in
set_option maxHeartbeats 4000000 in
theorem rall_any {a : Option Addr} {n cap : Nat} {l : List Int} {w : World} (h : Src w a n cap l) :
    Calls Try.prog 18 #[.slice a n cap] w (TksPost (allF l) w) := by
  obtain ⟨i0, hi, hz0, hz1, hz2⟩ := info_parts Try.infoTok
  have hlen := h.len
  have hsm := h.small
  have own0 := World.ownsRow_made (base := w.heap.size) (e := 52) (size := 6) w #[] 0 (Nat.le_refl _) (by simp [maxLen]) (by simp)
  generalize hR : allF l = R
  unfold allF at hR
  rw [hlen] at hR
  have HR := Lib.hid hR; clear hR
  have HL := Lib.hid hlen; clear hlen
  have HP := Lib.hid h; clear h
  go_enter Try.func18, Try.ntmps18
  go_wp2_with fail
  go_loopw [3, 4] (fun v at_ wr => ∃ (f j : Nat) (acc : List Tk), at_ = .int .i64 j ∧ wr.ownsRow w.heap.size 52 6 v acc.length (acc.flatMap tkCells) ∧ Hid (allGo f l j acc = R) ∧ n < j + f ∧ j ≤ n ∧ acc.length ≤ j ∧ Below w.heap.size w wr)
    (fun _ at_ _ => n - (intOf at_).toNat)
  case atStart => exact ⟨n + 1, 0, [], rfl, own0, HR, by omega, by omega, by simp, (Below.refl _ w).alloc (Nat.le_refl _) _⟩
  case round =>
    obtain ⟨f, j, acc, rfl, hown, hG, hf, hj, hal, hbl⟩ := hrel
    have hS := HP.out.later hbl
    obtain ⟨f, rfl⟩ : ∃ g, f = g + 1 := ⟨f - 1, by omega⟩
    have t2 : (nextF l j).kind ≠ 0 → j < (nextF l j).to ∧ (nextF l j).to ≤ n := fun hk => by
      rcases nextF_bd (l := l) (j := j) (by rw [HL.out]; exact hj) with ⟨h, _⟩ | ⟨_, _, h1, h2⟩
      · rw [h] at hk; exact absurd rfl hk
      · exact ⟨h1, by rw [← HL.out]; exact h2⟩
    have hx := rnext_any (j : Int) j hS rfl hj
    have hG' : Hid ((if (nextF l j).kind = 0 then acc ++ [nextF l j] else allGo f l (nextF l j).to (acc ++ [nextF l j])) = R) := Lib.hid (by rw [← hG.out]; rfl)
    clear hG
    generalize nextF l j = t at *
    go_wp2_with fail
    refine hx.mono ?_
    rintro e w2 ⟨rfl, hb2⟩
    have hown2 := owns_later hown hb2
    have hbl2 := hbl.trans (hb2.mono hbl.size)
    have hsz2 := hbl2.size
    have hsz := hbl.size
    clear hown hx hS
    have hA : ∀ o : Obj, (w2.alloc o).heap.size = w2.heap.size + 1 := fun o => by simp
    have hB := Blk.alloc (w := w2.alloc (.cells (tkCells t).toArray 52)) (tkCells t) 52
    rw [hA] at hB
    have hnews : ∀ j u, (tkCells t)[j]? = some u → ((w2.alloc (.cells (tkCells t).toArray 52)).alloc (.cells (tkCells t).toArray 52)).cell? ((⟨w2.heap.size + 1, 0, none⟩ : Addr).add j) = some u := fun j u hu => by
      have h0 := hB.cell j u hu
      rw [← h0]; congr 1; unfold Addr.add; simp <;> (intro h; exact h.symm)
    have hown4 := (hown2.alloc (.cells (tkCells t).toArray 52)).alloc (.cells (tkCells t).toArray 52)
    have hbl4 := (hbl2.alloc hsz2 (.cells (tkCells t).toArray 52)).alloc (by rw [hA]; omega) (.cells (tkCells t).toArray 52)
    have B5 : Blk ((w2.alloc (.cells (tkCells t).toArray 52)).alloc (.cells (tkCells t).toArray 52)) w2.heap.size (tkCells t) 52 := (Blk.alloc _ _).alloc_old _
    have hone := tk_cells t
    have hz4 : ((w2.alloc (.cells (tkCells t).toArray 52)).alloc (.cells (tkCells t).toArray 52)).heap.size = w2.heap.size + 2 := by simp
    unfold tkV
    rw [show (tkCells t).toArray = #[.int .i64 t.kind, .int .i64 t.frm, .int .i64 t.to, .string (strOfNums t.text), .string (strOfNums t.num), .bool t.whole] from rfl] at *
    have hlA : ∀ t : Tk, (acc ++ [t]).flatMap tkCells = acc.flatMap tkCells ++ tkCells t := fun t => by simp
    by_cases hk0 : t.kind = 0
    · have n0 : (t.kind == 0) = true := beq_iff_eq.2 hk0
      have hE : R = acc ++ [t] := by rw [← hG'.out, if_pos hk0]
      clear hk0 hG' t2
      go_wp2_with (at_builtin; refine wpList_append_own _ rfl _ _ 24 rfl w.heap.size 52 i0 _ 6 64 Try.underlying24 hi hz0 hz1 hz2 rfl (by decide) _ acc.length _ rfl hown4 ⟨w2.heap.size + 1, 0, none⟩ 1 1 (tkCells t) rfl rfl hnews hone (by unfold maxLen; omega) (by omega) (by simp <;> omega) ?_; intro v' w5 hown5 hgrow5 _; have hB6 : Blk w5 w2.heap.size (tkCells t) 52 := (hgrow5.block w2.heap.size (by omega) (fun e => by have := (hown2.lt _ e.symm).2; omega)).trans B5; have c0 := hB6.cell 0 _ rfl; have c2 := hB6.cell 2 _ rfl)
      have hbl5 : Below w.heap.size w w5 := hbl4.grown hgrow5 (by omega) (fun j hj => (hown2.lt j hj).1)
      go_ret
      rcases hown5.2 with ⟨_, hx0⟩ | ⟨g, cp, cur, hv, hg, hh, hn1, hn2, _, _⟩
      · omega
      · have hll : R.length = acc.length + 1 := by rw [hE, List.length_append]; rfl
        have hfm : R.flatMap tkCells = acc.flatMap tkCells ++ tkCells t := by rw [hE]; exact hlA t
        subst hv
        refine ⟨some ⟨g, 0, none⟩, cp, by rw [hll]; rfl, ⟨by rw [hll]; exact hn1, hn2, g, rfl, lt_of_block hh, fun j v hv => ?_⟩, hbl5⟩
        rw [hfm] at hv
        have h0 := hown5.cells (g := g) rfl j v hv
        rw [← h0]; congr 1; unfold Addr.add; simp
    · have n0 : (t.kind == 0) = false := beq_eq_false_iff_ne.2 hk0
      obtain ⟨t3, t4⟩ := t2 hk0
      have hG2 : Hid (allGo f l t.to (acc ++ [t]) = R) := Lib.hid (by rw [← hG'.out, if_neg hk0])
      clear hk0 hG' t2
      go_wp2_with (at_builtin; refine wpList_append_own _ rfl _ _ 24 rfl w.heap.size 52 i0 _ 6 64 Try.underlying24 hi hz0 hz1 hz2 rfl (by decide) _ acc.length _ rfl hown4 ⟨w2.heap.size + 1, 0, none⟩ 1 1 (tkCells t) rfl rfl hnews hone (by unfold maxLen; omega) (by omega) (by simp <;> omega) ?_; intro v' w5 hown5 hgrow5 _; have hB6 : Blk w5 w2.heap.size (tkCells t) 52 := (hgrow5.block w2.heap.size (by omega) (fun e => by have := (hown2.lt _ e.symm).2; omega)).trans B5; have c0 := hB6.cell 0 _ rfl; have c2 := hB6.cell 2 _ rfl)
      have hbl5 : Below w.heap.size w w5 := hbl4.grown hgrow5 (by omega) (fun j hj => (hown2.lt j hj).1)
      go_roundw
      case rel => exact ⟨f, t.to, acc ++ [t], by go_num, by rw [hlA, List.length_append]; exact hown5, hG2, by omega, by omega, by rw [List.length_append]; simp; omega, hbl5⟩
      case measure => simp [intOf]; omega
set_option maxRecDepth 100000 in
set_option maxHeartbeats 2000000 in
theorem rread_any (a : Option Addr) (n cap : Nat) (zs : List Int) (w : World) (hn : zs.length = n) (hr : Reads w .u8 a cap zs) (hz : U8 zs) (hsm : n ≤ 100000) :
    Calls Try.prog 8 #[.slice a n cap] w (TksPost (toksF zs) w) := by
  subst hn
  have hc := refChars_any a cap zs w hr hz (by omega)
  have hcl := chars_len zs
  have hci := chars_i64 zs hz
  unfold toksF
  unfold CharsPost at hc
  clear hr
  generalize charsF zs = cs at *
  go_enter Try.func8, Try.ntmps8
  go_wp2_with fail
  refine hc.mono ?_
  rintro e w1 ⟨a1, c1, rfl, hr1, hb1, _⟩
  have cP := refPrepare_any a1 c1 cs.length cs w1 rfl hr1 hci (by omega)
  have hpl := prepTo_len cs cs.length
  have hpp := prep_pre cs
  have hpl : (prepF cs).length ≤ cs.length := hpl
  unfold NewPost at cP
  generalize prepF cs = l at *
  clear hc hr1 hci hz
  go_wp2_with fail
  refine cP.mono ?_
  rintro e w2 ⟨a2, c2, rfl, hr2, hb2, _⟩
  have hb12 := below_trans hb1 hb2
  have cA := rall_any (a := a2) (cap := c2) (⟨hr2, rfl, hpp, by omega⟩ : Src w2 a2 l.length c2 l)
  clear cP hr2 hpp
  go_wp2_with fail
  refine cA.mono ?_
  rintro e w3 ⟨a3, c3, rfl, hr3, hb3⟩
  go_wp2
  go_ret
  exact ⟨a3, c3, rfl, hr3, below_trans hb12 hb3⟩
end
end Go.Proofs.Ytelbjnanpmdnnaa
