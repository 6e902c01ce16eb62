/- Texts of mine in one: Bp3 Bp4 Bp5. -/
import Derived.Test.YtelbjnanpmdnnaaQ23
import Derived.Test.YtelbjnanpmdnnaaQ21
namespace Go.Proofs.Ytelbjnanpmdnnaa
section
open Go.RowKit
set_option linter.unusedVariables false
set_option linter.unusedSimpArgs false
theorem isB2_iff {ts : List Tk} {E j : Nat} {ks : List Int} : isB2 ts E j ks = true ↔ j < E ∧ ks.contains (kdA ts j) = true := by unfold isB2; rw [Bool.and_eq_true, decide_eq_true_iff]
def inK (ks : List Int) : Int → Bool := fun k => ks.contains k
set_option maxRecDepth 100000 in
set_option maxHeartbeats 8000000 in
theorem bpass_any {w : World} {B p b n cap : Nat} {ts : List Tk} {e : Int} {E j : Nat} (ak : Option Addr) (nk ck : Nat) (ks : List Int) (h : Rdr w B p b n cap ts e E j) (hk : ks.length = nk) (hr : Reads w .i64 ak ck ks) (hne : ∀ b off, ak = some ⟨b, off, none⟩ → b ≠ p) :
    Calls Try.prog 22 #[.pointer (some ⟨p, 0, none⟩), .slice ak nk ck] w (RdPost (.bool (decide (overF ts (inK ks) E j < E))) B p b n cap ts e E (overF ts (inK ks) E j) w) := by
  generalize hR : overF ts (inK ks) E j = R
  have HR := Lib.hid hR
  have H0 := Lib.hid h
  have HRD := Lib.hid hr
  have HNE := Lib.hid hne
  have hle := h.le
  have hsm := h.small
  have hbig := h.big
  have hcap := h.hcap
  have hcap2 := h.hcap2
  have hpw := h.blk.lt
  clear hR h hr hne
  go_enter Try.func22, Try.ntmps22
  go_wp2_with fail
  go_loopw [] (fun wr => ∃ (j' : Nat), Hid (Rdr wr B p b n cap ts e E j') ∧ Hid (overF ts (inK ks) E j' = R) ∧ j ≤ j' ∧ j' ≤ E ∧ Hid (w.grownBy wr (some p)))
    (fun wr => E - placeIn wr p)
  case atStart => exact ⟨j, H0, HR, Nat.le_refl _, hle, Lib.hid (World.grownBy.refl _ _)⟩
  case round =>
    obtain ⟨j', H, hS, h1, h2, hG⟩ := hrel
    clear H0 HR
    have hpl := Lib.hid H.out.place
    have cI := bis_any ak nk ck ks H.out hk (HRD.out.grownP hG.out HNE.out)
    by_cases hin : isB2 ts E j' ks = true
    · obtain ⟨hjE, hkk⟩ := isB2_iff.1 hin
      rw [hin] at cI
      have hn := (H.out.lt (Nat.le_refl _) hjE).1
      have HS2 : Hid (overF ts (inK ks) E (j' + 1) = R) := Lib.hid (by rw [← hS.out]; conv => rhs; rw [overF_step, if_pos ⟨hjE, hkk⟩])
      clear hS hin hkk
      go_wp2_with fail
      refine cI.mono ?_
      rintro e2 w2 ⟨rfl, hq⟩
      have H2 := Lib.hid (quiet_rdr hq H.out)
      have hG2 := Lib.hid (quiet_grown hq hG.out)
      have c1 := H2.out.blk.cell 1 _ rfl
      have f1 := H2.out.blk.frozen 1
      have h3' := H2.out.at_ (j' + 1) (by omega) (by omega)
      have H3 := Lib.hid h3'
      have hG3 := Lib.hid (grown_trans hG2.out (grown_setCell w2 p 1 (.int .i64 ((j' + 1 : Nat) : Int))))
      have hpl3 := Lib.hid h3'.place
      clear cI hq H hG h3' H2 hG2
      go_wp2
      go_roundw
      case rel => exact ⟨j' + 1, H3, HS2, by omega, by omega, hG3⟩
      case measure => have h5 := hpl3.out; rw [show ((j' + 1 : Nat) : Int) = (j' : Int) + 1 from by omega] at h5; rw [h5, hpl.out]; omega
    · have hRv : R = j' := by rw [← hS.out, overF_step, if_neg (show ¬ (j' < E ∧ inK ks (kdA ts j') = true) from fun hh => hin (isB2_iff.2 hh))]
      subst hRv
      have hin : isB2 ts E R ks = false := by simpa using hin
      rw [hin] at cI
      clear hS hin
      go_wp2_with fail
      refine cI.mono ?_
      rintro e2 w2 ⟨rfl, hq⟩
      have H2 := Lib.hid (quiet_rdr hq H.out)
      have hG2 := Lib.hid (quiet_grown hq hG.out)
      clear cI hq H hG
      have cM := bmore_any H2.out
      go_wp2_with fail
      refine cM.mono ?_
      rintro e3 w3 ⟨rfl, hq⟩
      have H3 := Lib.hid (quiet_rdr hq H2.out)
      have hG3 := Lib.hid (quiet_grown hq hG2.out)
      clear cM hq H2 hG2
      go_wp2
      go_ret
      exact ⟨rfl, H3.out, hG3.out⟩
set_option maxRecDepth 100000 in
set_option maxHeartbeats 8000000 in
theorem bupto_any {w : World} {B p b n cap : Nat} {ts : List Tk} {e : Int} {E j : Nat} (ak : Option Addr) (nk ck : Nat) (ks : List Int) (h : Rdr w B p b n cap ts e E j) (hk : ks.length = nk) (hr : Reads w .i64 ak ck ks) (hne : ∀ b off, ak = some ⟨b, off, none⟩ → b ≠ p) :
    Calls Try.prog 29 #[.pointer (some ⟨p, 0, none⟩), .slice ak nk ck] w (RdPost (.tuple #[]) B p b n cap ts e E (scanF ts (inK ks) E j) w) := by
  generalize hR : scanF ts (inK ks) E j = R
  have HR := Lib.hid hR
  have H0 := Lib.hid h
  have HRD := Lib.hid hr
  have HNE := Lib.hid hne
  have hle := h.le
  have hsm := h.small
  have hbig := h.big
  have hpw := h.blk.lt
  clear hR h hr hne
  go_enter Try.func29, Try.ntmps29
  go_wp2_with fail
  go_loopw [] (fun wr => ∃ (j' : Nat), Hid (Rdr wr B p b n cap ts e E j') ∧ Hid (scanF ts (inK ks) E j' = R) ∧ j ≤ j' ∧ j' ≤ E ∧ Hid (w.grownBy wr (some p)))
    (fun wr => E - placeIn wr p)
  case atStart => exact ⟨j, H0, HR, Nat.le_refl _, hle, Lib.hid (World.grownBy.refl _ _)⟩
  case round =>
    obtain ⟨j', H, hS, h1, h2, hG⟩ := hrel
    clear H0 HR
    have hpl := Lib.hid H.out.place
    have cM := bmore_any H.out
    by_cases hjE : j' < E
    · rw [decide_eq_true hjE] at cM
      go_wp2_with fail
      refine cM.mono ?_
      rintro e2 w2 ⟨rfl, hq⟩
      have H2 := Lib.hid (quiet_rdr hq H.out)
      have hG2 := Lib.hid (quiet_grown hq hG.out)
      clear cM hq H hG
      have cI := bis_any ak nk ck ks H2.out hk (HRD.out.grownP hG2.out HNE.out)
      by_cases hkk : inK ks (kdA ts j') = true
      · have hin : isB2 ts E j' ks = true := isB2_iff.2 ⟨hjE, hkk⟩
        have hRv : R = j' := by rw [← hS.out, scanF_step, if_neg (by rw [hkk]; simp)]
        subst hRv
        rw [hin] at cI
        clear hS hin hkk
        go_wp2_with fail
        refine cI.mono ?_
        rintro e3 w3 ⟨rfl, hq⟩
        have H3 := Lib.hid (quiet_rdr hq H2.out)
        have hG3 := Lib.hid (quiet_grown hq hG2.out)
        clear cI hq H2 hG2
        go_wp2
        go_end0
        exact ⟨rfl, H3.out, hG3.out⟩
      · have hkf : inK ks (kdA ts j') = false := by simpa using hkk
        have hin : isB2 ts E j' ks = false := by
          unfold isB2
          rw [show ks.contains (kdA ts j') = false from hkf, Bool.and_false]
        have HS2 : Hid (scanF ts (inK ks) E (cvF ts E j') = R) := Lib.hid (by rw [← hS.out]; conv => rhs; rw [scanF_step, if_pos ⟨hjE, hkf⟩])
        have hcb := cvF_bounds ts E j' hjE
        have hst := stackF_next ts E j' hjE
        rw [hin] at cI
        clear hS hin hkk hkf
        go_wp2_with fail
        refine cI.mono ?_
        rintro e3 w3 ⟨rfl, hq⟩
        have H3 := Lib.hid (quiet_rdr hq H2.out)
        have hG3 := Lib.hid (quiet_grown hq hG2.out)
        clear cI hq H2 hG2
        have cV := bvalue_any H3.out
        rw [hst] at cV
        clear hst
        go_wp2_with fail
        refine cV.mono ?_
        rintro e4 w4 ⟨rfl, h4, g4⟩
        have H4 := Lib.hid h4
        have hG4 := Lib.hid (grown_trans hG3.out g4)
        have hpl4 := Lib.hid h4.place
        clear cV h4 g4 H3 hG3
        go_wp2
        go_roundw
        case rel => exact ⟨_, H4, HS2, by omega, by omega, hG4⟩
        case measure => rw [hpl4.out, hpl.out]; omega
    · have hRv : R = j' := by rw [← hS.out, scanF_end _ _ _ _ (by omega)]
      rw [decide_eq_false hjE] at cM
      subst hRv
      clear hS
      go_wp2_with fail
      refine cM.mono ?_
      rintro e2 w2 ⟨rfl, hq⟩
      have H2 := Lib.hid (quiet_rdr hq H.out)
      have hG2 := Lib.hid (quiet_grown hq hG.out)
      clear cM hq H hG
      go_wp2
      go_end0
      exact ⟨rfl, H2.out, hG2.out⟩
end

section
open Go.RowKit
set_option linter.unusedVariables false
set_option linter.unusedSimpArgs false
def NewRd (b n cap : Nat) (ts : List Tk) (e : Int) (E j : Nat) (w : World) (en : Ending) (w' : World) : Prop :=
  ∃ p, en = .returned (.pointer (some ⟨p, 0, none⟩)) ∧ Rdr w' w.heap.size p b n cap ts e E j ∧ Below w.heap.size w w' ∧ p < w'.heap.size
set_option maxRecDepth 100000 in
set_option maxHeartbeats 4000000 in
theorem bnew_any {w : World} {b n cap : Nat} {ts : List Tk} (f t : Int) (a : Nat) (hT : TkRow w b n ts) (hcap : n ≤ cap) (hc2 : cap ≤ 9223372036854775807) (hn : n ≤ 1000000) (ha : (a : Int) = max f 0) (ha2 : (a : Int) ≤ 9223372036854775807) (E : Nat) (hE : endF ts (min t n).toNat a = E) :
    Calls Try.prog 21 #[.slice (some ⟨b, 0, none⟩) n cap, .int .i64 f, .int .i64 t] w (NewRd b n cap ts (min t n) E a w) := by
  have key : ∀ (L : List Value), L = [.slice (some ⟨b, 0, none⟩) n cap, .int .i64 (a : Int), .int .i64 (min t n)] → NewRd b n cap ts (min t n) E a w (.returned (.pointer (some ⟨w.heap.size, 0, none⟩))) (w.alloc (.cells L.toArray 58)) := by
    rintro L rfl
    have hge : a ≤ E := by rw [← hE]; exact endF_ge _ _ _
    have hle : E ≤ max a n := by have := endF_le ts (min t n).toNat a; omega
    have hb := (Below.refl w.heap.size w).alloc (Nat.le_refl _) (.cells [.slice (some ⟨b, 0, none⟩) n cap, .int .i64 (a : Int), .int .i64 (min t n)].toArray 58)
    refine ⟨w.heap.size, rfl, ⟨Blk.alloc _ _, hT.later hb hT.lt, hT.lt, Nat.le_refl _, hcap, hc2, hn, hge, by omega, by omega, fun i hi hiE => ?_⟩, hb, by simp⟩
    have hm := more_iff ts (min t n).toNat a i hi (by rw [hE]; exact hiE)
    rw [hE] at hm
    exact ⟨fun ⟨h1, h2⟩ => hm.1 ⟨by omega, h2⟩, fun h => by obtain ⟨h1, h2⟩ := hm.2 h; exact ⟨by omega, h2⟩⟩
  have HK := Lib.hid key
  clear key hE hT
  by_cases hf : f < 0
  · obtain rfl : a = 0 := by omega
    have HMX := Lib.hid (show max f 0 = ((0 : Nat) : Int) by omega)
    clear ha
    by_cases ht : (n : Int) < t
    · have hm : min t (n : Int) = n := by omega
      rw [hm] at HK ⊢
      have HMN := Lib.hid hm
      clear hm
      go_enter Try.func21, Try.ntmps21
      go_wp2
      go_ret
      exact HK.out _ (by first | rfl | simp only [HMX.out, HMN.out])
    · have hm : min t (n : Int) = t := by omega
      rw [hm] at HK ⊢
      have HMN := Lib.hid hm
      clear hm
      go_enter Try.func21, Try.ntmps21
      go_wp2
      go_ret
      exact HK.out _ (by first | rfl | simp only [HMX.out, HMN.out])
  · obtain rfl : f = (a : Int) := by omega
    have HMX := Lib.hid (show max (a : Int) 0 = (a : Int) by omega)
    clear ha
    by_cases ht : (n : Int) < t
    · have hm : min t (n : Int) = n := by omega
      rw [hm] at HK ⊢
      have HMN := Lib.hid hm
      clear hm
      go_enter Try.func21, Try.ntmps21
      go_wp2
      go_ret
      exact HK.out _ (by first | rfl | simp only [HMX.out, HMN.out])
    · have hm : min t (n : Int) = t := by omega
      rw [hm] at HK ⊢
      have HMN := Lib.hid hm
      clear hm
      go_enter Try.func21, Try.ntmps21
      go_wp2
      go_ret
      exact HK.out _ (by first | rfl | simp only [HMX.out, HMN.out])
end

section
open Go.RowKit
set_option linter.unusedVariables false
set_option linter.unusedSimpArgs false
def KsAt (w : World) (p : Nat) (a : Option Addr) (c : Nat) (ks : List Int) : Prop := Reads w .i64 a c ks ∧ ∀ b off, a = some ⟨b, off, none⟩ → b ≠ p ∧ b < w.heap.size
theorem KsAt.later {w w' : World} {p : Nat} {a : Option Addr} {c : Nat} {ks : List Int} (h : KsAt w p a c ks) (hb : Below w.heap.size w w') : KsAt w' p a c ks :=
  ⟨h.1.later hb, fun b off e => ⟨(h.2 b off e).1, Nat.lt_of_lt_of_le (h.2 b off e).2 hb.size⟩⟩
theorem KsAt.grownB {w w' : World} {p r : Nat} {a : Option Addr} {c : Nat} {ks : List Int} (h : KsAt w p a c ks) (hg : w.grownBy w' (some r)) (hr : r = p ∨ ∀ b off, a = some ⟨b, off, none⟩ → b < r) : KsAt w' p a c ks := by
  refine ⟨h.1.grownP hg fun b off e => ?_, fun b off e => ⟨(h.2 b off e).1, Nat.lt_of_lt_of_le (h.2 b off e).2 hg.size⟩⟩
  rcases hr with rfl | hr
  · exact (h.2 b off e).1
  · have := hr b off e; omega
theorem ks_alloc {w : World} {p : Nat} (ks : List Int) (hp : p < w.heap.size) (hk : ks.length ≤ 1000) : KsAt (w.alloc (.cells (ks.map (Value.int .i64)).toArray 3)) p (some ⟨w.heap.size, 0, none⟩) ks.length ks := by
  refine ⟨⟨Nat.le_refl _, by unfold maxLen; omega, .inr ⟨w.heap.size, 0, rfl, by simp, fun j hj => ?_⟩⟩, fun b off e => ?_⟩
  · have h1 : Blk (w.alloc (.cells (ks.map (Value.int .i64)).toArray 3)) w.heap.size (ks.map (Value.int .i64)) 3 := Blk.alloc _ _
    rw [Nat.zero_add]
    exact h1.cell j _ (by rw [List.getElem?_map, List.getElem?_eq_getElem hj]; rfl)
  · obtain ⟨rfl, _⟩ := (by injection e with e1; injection e1 with e2 e3 _; exact ⟨e2, e3⟩ : w.heap.size = b ∧ 0 = off)
    exact ⟨by omega, by simp⟩
theorem KsAt.drew {w : World} {p : Nat} {a : Option Addr} {c : Nat} {ks : List Int} (h : KsAt w p a c ks) : KsAt w.drew p a c ks := h
theorem Blk.drew {w : World} {p : Nat} {cs : List Value} {T : TypeId} (h : Blk w p cs T) : Blk w.drew p cs T := h
theorem Rdr.drew {w : World} {B p b n cap : Nat} {ts : List Tk} {e : Int} {E j : Nat} (h : Rdr w B p b n cap ts e E j) : Rdr w.drew B p b n cap ts e E j :=
  { h with blk := h.blk, row := h.row.of h.row.lt (fun o => rfl) }
def RlGo (x : Rl) (B p b n cap : Nat) (ts : List Tk) (e : Int) (E j : Nat) (w : World) (en : Ending) (w' : World) : Prop := en = .returned (.agg (rlCells x).toArray) ∧ Rdr w' B p b n cap ts e E j ∧ w.grownBy w' (some p)
def bodyF (ts : List Tk) (ks : List Int) (E j : Nat) : Rl × Nat :=
  if scanF ts (inK ks) E j < E ∧ kdA ts (scanF ts (inK ks) E j) = 23 then
    (⟨false, ⟨#[]⟩, j, scanF ts (inK ks) E j, true, scanF ts (inK ks) E j + 1, (blkF ts E (scanF ts (inK ks) E j)).1⟩, (blkF ts E (scanF ts (inK ks) E j)).2)
  else (⟨false, ⟨#[]⟩, j, scanF ts (inK ks) E j, false, 0, 0⟩, scanF ts (inK ks) E j)
set_option maxRecDepth 100000 in
set_option maxHeartbeats 16000000 in
theorem bbody_any {w : World} {B p b n cap : Nat} {ts : List Tk} {e : Int} {E j : Nat} (ak : Option Addr) (nk ck : Nat) (ks : List Int) (h : Rdr w B p b n cap ts e E j) (hk : ks.length = nk) (hr : KsAt w p ak ck ks) :
    Calls Try.prog 36 #[.pointer (some ⟨p, 0, none⟩), .slice ak nk ck] w (RlGo (bodyF ts ks E j).1 B p b n cap ts e E (bodyF ts ks E j).2 w) := by
  obtain ⟨i0, hi, hz0, hz1, hz2⟩ := info_parts Try.infoRule
  have hpw := h.blk.lt
  have hbB := h.lb
  have hBp := h.lp
  have hle := h.le
  have hbig := h.big
  have hsm := h.small
  have H0 := Lib.hid h
  have K0 := Lib.hid hr
  have HKA := Lib.hid fun b off e => (hr.2 b off e).2
  have hsc := scanF_bounds ts (inK ks) E j hle
  have HX : Hid (bodyF ts ks E j = if scanF ts (inK ks) E j < E ∧ kdA ts (scanF ts (inK ks) E j) = 23 then
    (⟨false, ⟨#[]⟩, j, scanF ts (inK ks) E j, true, scanF ts (inK ks) E j + 1, (blkF ts E (scanF ts (inK ks) E j)).1⟩, (blkF ts E (scanF ts (inK ks) E j)).2)
  else (⟨false, ⟨#[]⟩, j, scanF ts (inK ks) E j, false, 0, 0⟩, scanF ts (inK ks) E j)) := Lib.hid rfl
  generalize bodyF ts ks E j = X at *
  generalize hK : scanF ts (inK ks) E j = K at *
  have HKK := Lib.hid hK
  clear h hr hK
  go_enter Try.func36, Try.ntmps36
  go_upto_region 1 with (fail)
  have b1 : Blk (w.alloc (.cells [.bool false, .string ⟨#[]⟩, .int .i64 0, .int .i64 0, .bool false, .int .i64 0, .int .i64 0].toArray 32)) w.heap.size [.bool false, .string ⟨#[]⟩, .int .i64 0, .int .i64 0, .bool false, .int .i64 0, .int .i64 0] 32 := Blk.alloc _ _
  have H1 := Lib.hid (H0.out.later ((Below.refl w.heap.size w).alloc (Nat.le_refl _) (.cells [.bool false, .string ⟨#[]⟩, .int .i64 0, .int .i64 0, .bool false, .int .i64 0, .int .i64 0].toArray 32)))
  have G1 := Lib.hid (World.grownBy_alloc w (.cells [.bool false, .string ⟨#[]⟩, .int .i64 0, .int .i64 0, .bool false, .int .i64 0, .int .i64 0].toArray 32) (some p))
  have K0_1 := Lib.hid (K0.out.later ((Below.refl w.heap.size w).alloc (Nat.le_refl _) (.cells [.bool false, .string ⟨#[]⟩, .int .i64 0, .int .i64 0, .bool false, .int .i64 0, .int .i64 0].toArray 32)))
  have hz1 : w.heap.size < (w.alloc (.cells [.bool false, .string ⟨#[]⟩, .int .i64 0, .int .i64 0, .bool false, .int .i64 0, .int .i64 0].toArray 32)).heap.size := by simp
  generalize hw1 : (w.alloc (.cells [.bool false, .string ⟨#[]⟩, .int .i64 0, .int .i64 0, .bool false, .int .i64 0, .int .i64 0].toArray 32)) = w1 at *
  clear hw1
  have cr1 := H1.out.blk.cell 1 _ rfl
  go_upto_region 2 with (fail)
  clear cr1
  have b2 : Blk (w1.alloc (.cells [.bool false, .string ⟨#[]⟩, .int .i64 j, .int .i64 0, .bool false, .int .i64 0, .int .i64 0].toArray 32)) w1.heap.size [.bool false, .string ⟨#[]⟩, .int .i64 j, .int .i64 0, .bool false, .int .i64 0, .int .i64 0] 32 := Blk.alloc _ _
  have H2 := Lib.hid (H1.out.later ((Below.refl w1.heap.size w1).alloc (Nat.le_refl _) (.cells [.bool false, .string ⟨#[]⟩, .int .i64 j, .int .i64 0, .bool false, .int .i64 0, .int .i64 0].toArray 32)))
  have G2 := Lib.hid (grown_trans G1.out (World.grownBy_alloc w1 (.cells [.bool false, .string ⟨#[]⟩, .int .i64 j, .int .i64 0, .bool false, .int .i64 0, .int .i64 0].toArray 32) (some p)))
  have hlR2 := b1.lt
  have bR2 := b1.alloc_old (.cells [.bool false, .string ⟨#[]⟩, .int .i64 j, .int .i64 0, .bool false, .int .i64 0, .int .i64 0].toArray 32)
  have K0_2 := Lib.hid (K0_1.out.later ((Below.refl w1.heap.size w1).alloc (Nat.le_refl _) (.cells [.bool false, .string ⟨#[]⟩, .int .i64 j, .int .i64 0, .bool false, .int .i64 0, .int .i64 0].toArray 32)))
  have hz2 : w1.heap.size < (w1.alloc (.cells [.bool false, .string ⟨#[]⟩, .int .i64 j, .int .i64 0, .bool false, .int .i64 0, .int .i64 0].toArray 32)).heap.size := by simp
  have hs2 := G1.out.size
  generalize hw2 : (w1.alloc (.cells [.bool false, .string ⟨#[]⟩, .int .i64 j, .int .i64 0, .bool false, .int .i64 0, .int .i64 0].toArray 32)) = w2 at *
  generalize hg2 : w1.heap.size = q0 at *
  clear hw2 hg2
  clear b1 K0_1 H1 G1
  go_wp2_with fail
  refine (bupto_any ak nk ck ks H2.out hk K0_2.out.1 (fun b off e => (K0_2.out.2 b off e).1)).mono ?_
  rintro e3 w3 ⟨rfl, h3, g3⟩
  have H3 := Lib.hid h3
  have G3 := Lib.hid (grown_trans G2.out g3)
  have bR3 := bR2.kept g3 (fun e => by have := Option.some.inj e; omega)
  have bX3 := b2.kept g3 (fun e => by have := Option.some.inj e; omega)
  have K0_3 := Lib.hid (K0_2.out.grownB g3 (.inl rfl))
  have hs3 := G3.out.size
  clear bR2 b2 K0_2 H2 G2 g3 h3
  have hh := H3.out; rw [HKK.out] at hh; clear H3; have H3 := Lib.hid hh; clear hh
  have cr1 := H3.out.blk.cell 1 _ rfl
  have cX3 := bX3.cell 3 _ rfl
  have fX3 := bX3.frozen 3
  go_upto_region 4 with (fail)
  clear cr1
  clear cX3 fX3
  have g4' := (grown_setCell w3 q0 3 (.int .i64 K))
  have b4 := (bX3.setCell 3 (.int .i64 K))
  have H4 := Lib.hid (H3.out.grown g4' (fun e => by have := Option.some.inj e; omega) (fun e => by have := Option.some.inj e; omega))
  have G4 := Lib.hid (grown_own G3.out g4' (fun q e => by have := Option.some.inj e; omega))
  have bR4 := bR3.kept g4' (fun e => by have := Option.some.inj e; omega)
  have K0_4 := Lib.hid (K0_3.out.grownB g4' (.inr (fun b off e => by have := HKA.out b off e; omega)))
  have hE4 : w3.heap.size = (w3.setCell ⟨q0, 3, none⟩ (.int .i64 K)).heap.size := by simp
  try rw [hE4]
  clear hE4
  generalize (w3.setCell ⟨q0, 3, none⟩ (.int .i64 K)) = w4 at *
  clear bR3 K0_3 bX3 H3 G3 g4'
  go_wp2_with fail
  refine (btake_any 23 H4.out).mono ?_
  rintro e5 w5 ⟨rfl, h5, g5⟩
  have H5 := Lib.hid h5
  have G5 := Lib.hid (grown_trans G4.out g5)
  have bR5 := bR4.kept g5 (fun e => by have := Option.some.inj e; omega)
  have bX5 := b4.kept g5 (fun e => by have := Option.some.inj e; omega)
  have K0_5 := Lib.hid (K0_4.out.grownB g5 (.inl rfl))
  have hs5 := G5.out.size
  clear bR4 b4 K0_4 H4 G4 g5 h5
  by_cases hblk : K < E ∧ kdA ts K = 23
  · have hXv : X = (⟨false, ⟨#[]⟩, j, K, true, K + 1, (blkF ts E K).1⟩, (blkF ts E K).2) := by rw [HX.out, if_pos hblk]
    subst hXv
    have hh := H5.out; rw [if_pos hblk] at hh; clear H5; have H5 := Lib.hid hh; clear hh
    rw [decide_eq_true hblk.1, decide_eq_true hblk.2]
    have hKE := hblk.1
    have hbb := blkF_bounds ts E K hKE
    have hb1 : scanF ts (inK [24]) E (K + 1) = (blkF ts E K).1 := scanF_congr ts _ _ E (fun k => by unfold inK isK; simp) _
    have hb2 : (if (blkF ts E K).1 < E ∧ kdA ts (blkF ts E K).1 = 24 then (blkF ts E K).1 + 1 else (blkF ts E K).1) = (blkF ts E K).2 := by
      have h1 := scanF_stop ts (isK 24) E _ (K + 1) (Nat.le_refl _)
      unfold blkF
      dsimp only
      by_cases h2 : scanF ts (isK 24) E (K + 1) < E
      · rw [if_pos ⟨h2, isK_iff.1 (h1 h2)⟩]; omega
      · rw [if_neg (fun h => h2 h.1)]
        have := scanF_bounds ts (isK 24) E (K + 1) hKE
        omega
    generalize blkF ts E K = V at *
    obtain ⟨v1, v2⟩ := V
    dsimp only at hb1 hb2 hbb ⊢
    have HB1 := Lib.hid hb1
    have HB2 := Lib.hid hb2
    have hvt : ∃ tk : Bool, tk = (decide (v1 < E) && decide (kdA ts v1 = 24)) := ⟨_, rfl⟩
    clear hb1 hb2 HX HKK hblk hvt
    have cr1 := H5.out.blk.cell 1 _ rfl
    have cX4 := bX5.cell 4 _ rfl
    have fX4 := bX5.frozen 4
    have cX5 := bX5.cell 5 _ rfl
    have fX5 := bX5.frozen 5
    go_upto_region 6 with (fail)
    go_region
    go_wp2_with fail
    clear cr1
    clear cX4 fX4 cX5 fX5
    have g6' := (grown_trans (grown_setCell w5 q0 4 (.bool true)) (grown_setCell (w5.setCell ⟨q0, 4, none⟩ (.bool true)) q0 5 (.int .i64 ((K : Int) + 1))))
    have b6 := ((bX5.setCell 4 (.bool true)).setCell 5 (.int .i64 ((K : Int) + 1)))
    have H6 := Lib.hid (H5.out.grown g6' (fun e => by have := Option.some.inj e; omega) (fun e => by have := Option.some.inj e; omega))
    have G6 := Lib.hid (grown_own G5.out g6' (fun q e => by have := Option.some.inj e; omega))
    have bR6 := bR5.kept g6' (fun e => by have := Option.some.inj e; omega)
    have K0_6 := Lib.hid (K0_5.out.grownB g6' (.inr (fun b off e => by have := HKA.out b off e; omega)))
    have hE6 : w5.heap.size = ((w5.setCell ⟨q0, 4, none⟩ (.bool true)).setCell ⟨q0, 5, none⟩ (.int .i64 ((K : Int) + 1))).heap.size := by simp
    try rw [hE6]
    clear hE6
    generalize ((w5.setCell ⟨q0, 4, none⟩ (.bool true)).setCell ⟨q0, 5, none⟩ (.int .i64 ((K : Int) + 1))) = w6 at *
    clear bR5 K0_5 bX5 H5 G5 g6'
    have Kk1 : KsAt (w6.alloc (.cells [Value.int .i64 24].toArray 3)).drew p (some ⟨w6.heap.size, 0, none⟩) 1 [24] := (ks_alloc (w := w6) [24] (by have := H6.out.blk.lt; omega) (by decide)).drew
    have H7 := Lib.hid ((H6.out.later ((Below.refl w6.heap.size w6).alloc (Nat.le_refl _) (.cells [Value.int .i64 24].toArray 3))).drew)
    have G7 := Lib.hid (grown_drewN (grown_trans G6.out (World.grownBy_alloc w6 (.cells [Value.int .i64 24].toArray 3) (some p))) 1)
    have G7 : Hid (w.grownBy (w6.alloc (.cells [Value.int .i64 24].toArray 3)).drew (some p)) := G7
    have bR7 : Blk (w6.alloc (.cells [Value.int .i64 24].toArray 3)).drew w.heap.size [.bool false, .string ⟨#[]⟩, .int .i64 0, .int .i64 0, .bool false, .int .i64 0, .int .i64 0] 32 := (bR6.alloc_old (.cells [Value.int .i64 24].toArray 3)).drew
    have bX7 : Blk (w6.alloc (.cells [Value.int .i64 24].toArray 3)).drew q0 [.bool false, .string ⟨#[]⟩, .int .i64 j, .int .i64 K, .bool true, .int .i64 ((K : Int) + 1), .int .i64 0] 32 := (b6.alloc_old (.cells [Value.int .i64 24].toArray 3)).drew
    have K0_7 := Lib.hid (K0_6.out.later ((Below.refl w6.heap.size w6).alloc (Nat.le_refl _) (.cells [Value.int .i64 24].toArray 3)).drew)
    have hz7 : w6.heap.size < (w6.alloc (.cells [Value.int .i64 24].toArray 3)).drew.heap.size := by show w6.heap.size < (w6.alloc (.cells [Value.int .i64 24].toArray 3)).heap.size; simp
    have hk7 := H6.out.blk.lt
    generalize (w6.alloc (.cells [Value.int .i64 24].toArray 3)).drew = w7 at *
    generalize w6.heap.size = k1 at *
    have HKk1 := Lib.hid Kk1; clear Kk1
    clear bR6 b6 K0_6 H6 G6
    refine (bupto_any _ 1 1 [24] H7.out rfl HKk1.out.1 (fun b off e => (HKk1.out.2 b off e).1)).mono ?_
    rintro e8 w8 ⟨rfl, h8, g8⟩
    have H8 := Lib.hid h8
    have G8 := Lib.hid (grown_trans G7.out g8)
    have bR8 := bR7.kept g8 (fun e => by have := Option.some.inj e; omega)
    have bX8 := bX7.kept g8 (fun e => by have := Option.some.inj e; omega)
    have K0_8 := Lib.hid (K0_7.out.grownB g8 (.inl rfl))
    have hs8 := G8.out.size
    clear bR7 bX7 K0_7 H7 G7 g8 h8
    have hh := H8.out; rw [HB1.out] at hh; clear H8; have H8 := Lib.hid hh; clear hh
    have cr1 := H8.out.blk.cell 1 _ rfl
    have cX6 := bX8.cell 6 _ rfl
    have fX6 := bX8.frozen 6
    go_upto_region 9 with (fail)
    clear cr1
    clear cX6 fX6
    have g9' := (grown_setCell w8 q0 6 (.int .i64 v1))
    have b9 := (bX8.setCell 6 (.int .i64 v1))
    have H9 := Lib.hid (H8.out.grown g9' (fun e => by have := Option.some.inj e; omega) (fun e => by have := Option.some.inj e; omega))
    have G9 := Lib.hid (grown_own G8.out g9' (fun q e => by have := Option.some.inj e; omega))
    have bR9 := bR8.kept g9' (fun e => by have := Option.some.inj e; omega)
    have K0_9 := Lib.hid (K0_8.out.grownB g9' (.inr (fun b off e => by have := HKA.out b off e; omega)))
    have hE9 : w8.heap.size = (w8.setCell ⟨q0, 6, none⟩ (.int .i64 v1)).heap.size := by simp
    try rw [hE9]
    clear hE9
    generalize (w8.setCell ⟨q0, 6, none⟩ (.int .i64 v1)) = w9 at *
    clear bR8 K0_8 bX8 H8 G8 g9'
    go_wp2_with fail
    refine (btake_any 24 H9.out).mono ?_
    rintro e10 w10 ⟨rfl, h10, g10⟩
    have H10 := Lib.hid h10
    have G10 := Lib.hid (grown_trans G9.out g10)
    have bR10 := bR9.kept g10 (fun e => by have := Option.some.inj e; omega)
    have bX10 := b9.kept g10 (fun e => by have := Option.some.inj e; omega)
    have K0_10 := Lib.hid (K0_9.out.grownB g10 (.inl rfl))
    have hs10 := G10.out.size
    clear bR9 b9 K0_9 H9 G9 g10 h10
    have hh := H10.out; rw [HB2.out] at hh; clear H10; have H10 := Lib.hid hh; clear hh
    generalize (decide (v1 < E) && decide (kdA ts v1 = 24)) = tk at *
    have cX0 := bX10.cell 0 _ rfl
    have fX0 := bX10.frozen 0
    have cX1 := bX10.cell 1 _ rfl
    have fX1 := bX10.frozen 1
    have cX2 := bX10.cell 2 _ rfl
    have fX2 := bX10.frozen 2
    have cX3 := bX10.cell 3 _ rfl
    have fX3 := bX10.frozen 3
    have cX4 := bX10.cell 4 _ rfl
    have fX4 := bX10.frozen 4
    have cX5 := bX10.cell 5 _ rfl
    have fX5 := bX10.frozen 5
    have cX6 := bX10.cell 6 _ rfl
    have fX6 := bX10.frozen 6
    have cR0 := bR10.cell 0 _ rfl
    have fR0 := bR10.frozen 0
    have cR1 := bR10.cell 1 _ rfl
    have fR1 := bR10.frozen 1
    have cR2 := bR10.cell 2 _ rfl
    have fR2 := bR10.frozen 2
    have cR3 := bR10.cell 3 _ rfl
    have fR3 := bR10.frozen 3
    have cR4 := bR10.cell 4 _ rfl
    have fR4 := bR10.frozen 4
    have cR5 := bR10.cell 5 _ rfl
    have fR5 := bR10.frozen 5
    have cR6 := bR10.cell 6 _ rfl
    have fR6 := bR10.frozen 6
    go_wp2
    refine bodyPost_ret (v := .agg #[.bool false, .string ⟨#[]⟩, .int .i64 j, .int .i64 K, .bool true, .int .i64 (K + 1 : Nat), .int .i64 v1]) (by simp [results, Try.results36, go_sem, cR0, cR1, cR2, cR3, cR4, cR5, cR6]) rfl ⟨rfl, ?_, ?_⟩
    · exact H10.out.grown (set7g w10 w.heap.size _ _ _ _ _ _ _) (fun e => by have := Option.some.inj e; omega) (fun e => by have := Option.some.inj e; omega)
    · exact grown_own G10.out (set7g w10 w.heap.size _ _ _ _ _ _ _) (fun q e => by have := Option.some.inj e; omega)
  · have hXv : X = (⟨false, ⟨#[]⟩, j, K, false, 0, 0⟩, K) := by rw [HX.out, if_neg hblk]
    subst hXv
    have hh := H5.out; rw [if_neg hblk] at hh; clear H5; have H5 := Lib.hid hh; clear hh
    rw [show (decide (K < E) && decide (kdA ts K = 23)) = false from by cases hd : (decide (K < E) && decide (kdA ts K = 23)) with | false => rfl | true => exact absurd (by rw [Bool.and_eq_true, decide_eq_true_iff, decide_eq_true_iff] at hd; exact hd) hblk]
    clear HX HKK hblk
    have cX0 := bX5.cell 0 _ rfl
    have fX0 := bX5.frozen 0
    have cX1 := bX5.cell 1 _ rfl
    have fX1 := bX5.frozen 1
    have cX2 := bX5.cell 2 _ rfl
    have fX2 := bX5.frozen 2
    have cX3 := bX5.cell 3 _ rfl
    have fX3 := bX5.frozen 3
    have cX4 := bX5.cell 4 _ rfl
    have fX4 := bX5.frozen 4
    have cX5 := bX5.cell 5 _ rfl
    have fX5 := bX5.frozen 5
    have cX6 := bX5.cell 6 _ rfl
    have fX6 := bX5.frozen 6
    have cR0 := bR5.cell 0 _ rfl
    have fR0 := bR5.frozen 0
    have cR1 := bR5.cell 1 _ rfl
    have fR1 := bR5.frozen 1
    have cR2 := bR5.cell 2 _ rfl
    have fR2 := bR5.frozen 2
    have cR3 := bR5.cell 3 _ rfl
    have fR3 := bR5.frozen 3
    have cR4 := bR5.cell 4 _ rfl
    have fR4 := bR5.frozen 4
    have cR5 := bR5.cell 5 _ rfl
    have fR5 := bR5.frozen 5
    have cR6 := bR5.cell 6 _ rfl
    have fR6 := bR5.frozen 6
    go_wp2
    refine bodyPost_ret (v := .agg #[.bool false, .string ⟨#[]⟩, .int .i64 j, .int .i64 K, .bool false, .int .i64 0, .int .i64 0]) (by simp [results, Try.results36, go_sem, cR0, cR1, cR2, cR3, cR4, cR5, cR6]) rfl ⟨rfl, ?_, ?_⟩
    · exact H5.out.grown (set7g w5 w.heap.size _ _ _ _ _ _ _) (fun e => by have := Option.some.inj e; omega) (fun e => by have := Option.some.inj e; omega)
    · exact grown_own G5.out (set7g w5 w.heap.size _ _ _ _ _ _ _) (fun q e => by have := Option.some.inj e; omega)
end
end Go.Proofs.Ytelbjnanpmdnnaa
