/- Texts of mine in one: Fps St2 St7 Stb. -/
import Derived.Test.YtcfhggdiccilaaaGreatQ37
import Derived.Test.YtcfhggdiccilaaaGreatQ34
namespace Go.Proofs.YtcfhggdiccilaaaGreat
section
open Go.RowKit
set_option linter.unusedVariables false
set_option linter.unusedSimpArgs false
def inCells (x : Int) (a : Option Addr) (n c : Nat) : List Value := [.int .i64 x]
def RIn (ok : Nat → Prop) (w : World) (a : Option Addr) (n c : Nat) (x : Int) : Prop := True
theorem RIn_moves : Moves RIn := fun _ _ _ _ _ _ _ _ _ _ => trivial
theorem ints_of {ok : Nat → Prop} {w : World} {a : Option Addr} {n c : Nat} {xs : List Int} (h : Rg 1 inCells RIn ok w a n c xs) : IntsAt ok w a n c xs :=
  RsOf.imp h (fun _ hb => hb) (fun b o x hb hx => by
    obtain ⟨_, _, _, h1, _⟩ := hx
    exact h1 0 _ rfl)
theorem TryzinfoInt : (Tryz.prog.info? 3).map (fun i => (i.zero, i.size, i.bytes)) = some (some (.int .i64 0), 1, 8) := by kernel_rfl
def RowC (d p base : Nat) (N : NmV) (nm : Nm) (k : List (Int × List (Flat × Lx d))) : Prop :=
  ∀ (w : World) (st : PenS) (V : PV) (X : List (Option Nat)) (xa : Option Addr) (n c : Nat), PenAt w p base N nm st V X → RdX (· < p) (RdL (· < p) d w) w xa n c k → st.tot + cntX (cntL d) k ≤ 1000000 →
    Calls Tryz.prog 43 #[.pointer (some ⟨p, 0, none⟩), .agg #[.slice xa n c]] w (RwP p base N nm X (penRow (penL nm d) nm st k) V w)
set_option maxRecDepth 100000 in
set_option maxHeartbeats 8000000 in
theorem plist_step {d p base : Nat} {N : NmV} {nm : Nm} (x : List (List (Int × List (Flat × Lx d)))) (hR : ∀ k ∈ x, RowC d p base N nm k) {w : World} {st : PenS} {V : PV} {X : List (Option Nat)} {xa : Option Addr} {n c : Nat} (h : PenAt w p base N nm st V X) (hx : RsOf (· < p) 1 (ComplexAt (· < p) (RdL (· < p) d w) w) xa n c x) (ht : st.tot + (x.map (cntX (cntL d))).sum ≤ 1000000) :
    Calls Tryz.prog 26 #[.pointer (some ⟨p, 0, none⟩), .slice xa n c] w (LisP p base N nm X (penRows (penL nm d) nm st x) V w) := by
  obtain ⟨iI, hiI, hzI⟩ := Option.map_eq_some_iff.1 TryzinfoInt
  simp only [Prod.mk.injEq] at hzI
  have HII := Lib.hid (And.intro hiI hzI)
  clear hiI hzI
  have hplt := h.blk.lt
  have hpb := h.pb
  have hbA := (Below.refl w.heap.size w).alloc (Nat.le_refl _) (.cells #[] 3)
  have HBA := Lib.hid hbA
  have PA := Lib.hid (h.fresh (g := w.heap.size) hbA (Nat.le_refl _) (by simp))
  have HV0 : (w.alloc (.cells #[] 3)).ownsRow w.heap.size 3 1 (.slice (some ⟨w.heap.size, 0, none⟩) 0 0) 0 [] := owns_emptyE 1 (show Blk (w.alloc (.cells #[] 3)) w.heap.size [] 3 from Blk.alloc [] _) (Nat.le_refl _)
  have HV0 := Lib.hid HV0
  have HH := Lib.hid h
  have HX := Lib.hid hx
  have HTT := Lib.hid ht
  have HRR := Lib.hid hR
  have HPL := Lib.hid (And.intro hplt hpb)
  have HXN := Lib.hid hx.1
  have hnm : n ≤ 140737488351232 := hx.2.2.1.2
  have HCL := Lib.hid (Nat.le_trans (len_cnt (g := cntL d) x) (Nat.le_trans (Nat.le_add_left _ _) ht))
  clear h hx ht hR hplt hpb hbA
  go_enter Tryz.func26, Tryz.ntmps26
  go_wp2
  go_loopw [5, 6] (fun v iv wr => ∃ (j : Nat) (V' : PV), j ≤ n ∧ iv = .int .i64 j ∧ Hid (PenAt wr p base N nm (penRows (penL nm d) nm st (x.take j)).2 V' (v.ownBlock :: X)) ∧ Hid (RowK 3 1 inCells RIn (okE base wr (V'.own ++ v.ownBlock :: X)) wr w.heap.size v (penRows (penL nm d) nm st (x.take j)).1) ∧ Hid (PG w wr p V V')) (fun _ iv _ => n - (intOf iv).toNat)
  case atStart => exact ⟨0, V, Nat.zero_le _, rfl, PA, Lib.hid (RowK.nil HV0.out), Lib.hid (PG.of_below HBA.out)⟩
  case round =>
    obtain ⟨j, V1, hj, rfl, HP, HI, HG⟩ := hrel
    have HIN := Lib.hid (fun b (hb : b < p) => HG.out.block b (by have := HPL.out.1; omega) (by omega) (fun hm => by have := (PV.own_lt HH.out hm).1; have := HPL.out.2; omega))
    have HLJ := Lib.hid (penRows_len (f := penL nm d) (nm := nm) (x.take j) st)
    by_cases hlt : j < n
    · obtain ⟨k, hk⟩ : ∃ k, x[j]? = some k := ⟨_, List.getElem?_eq_getElem (by rw [← HXN.out]; exact hlt)⟩
      obtain ⟨b, off, rfl, hb, ka, kn, kc, hk1, hk2⟩ := HX.out.at j k hk
      rw [Nat.mul_one] at hk1
      have u0 : wr.cell? ⟨b, off + j, none⟩ = some (.slice ka kn kc) := (cell_sameS (HIN.out b hb) _).trans hk1
      have hk2r : RdX (· < p) (RdL (· < p) d wr) wr ka kn kc k := RdX.move hk2 (fun b hb => ⟨hb, HIN.out b hb⟩) (fun _ _ _ _ h => RdL.move (fun b hb => ⟨hb, HIN.out b hb⟩) h)
      have hjI : (0 : Int) ≤ (j : Int) := by omega
      have hjI2 : (j : Int) < (n : Int) := by omega
      have HTJ := penRows_tot (nm := nm) (fun l st => penL_tot nm d l st) (x.take j) st
      have HCK := sum_take_succ (cntX (cntL d)) hk
      have HST := Lib.hid (show penRows (penL nm d) nm st (x.take (j + 1)) = ((penRows (penL nm d) nm st (x.take j)).1 ++ [(penRow (penL nm d) nm (penRows (penL nm d) nm st (x.take j)).2 k).1], (penRow (penL nm d) nm (penRows (penL nm d) nm st (x.take j)).2 k).2) from by rw [take_snoc hk, penRows_snoc])
      have fR := HRR.out k (List.mem_of_getElem? hk) wr _ V1 _ ka kn kc HP.out hk2r (by have := HTT.out; omega)
      generalize penRows (penL nm d) nm st (x.take j) = sj at *
      obtain ⟨rows, stj⟩ := sj
      dsimp only at HP HI HLJ HST fR
      have HRE := Lib.hid (show rows.length = j from by have := HLJ.out; rw [List.length_take] at this; have := HXN.out; omega)
      obtain ⟨ysx, hzx, hhx, hwx⟩ := HI.out
      rw [HRE.out] at hhx
      obtain ⟨va, vca, hvt⟩ := own_shape hhx
      subst hvt
      clear hzx hhx hwx
      generalize penRow (penL nm d) nm stj k = kr at *
      obtain ⟨rn, st5⟩ := kr
      dsimp only at HST
      have fR := fR.mono (R' := fun e w' => ∃ V' : PV, e = .returned (.int .i64 rn) ∧ PenAt w' p base N nm st5 V' ((Value.slice va j vca).ownBlock :: X) ∧ PG wr w' p V1 V') (fun e w' h => h)
      have hjm : j ≤ 1000000 := by have := HCL.out; have := HXN.out; omega
      clear hk hk1 hk2 hk2r HTJ HCK hb
      go_wp2_with (first
        | (go_at_call 43; (with_reducible refine fR.mono ?_); rintro e w5 ⟨V5, rfl, hP5, hG5⟩; have hbu := (Below.refl w5.heap.size w5).alloc (Nat.le_refl _) (.cells #[.int .i64 rn] 3); have P5 := Lib.hid (hP5.later hbu); have I5 := Lib.hid (RowK.later RIn_moves hbu (RowK.pg2 RIn_moves HP.out hG5 (by simp) HI.out)); have G5 := Lib.hid ((HG.out.trans hG5).trans (PG.of_below hbu)); have U5 := Lib.hid (show Blk (w5.alloc (.cells #[.int .i64 rn] 3)) w5.heap.size [.int .i64 rn] 3 from Blk.alloc [.int .i64 rn] _); have HWS5 := Lib.hid (Nat.le_trans HG.out.size hG5.size); clear hP5 hG5 hbu)
        | (at_builtin; obtain ⟨ys, hy1, hy2, hy3⟩ := I5.out; rw [HRE.out] at hy2; refine wpList_append_row2 rfl _ _ 27 rfl w.heap.size 3 iI _ 1 8 Tryz.underlying27 HII.out.1 HII.out.2.1 rfl (by decide) HII.out.2.2.1 HII.out.2.2.2 (.slice va j vca) j _ rfl hy2 ⟨w5.heap.size, 0, none⟩ 1 (inCells rn none 0 0) rfl rfl (by intro u hu; simp only [inCells, List.mem_cons, List.not_mem_nil, or_false] at hu; subst hu; rfl) (fun jj u hu => by rw [show (⟨w5.heap.size, 0, none⟩ : Addr).add jj = ⟨w5.heap.size, jj, none⟩ from by simp [Addr.add]; intro hj; exact hj.symm]; exact U5.out.cell jj u hu) (by unfold maxLen; omega) (by omega) (by have := HWS5.out; simp; omega) ?_; intro v8 w8 hown8 hgr8 hv8; obtain ⟨a8, c8, rfl⟩ := own_shape hown8; have P8 := Lib.hid (P5.out.beside hgr8 hv8 (fun b e => (owns_own hown8 e).2)); have I8 := Lib.hid (RowK.snoc (ok' := okE base w8 (V5.own ++ (Value.slice a8 (j + 1) c8).ownBlock :: X)) (x := rn) (a := none) (n := 0) (c := 0) RIn_moves hy1 hy3 trivial (fun b hb => okE_head hgr8 hv8 hb) (by rw [HRE.out]; exact hown8)); have G8 := Lib.hid (G5.out.new hgr8 (fun g hg => (owns_own hy2 hg).1)); clear hy1 hy2 hy3 hown8 hgr8 hv8))
      go_roundw
      case rel => exact ⟨j + 1, V5, by omega, by go_num, by rw [HST.out]; exact P8, by rw [HST.out]; exact I8, G8⟩
      case measure => simp [intOf]; omega
    · obtain rfl : j = n := by omega
      have hjI2 : ¬ (j : Int) < (j : Int) := by omega
      have HTK := Lib.hid (show x.take j = x from List.take_of_length_le (by rw [← HXN.out]; exact Nat.le_refl _))
      rw [HTK.out] at HP HI HLJ
      generalize hpr : penRows (penL nm d) nm st x = sj at *
      obtain ⟨rows, stj⟩ := sj
      dsimp only at HP HI HLJ
      have hrl : rows.length ≤ 1000000 := by rw [HLJ.out]; exact HCL.out
      obtain ⟨a', c', hv, hI⟩ := RowK.done (cel := inCells) (sz := 1) RIn_moves (fun _ _ _ _ => rfl) HP.out (Nat.le_trans hrl (by omega)) HI.out
      subst hv
      have HI' := Lib.hid hI
      have HPR := Lib.hid hpr
      clear hI hpr
      go_wp2
      go_ret
      exact ⟨V1, a', c', rfl, ints_of HI'.out, hrl, HP.out.drop, HG.out⟩
theorem plist_any (p base : Nat) (N : NmV) (nm : Nm) : ∀ d, ListC d p base N nm
  | 0 => fun x w st V X a n c hP hx ht => by
    obtain ⟨rfl, hc⟩ := hx
    exact plist_step (d := 0) [] (fun k hk => by cases hk) hP ⟨rfl, Nat.zero_le _, ⟨hc, by omega⟩, .inl rfl⟩ ht
  | d + 1 => fun x w st V X a n c hP hx ht =>
    plist_step (d := d) x (fun k _ w st V X xa n c hP hx ht => prow_any (plist_any p base N nm d) k hP hx ht) hP hx ht
end

section
open Go.RowKit
set_option linter.unusedVariables false
set_option linter.unusedSimpArgs false
theorem keptF_snoc (rows : List RowF) (r : RowF) : keptF (rows ++ [r]) = keptF rows ++ keptR r.steps := by unfold keptF; rw [List.flatMap_append]; simp
theorem keptR_get (s : List (Int × List Tm)) (k : Nat) (h : k < s.length) : (keptR s)[k]? = some (((s[k + 1]?).map (·.1)).getD 0) := by
  unfold keptR
  rw [List.getElem?_map, List.getElem?_range h]
  rfl
def IntRow (w : World) (base : Nat) (v : Value) (out : List Int) : Prop := RowK 3 1 inCells RIn (fun _ => False) w base v out
theorem IntRow.done {w : World} {base : Nat} {v : Value} {out : List Int} (h : IntRow w base v out) (hn : out.length ≤ 100000000) : ∃ a c, v = .slice a out.length c ∧ IntsAt (fun b => base ≤ b ∧ b < w.heap.size) w a out.length c out := by
  obtain ⟨a', c', h3, h4⟩ := RowK.rd (cel := inCells) (sz := 1) RIn_moves (fun _ _ _ _ => rfl) (ok' := fun b => base ≤ b ∧ b < w.heap.size) h hn (fun _ h => h.elim) (fun g hg => RowK.own h hg)
  exact ⟨a', c', h3, ints_of h4⟩
theorem IntRow.stay {w w' : World} {base : Nat} {v : Value} {out : List Int} (h : IntRow w base v out) (hg : ∀ g, v.ownBlock = some g → w'.heap[g]? = w.heap[g]?) : IntRow w' base v out := RowK.stay RIn_moves hg (fun _ h => h.elim) h
theorem IntRow.own {w : World} {base g : Nat} {v : Value} {out : List Int} (h : IntRow w base v out) (hv : v.ownBlock = some g) : base ≤ g ∧ g < w.heap.size := RowK.own h hv
def IntsP (xs : List Int) (w : World) (e : Ending) (w' : World) : Prop := ∃ a c, e = .returned (.slice a xs.length c) ∧ IntsAt (fun b => w.heap.size ≤ b ∧ b < w'.heap.size) w' a xs.length c xs ∧ Below w.heap.size w w'
set_option maxRecDepth 100000 in
set_option maxHeartbeats 4000000 in
theorem kept_any {w : World} {P : PlV} {rows : List RowF} {ctrs : List CtF} (h : PlRd (· < w.heap.size) w P rows ctrs) (hs : stepsN rows ≤ 1000000) :
    Calls Tryz.prog 20 #[P.val] w (IntsP (keptF rows) w) := by
  obtain ⟨iI, hiI, hzI⟩ := Option.map_eq_some_iff.1 TryzinfoInt
  simp only [Prod.mk.injEq] at hzI
  have HII := Lib.hid (And.intro hiI hzI)
  clear hiI hzI
  have hb0 := (Below.refl w.heap.size w).alloc (Nat.le_refl _) (.cells #[.slice P.aa P.an P.ac, .slice P.ra P.rn P.rc, .slice P.ca P.cn P.cc, .slice P.la P.ln P.lc, .int .i64 P.st] 37)
  have HB0 := Lib.hid hb0
  have D0 := Lib.hid (show Blk (w.alloc (.cells #[.slice P.aa P.an P.ac, .slice P.ra P.rn P.rc, .slice P.ca P.cn P.cc, .slice P.la P.ln P.lc, .int .i64 P.st] 37)) w.heap.size [.slice P.aa P.an P.ac, .slice P.ra P.rn P.rc, .slice P.ca P.cn P.cc, .slice P.la P.ln P.lc, .int .i64 P.st] 37 from Blk.alloc [.slice P.aa P.an P.ac, .slice P.ra P.rn P.rc, .slice P.ca P.cn P.cc, .slice P.la P.ln P.lc, .int .i64 P.st] _)
  have z1 := D0.out.cell 1 _ rfl
  obtain ⟨aa, an, ac, ra, n, rc, ca, cn, cc, la, ln, lc, st⟩ := P
  dsimp only at *
  have HX : Hid (Rg 3 roCells RRo (· < w.heap.size) w ra n rc rows) := Lib.hid h.rows
  have HXN := Lib.hid (show n = rows.length from h.rows.1)
  have hnm : n ≤ 140737488351232 := h.rows.2.2.1.2
  have HS := Lib.hid hs
  have HNIL := Lib.hid (show IntRow (w.alloc (.cells #[.slice aa an ac, .slice ra n rc, .slice ca cn cc, .slice la ln lc, .int .i64 st] 37)) w.heap.size (.slice none 0 0) (keptF []) from RowK.nil (World.ownsRow_nil _ _ _ _))
  clear h hs hb0
  unfold PlV.val
  dsimp only
  go_enter Tryz.func20, Tryz.ntmps20
  go_wp2
  go_loopw [2, 10] (fun vv iv wr => ∃ (i : Nat) (v : Value), v = vv ∧ i ≤ n ∧ iv = .int .i64 i ∧ Hid (IntRow wr w.heap.size v (keptF (rows.take i))) ∧ Hid (Below w.heap.size w wr)) (fun _ iv _ => n - (intOf iv).toNat)
  case atStart => exact ⟨0, _, rfl, Nat.zero_le _, rfl, HNIL, HB0⟩
  case round =>
    obtain ⟨i, v, rfl, hi, rfl, HR, HB⟩ := hrel
    by_cases hlt : i < n
    · obtain ⟨r, hr⟩ : ∃ r, rows[i]? = some r := ⟨_, List.getElem?_eq_getElem (by rw [← HXN.out]; exact hlt)⟩
      obtain ⟨b, off, rfl, hb, sa, sn, sc, hc, hk⟩ := HX.out.at i r hr
      have u0 : wr.cell? ⟨b, off + i * 3, none⟩ = some (.int .i64 (r.first : Nat)) := (HB.out.cell (p := ⟨b, off + i * 3, none⟩) hb).trans (hc 0 _ rfl)
      have u1 : wr.cell? ⟨b, off + i * 3 + 1, none⟩ = some (.slice sa sn sc) := (HB.out.cell (p := ⟨b, off + i * 3 + 1, none⟩) hb).trans (hc 1 _ rfl)
      have u2 : wr.cell? ⟨b, off + i * 3 + 2, none⟩ = some (.string r.pseudo) := (HB.out.cell (p := ⟨b, off + i * 3 + 2, none⟩) hb).trans (hc 2 _ rfl)
      have hiI : (0 : Int) ≤ (i : Int) := by omega
      have hiI2 : (i : Int) < (n : Int) := by omega
      have HSNX := Lib.hid (show keptF (rows.take (i + 1)) = keptF (rows.take i) ++ keptR r.steps from by rw [take_snoc hr, keptF_snoc])
      have HLE := Lib.hid (show (keptF (rows.take i)).length + sn ≤ 1000000 from by
        have h1 := stepsN_take rows (i + 1)
        rw [take_snoc hr, stepsN_snoc, ← hk.1] at h1
        rw [keptF_len]
        have := HS.out
        omega)
      have HBn := Lib.hid (HB.out.alloc HB.out.size (.cells #[.int .i64 (r.first : Nat), .slice sa sn sc, .string r.pseudo] 78))
      have Dn := Lib.hid (show Blk (wr.alloc (.cells #[.int .i64 (r.first : Nat), .slice sa sn sc, .string r.pseudo] 78)) wr.heap.size [.int .i64 (r.first : Nat), .slice sa sn sc, .string r.pseudo] 78 from Blk.alloc [.int .i64 (r.first : Nat), .slice sa sn sc, .string r.pseudo] _)
      have hRn : IntRow (wr.alloc (.cells #[.int .i64 (r.first : Nat), .slice sa sn sc, .string r.pseudo] 78)) w.heap.size v (keptF (rows.take i)) := HR.out.stay (fun g hg => (((Below.refl wr.heap.size wr).alloc (Nat.le_refl _) _).block g (HR.out.own hg).2))
      have HRn := Lib.hid hRn
      have HNE := Lib.hid (show v.ownBlock ≠ some wr.heap.size from fun e => by have := (HR.out.own e).2; omega)
      have y1 := Dn.out.cell 1 _ rfl
      have hsn : sn ≤ 140737488351232 := hk.2.2.1.2
      have HK : Hid (Rg 2 stCells RSt (· < w.heap.size) w sa sn sc r.steps) := Lib.hid hk
      have HKN := Lib.hid (show sn = r.steps.length from hk.1)
      generalize hwk : wr.alloc (.cells #[.int .i64 (r.first : Nat), .slice sa sn sc, .string r.pseudo] 78) = w5 at *
      generalize hgg : wr.heap.size = gg at *
      generalize keptF (rows.take i) = acc at *
      clear hr hc hk hb hRn
      go_wp2
      clear u0 u1 u2 y1
      go_loopw [2, 17] (fun vv iv wr => ∃ (k : Nat) (v : Value), v = vv ∧ k ≤ sn ∧ iv = .int .i64 k ∧ Hid (IntRow wr w.heap.size v (acc ++ (keptR r.steps).take k)) ∧ Hid (Below w.heap.size w wr) ∧ Hid (Blk wr gg [.int .i64 (r.first : Nat), .slice sa sn sc, .string r.pseudo] 78) ∧ Hid (v.ownBlock ≠ some gg)) (fun _ iv _ => sn - (intOf iv).toNat)
      case atStart => exact ⟨0, _, rfl, Nat.zero_le _, rfl, by simpa using HRn, HBn, Dn, HNE⟩
      case round =>
        obtain ⟨k, v2, rfl, hk', rfl, HR2, HB2, HD2, HNE2⟩ := hrel
        by_cases hlt2 : k < sn
        · have y1 := HD2.out.cell 1 _ rfl
          have hkx := keptR_get r.steps k (by rw [← HKN.out]; exact hlt2)
          have HSK := Lib.hid (take_snoc hkx)
          have HLN := Lib.hid (show (acc ++ (keptR r.steps).take k).length = acc.length + k from by rw [List.length_append, List.length_take, keptR_len, ← HKN.out]; omega)
          have hal : acc.length + k ≤ 1000000 := by have := HLE.out; omega
          have hkI : (0 : Int) ≤ (k : Int) := by omega
          have hkI2 : (k : Int) < (sn : Int) := by omega
          by_cases hq : k + 1 < sn
          · obtain ⟨⟨cc, tms⟩, hst⟩ : ∃ s, r.steps[k + 1]? = some s := ⟨_, List.getElem?_eq_getElem (by rw [← HKN.out]; exact hq)⟩
            obtain ⟨b2, off2, rfl, hb2, ta, tn, tc, hcc, _⟩ := HK.out.at (k + 1) _ hst
            have e0 : wr.cell? ⟨b2, off2 + (k + 1) * 2, none⟩ = some (.int .i64 cc) := (HB2.out.cell (p := ⟨b2, off2 + (k + 1) * 2, none⟩) hb2).trans (hcc 0 _ rfl)
            rw [hst] at hkx HSK
            dsimp only [Option.map_some, Option.getD_some] at hkx HSK
            have hI0 : (0 : Int) ≤ (k : Int) + 1 := by omega
            have hI1 : (k : Int) + 1 < (sn : Int) := by omega
            have q1 : decide ((k : Int) + 1 < (sn : Int)) = true := decide_eq_true hI1
            clear hst hcc hb2 hkx
            obtain ⟨ys, hy1, hy2, hy3⟩ := HR2.out
            rw [HLN.out] at hy2
            have HY2 := Lib.hid hy2
            have HY1 := Lib.hid hy1
            obtain ⟨va, vca, hvt⟩ := own_shape hy2
            subst hvt
            have hbu := (Below.refl wr.heap.size wr).alloc (Nat.le_refl _) (.cells #[.int .i64 cc] 3)
            have HBU := Lib.hid hbu
            have HUB := Lib.hid (show Blk (wr.alloc (.cells #[.int .i64 cc] 3)) wr.heap.size [.int .i64 cc] 3 from Blk.alloc [.int .i64 cc] _)
            have HWS := Lib.hid HB2.out.size
            have HGL := Lib.hid HD2.out.lt
            clear hy1 hy2 hy3 hbu
            go_wp2_with (at_builtin; refine wpList_append_row2 rfl _ _ 27 rfl w.heap.size 3 iI _ 1 8 Tryz.underlying27 HII.out.1 HII.out.2.1 rfl (by decide) HII.out.2.2.1 HII.out.2.2.2 (.slice va (acc.length + k) vca) (acc.length + k) _ rfl (owns_laterE HBU.out HY2.out) ⟨wr.heap.size, 0, none⟩ 1 (inCells cc none 0 0) rfl rfl (by intro u hu; simp only [inCells, List.mem_cons, List.not_mem_nil, or_false] at hu; subst hu; rfl) (fun jj u hu => by rw [show (⟨wr.heap.size, 0, none⟩ : Addr).add jj = ⟨wr.heap.size, jj, none⟩ from by simp [Addr.add]; intro hj; exact hj.symm]; exact HUB.out.cell jj u hu) (by unfold maxLen; omega) (by omega) (by have := HWS.out; simp; omega) ?_; intro v8 w8 hown8 hgr8 hv8; have I8 := Lib.hid (show IntRow w8 w.heap.size v8 (acc ++ (keptR r.steps).take (k + 1)) from by rw [HSK.out, ← List.append_assoc]; exact RowK.snoc (cel := inCells) (R := RIn) (w := wr) (ok := fun _ => False) (ok' := fun _ => False) (x := cc) (a := none) (n := 0) (c := 0) RIn_moves HY1.out (fun _ _ => trivial) trivial (fun _ h => h.elim) (by rw [HLN.out]; exact hown8)); have B8 := Lib.hid ((HB2.out.trans (HBU.out.mono HB2.out.size)).grown hgr8 (Nat.le_trans HB2.out.size HBU.out.size) (fun g hg => (owns_own HY2.out hg).1)); have D8 := Lib.hid ((HD2.out.later HBU.out HGL.out).kept hgr8 HNE2.out); have N8 := Lib.hid (show v8.ownBlock ≠ some gg from by rcases hv8 with e | e; rw [e]; exact HNE2.out; rw [e]; intro e2; have h1 := Option.some.inj e2; have h2 := HBU.out.size; have h3 := HGL.out; omega); clear hown8 hgr8 hv8)
            go_roundw
            case rel => exact ⟨k + 1, _, rfl, by omega, by go_num, I8, B8, D8, N8⟩
            case measure => simp [intOf]; omega
          · have q1 : decide ((k : Int) + 1 < (sn : Int)) = false := decide_eq_false (by omega)
            rw [List.getElem?_eq_none (l := r.steps) (i := k + 1) (by rw [← HKN.out]; omega)] at hkx HSK
            dsimp only [Option.map_none, Option.getD_none] at hkx HSK
            clear hkx
            obtain ⟨ys, hy1, hy2, hy3⟩ := HR2.out
            rw [HLN.out] at hy2
            have HY2 := Lib.hid hy2
            have HY1 := Lib.hid hy1
            obtain ⟨va, vca, hvt⟩ := own_shape hy2
            subst hvt
            have hbu := (Below.refl wr.heap.size wr).alloc (Nat.le_refl _) (.cells #[.int .i64 0] 3)
            have HBU := Lib.hid hbu
            have HUB := Lib.hid (show Blk (wr.alloc (.cells #[.int .i64 0] 3)) wr.heap.size [.int .i64 0] 3 from Blk.alloc [.int .i64 0] _)
            have HWS := Lib.hid HB2.out.size
            have HGL := Lib.hid HD2.out.lt
            clear hy1 hy2 hy3 hbu
            go_wp2_with (at_builtin; refine wpList_append_row2 rfl _ _ 27 rfl w.heap.size 3 iI _ 1 8 Tryz.underlying27 HII.out.1 HII.out.2.1 rfl (by decide) HII.out.2.2.1 HII.out.2.2.2 (.slice va (acc.length + k) vca) (acc.length + k) _ rfl (owns_laterE HBU.out HY2.out) ⟨wr.heap.size, 0, none⟩ 1 (inCells 0 none 0 0) rfl rfl (by intro u hu; simp only [inCells, List.mem_cons, List.not_mem_nil, or_false] at hu; subst hu; rfl) (fun jj u hu => by rw [show (⟨wr.heap.size, 0, none⟩ : Addr).add jj = ⟨wr.heap.size, jj, none⟩ from by simp [Addr.add]; intro hj; exact hj.symm]; exact HUB.out.cell jj u hu) (by unfold maxLen; omega) (by omega) (by have := HWS.out; simp; omega) ?_; intro v8 w8 hown8 hgr8 hv8; have I8 := Lib.hid (show IntRow w8 w.heap.size v8 (acc ++ (keptR r.steps).take (k + 1)) from by rw [HSK.out, ← List.append_assoc]; exact RowK.snoc (cel := inCells) (R := RIn) (w := wr) (ok := fun _ => False) (ok' := fun _ => False) (x := 0) (a := none) (n := 0) (c := 0) RIn_moves HY1.out (fun _ _ => trivial) trivial (fun _ h => h.elim) (by rw [HLN.out]; exact hown8)); have B8 := Lib.hid ((HB2.out.trans (HBU.out.mono HB2.out.size)).grown hgr8 (Nat.le_trans HB2.out.size HBU.out.size) (fun g hg => (owns_own HY2.out hg).1)); have D8 := Lib.hid ((HD2.out.later HBU.out HGL.out).kept hgr8 HNE2.out); have N8 := Lib.hid (show v8.ownBlock ≠ some gg from by rcases hv8 with e | e; rw [e]; exact HNE2.out; rw [e]; intro e2; have h1 := Option.some.inj e2; have h2 := HBU.out.size; have h3 := HGL.out; omega); clear hown8 hgr8 hv8)
            go_roundw
            case rel => exact ⟨k + 1, _, rfl, by omega, by go_num, I8, B8, D8, N8⟩
            case measure => simp [intOf]; omega
        · obtain rfl : k = sn := by omega
          have hkI2 : ¬ (k : Int) < (k : Int) := by omega
          have HTR := Lib.hid (show (keptR r.steps).take k = keptR r.steps from List.take_of_length_le (by rw [keptR_len]; have := HKN.out; omega))
          have HR3 := Lib.hid (show IntRow wr w.heap.size v2 (keptF (rows.take (i + 1))) from by rw [HSNX.out, ← HTR.out]; exact HR2.out)
          go_wp2
          go_roundw
          case rel => exact ⟨i + 1, _, rfl, by omega, by go_num, HR3, HB2⟩
          case measure => simp [intOf]; omega
    · obtain rfl : i = n := by omega
      have hiI2 : ¬ (i : Int) < (i : Int) := by omega
      have HTK := Lib.hid (show rows.take i = rows from List.take_of_length_le (by rw [← HXN.out]; exact Nat.le_refl _))
      rw [HTK.out] at HR
      obtain ⟨a', c', hv, hI⟩ := IntRow.done HR.out (by rw [keptF_len]; have := HS.out; omega)
      subst hv
      have HI := Lib.hid hI
      clear hI
      go_wp2
      go_ret
      exact ⟨a', c', rfl, HI.out, HB.out⟩
end

section
open Go.RowKit
set_option linter.unusedVariables false
set_option linter.unusedSimpArgs false
structure CxV where
  root : Bool
  ua : Option Addr
  un : Nat
  uc : Nat
  la : Option Addr
  ln : Nat
  lc : Nat
  ka : Option Addr
  kn : Nat
  kc : Nat
def CxV.val (X : CxV) : Value := .agg #[.bool X.root, .slice X.ua X.un X.uc, .slice X.la X.ln X.lc, .slice X.ka X.kn X.kc]
structure CxRd (ok : Nat → Prop) (w : World) (X : CxV) (up left : List Bool) (cnt : List Int) : Prop where
  up : BoolsAt ok w X.ua X.un X.uc up
  left : BoolsAt ok w X.la X.ln X.lc left
  cnt : IntsAt ok w X.ka X.kn X.kc cnt
theorem CxRd.move {ok ok' : Nat → Prop} {w w' : World} {X : CxV} {up left : List Bool} {cnt : List Int} (h : CxRd ok w X up left cnt) (ho : ∀ b, ok b → ok' b ∧ w'.heap[b]? = w.heap[b]?) : CxRd ok' w' X up left cnt :=
  ⟨h.up.move ho, h.left.move ho, h.cnt.move ho⟩
structure PlOk (w : World) (P : PlV) (rows : List RowF) (ctrs : List CtF) : Prop where
  rd : PlRd (· < w.heap.size) w P rows ctrs
  steps : stepsN rows ≤ 1000000
  nctr : ctrs.length ≤ 1000000
  first : ∀ r ∈ rows, r.first ≤ 1000000
  ab : ∀ c ∈ ctrs, (-1000000 ≤ c.a ∧ c.a ≤ 1000000) ∧ (-1000000 ≤ c.b ∧ c.b ≤ 1000000)
theorem PlOk.later {w w' : World} {P : PlV} {rows : List RowF} {ctrs : List CtF} (h : PlOk w P rows ctrs) (hb : Below w.heap.size w w') : PlOk w' P rows ctrs := ⟨h.rd.later hb, h.steps, h.nctr, h.first, h.ab⟩
section
variable {w w3 : World} {rb u l k n m : Nat} {root : Bool} {up left : List Bool} {cnt : List Int} {x0 x1 x2 x3 : Value}
theorem ctx_fin (hB : Below w.heap.size w w3) (hrb : w.heap.size ≤ rb) (hC : CtxAt w3 w.heap.size u l k up left cnt) (ru : rb ≠ u) (rl : rb ≠ l) (rk : rb ≠ k) (hE : Blk w3 rb [x0, x1, x2, x3] 29) :
    ((w3.setCell ⟨rb, 0, none⟩ (.bool root)).cell? ⟨rb, 0, none⟩ = some (.bool root) ∧ ((w3.setCell ⟨rb, 0, none⟩ (.bool root)).setCell ⟨rb, 1, none⟩ (.slice (some ⟨u, 0, none⟩) n n)).cell? ⟨rb, 1, none⟩ = some (.slice (some ⟨u, 0, none⟩) n n) ∧
      (((w3.setCell ⟨rb, 0, none⟩ (.bool root)).setCell ⟨rb, 1, none⟩ (.slice (some ⟨u, 0, none⟩) n n)).setCell ⟨rb, 2, none⟩ (.slice (some ⟨l, 0, none⟩) n n)).cell? ⟨rb, 2, none⟩ = some (.slice (some ⟨l, 0, none⟩) n n) ∧
      ((((w3.setCell ⟨rb, 0, none⟩ (.bool root)).setCell ⟨rb, 1, none⟩ (.slice (some ⟨u, 0, none⟩) n n)).setCell ⟨rb, 2, none⟩ (.slice (some ⟨l, 0, none⟩) n n)).setCell ⟨rb, 3, none⟩ (.slice (some ⟨k, 0, none⟩) m m)).cell? ⟨rb, 3, none⟩ = some (.slice (some ⟨k, 0, none⟩) m m)) ∧
    CtxAt ((((w3.setCell ⟨rb, 0, none⟩ (.bool root)).setCell ⟨rb, 1, none⟩ (.slice (some ⟨u, 0, none⟩) n n)).setCell ⟨rb, 2, none⟩ (.slice (some ⟨l, 0, none⟩) n n)).setCell ⟨rb, 3, none⟩ (.slice (some ⟨k, 0, none⟩) m m)) w.heap.size u l k up left cnt ∧
    Below w.heap.size w ((((w3.setCell ⟨rb, 0, none⟩ (.bool root)).setCell ⟨rb, 1, none⟩ (.slice (some ⟨u, 0, none⟩) n n)).setCell ⟨rb, 2, none⟩ (.slice (some ⟨l, 0, none⟩) n n)).setCell ⟨rb, 3, none⟩ (.slice (some ⟨k, 0, none⟩) m m)) := by
  have e0 := hE.setCell 0 (.bool root)
  have e1 := e0.setCell 1 (.slice (some ⟨u, 0, none⟩) n n)
  have e2 := e1.setCell 2 (.slice (some ⟨l, 0, none⟩) n n)
  have e3 := e2.setCell 3 (.slice (some ⟨k, 0, none⟩) m m)
  refine ⟨⟨e0.cell 0 _ rfl, e1.cell 1 _ rfl, e2.cell 2 _ rfl, e3.cell 3 _ rfl⟩, ?_, ?_⟩
  · have hst : ∀ (wx : World) (i : Nat) (v : Value), CtxAt wx w.heap.size u l k up left cnt → CtxAt (wx.setCell ⟨rb, i, none⟩ v) w.heap.size u l k up left cnt := fun wx i v h =>
      ⟨h.nu, h.nl, h.nk, h.ul, h.uk, h.lk, Blk.kept h.up (grown_setCell _ _ _ _) (fun e => ru (Option.some.inj e)), Blk.kept h.left (grown_setCell _ _ _ _) (fun e => rl (Option.some.inj e)), Blk.kept h.cnt (grown_setCell _ _ _ _) (fun e => rk (Option.some.inj e))⟩
    exact hst _ _ _ (hst _ _ _ (hst _ _ _ (hst _ _ _ hC)))
  · exact (((hB.setCell (p := ⟨rb, 0, none⟩) hrb _).setCell (p := ⟨rb, 1, none⟩) hrb _).setCell (p := ⟨rb, 2, none⟩) hrb _).setCell (p := ⟨rb, 3, none⟩) hrb _
end
set_option maxRecDepth 100000 in
set_option maxHeartbeats 4000000 in
theorem down_any {w : World} {P : PlV} {rows : List RowF} {ctrs : List CtF} {X : CxV} {up left : List Bool} {cnt : List Int} {ta : Option Addr} {tn tc : Nat} {truths : List Bool} (h : PlOk w P rows ctrs) (hx : CxRd (· < w.heap.size) w X up left cnt) (ht : BoolsAt (· < w.heap.size) w ta tn tc truths) :
    Calls Tryz.prog 8 #[P.val, X.val, .slice ta tn tc] w (NewCtx false (stepsN rows) ctrs.length (tellF 1 2 (keptF rows) up truths (List.replicate (stepsN rows) false)) (List.replicate (stepsN rows) false) (List.replicate ctrs.length 0) w) := by
  obtain ⟨root, ua, un, uc, xa, xn, xc, ka, kn, kc⟩ := X
  have HUP := Lib.hid hx.up
  have HTR := Lib.hid ht
  have HPL := Lib.hid h
  have HKL := Lib.hid (keptF_len rows)
  have hsn := h.steps
  have hmn := h.nctr
  clear h hx ht
  obtain ⟨aa, an, ac, ra, rn, rc, ca, cn, cc, la, ln, lc, st⟩ := P
  unfold PlV.val CxV.val
  dsimp only at *
  have hb1 := (Below.refl w.heap.size w).alloc (Nat.le_refl _) (.cells #[.slice aa an ac, .slice ra rn rc, .slice ca cn cc, .slice la ln lc, .int .i64 st] 37)
  have hb2 := hb1.alloc hb1.size (.cells #[.bool root, .slice ua un uc, .slice xa xn xc, .slice ka kn kc] 29)
  have hb3 := hb2.alloc hb2.size (.cells #[.bool false, .slice none 0 0, .slice none 0 0, .slice none 0 0] 29)
  have dA := ((Blk.alloc (w := w) (T := 37) [.slice aa an ac, .slice ra rn rc, .slice ca cn cc, .slice la ln lc, .int .i64 st]).alloc_old (.cells #[.bool root, .slice ua un uc, .slice xa xn xc, .slice ka kn kc] 29)).alloc_old (.cells #[.bool false, .slice none 0 0, .slice none 0 0, .slice none 0 0] 29)
  have dB := (Blk.alloc (w := (w.alloc (.cells #[.slice aa an ac, .slice ra rn rc, .slice ca cn cc, .slice la ln lc, .int .i64 st] 37))) (T := 29) [.bool root, .slice ua un uc, .slice xa xn xc, .slice ka kn kc]).alloc_old (.cells #[.bool false, .slice none 0 0, .slice none 0 0, .slice none 0 0] 29)
  have dC := Blk.alloc (w := ((w.alloc (.cells #[.slice aa an ac, .slice ra rn rc, .slice ca cn cc, .slice la ln lc, .int .i64 st] 37)).alloc (.cells #[.bool root, .slice ua un uc, .slice xa xn xc, .slice ka kn kc] 29))) (T := 29) [.bool false, .slice none 0 0, .slice none 0 0, .slice none 0 0]
  rw [show (w.alloc (.cells #[.slice aa an ac, .slice ra rn rc, .slice ca cn cc, .slice la ln lc, .int .i64 st] 37)).heap.size = w.heap.size + 1 from by simp] at dB
  rw [show ((w.alloc (.cells #[.slice aa an ac, .slice ra rn rc, .slice ca cn cc, .slice la ln lc, .int .i64 st] 37)).alloc (.cells #[.bool root, .slice ua un uc, .slice xa xn xc, .slice ka kn kc] 29)).heap.size = w.heap.size + 2 from by simp] at dC
  obtain ⟨w0, hw0⟩ : ∃ w0, (((w.alloc (.cells #[.slice aa an ac, .slice ra rn rc, .slice ca cn cc, .slice la ln lc, .int .i64 st] 37)).alloc (.cells #[.bool root, .slice ua un uc, .slice xa xn xc, .slice ka kn kc] 29)).alloc (.cells #[.bool false, .slice none 0 0, .slice none 0 0, .slice none 0 0] 29)) = w0 := ⟨_, rfl⟩
  have hsz : w0.heap.size = w.heap.size + 3 := by rw [← hw0]; simp
  rw [hw0] at hb3 dA dB dC
  have HB := Lib.hid hb3
  have HSZ := Lib.hid hsz
  have DA := Lib.hid dA
  have DB := Lib.hid dB
  have DC := Lib.hid dC
  have y0 := dA.cell 0 _ rfl
  have y1 := dA.cell 1 _ rfl
  have y2 := dA.cell 2 _ rfl
  have y3 := dA.cell 3 _ rfl
  have y4 := dA.cell 4 _ rfl
  have fF := fresh_any (HPL.out.later hb3).rd hsn hmn
  unfold PlV.val at fF
  dsimp only at fF
  clear dA dB dC hb1 hb2 hb3 hsz
  have HCE := Lib.hid (show IntsAt (fun b => b < w0.heap.size) w0 none 0 0 [] from ⟨rfl, Nat.le_refl _, ⟨by unfold maxLen; omega, by omega⟩, .inl rfl⟩)
  clear HCE
  go_enter Tryz.func8, Tryz.ntmps8
  go_wp2_with (go_at_call 18; (with_reducible refine fF.mono ?_); rintro e w1 ⟨u, l, k, rfl, hc1, hb1⟩; unfold ctxV; have C1 := Lib.hid hc1; have B1 := Lib.hid hb1; clear hc1 hb1)
  have hb2 := C1.out
  have hBD := B1.out.alloc (Nat.le_trans (Nat.le_refl _) B1.out.size) (.cells #[.bool false, .slice (some ⟨u, 0, none⟩) (stepsN rows) (stepsN rows), .slice (some ⟨l, 0, none⟩) (stepsN rows) (stepsN rows), .slice (some ⟨k, 0, none⟩) ctrs.length ctrs.length] 29)
  have DD := Blk.alloc (w := w1) (T := 29) [.bool false, .slice (some ⟨u, 0, none⟩) (stepsN rows) (stepsN rows), .slice (some ⟨l, 0, none⟩) (stepsN rows) (stepsN rows), .slice (some ⟨k, 0, none⟩) ctrs.length ctrs.length]
  have hC2 := hb2.stay (w' := w1.alloc (.cells #[.bool false, .slice (some ⟨u, 0, none⟩) (stepsN rows) (stepsN rows), .slice (some ⟨l, 0, none⟩) (stepsN rows) (stepsN rows), .slice (some ⟨k, 0, none⟩) ctrs.length ctrs.length] 29)) (fun b hb => ((Below.refl w1.heap.size w1).alloc (Nat.le_refl _) _).block b (by rcases hb with rfl | rfl | rfl; exact hb2.up.lt; exact hb2.left.lt; exact hb2.cnt.lt))
  have hgl : u < w1.heap.size ∧ l < w1.heap.size ∧ k < w1.heap.size := ⟨hb2.up.lt, hb2.left.lt, hb2.cnt.lt⟩
  have hw1s := B1.out.size
  generalize hw2 : w1.alloc (.cells #[.bool false, .slice (some ⟨u, 0, none⟩) (stepsN rows) (stepsN rows), .slice (some ⟨l, 0, none⟩) (stepsN rows) (stepsN rows), .slice (some ⟨k, 0, none⟩) ctrs.length ctrs.length] 29) = w2 at *
  generalize hgD : w1.heap.size = gD at *
  have HBD := Lib.hid (show Below w0.heap.size w0 w2.drew from hBD.drew)
  have DA2 := Lib.hid (show Blk w2.drew w.heap.size [.slice aa an ac, .slice ra rn rc, .slice ca cn cc, .slice la ln lc, .int .i64 st] 37 from DA.out.later HBD.out DA.out.lt)
  have DB2 := Lib.hid (show Blk w2.drew (w.heap.size + 1) [.bool root, .slice ua un uc, .slice xa xn xc, .slice ka kn kc] 29 from DB.out.later HBD.out DB.out.lt)
  have DC2 := Lib.hid (show Blk w2.drew (w.heap.size + 1 + 1) [.bool false, .slice none 0 0, .slice none 0 0, .slice none 0 0] 29 from DC.out.later HBD.out DC.out.lt)
  have DD2 := Lib.hid (show Blk w2.drew gD [.bool false, .slice (some ⟨u, 0, none⟩) (stepsN rows) (stepsN rows), .slice (some ⟨l, 0, none⟩) (stepsN rows) (stepsN rows), .slice (some ⟨k, 0, none⟩) ctrs.length ctrs.length] 29 from DD)
  have C2 := Lib.hid hC2.drew
  have HGL := Lib.hid hgl
  have HW1 := Lib.hid hw1s
  clear hb2 hBD DD hC2 hgl hw1s hw2 hgD C1 B1 y0 y1 y2 y3 y4 fF
  have HSB := Lib.hid (show Below w.heap.size w w2.drew from HB.out.trans (HBD.out.mono HB.out.size))
  have fK := kept_any (HPL.out.later HSB.out).rd hsn
  unfold PlV.val at fK
  dsimp only at fK
  have FT := Lib.hid (fun (w3 : World) (a3 : Option Addr) (c3 : Nat) (hI : IntsAt (fun b => w2.drew.heap.size ≤ b ∧ b < w3.heap.size) w3 a3 (keptF rows).length c3 (keptF rows)) (hb3 : Below w2.drew.heap.size w2.drew w3) =>
    tell_any (w := w3) 1 2 (n := stepsN rows) (C2.out.up.later hb3 C2.out.up.lt : BoolBlk w3 u _) (by simp) (hI.move (ok' := fun b => b < w3.heap.size ∧ b ≠ u) (fun b hb => ⟨⟨hb.2, fun e => by have h1 : u < w2.drew.heap.size := C2.out.up.lt; omega⟩, rfl⟩)) (by rw [HKL.out]; exact Nat.le_refl _)
      (HUP.out.move (ok' := fun b => b < w3.heap.size ∧ b ≠ u) (fun b hb => ⟨⟨Nat.lt_of_lt_of_le hb (Nat.le_trans HSB.out.size hb3.size), fun e => by have := C2.out.nu; have := HB.out.size; omega⟩, (hb3.block b (Nat.lt_of_lt_of_le hb HSB.out.size)).trans (HSB.out.block b hb)⟩))
      (HTR.out.move (ok' := fun b => b < w3.heap.size ∧ b ≠ u) (fun b hb => ⟨⟨Nat.lt_of_lt_of_le hb (Nat.le_trans HSB.out.size hb3.size), fun e => by have := C2.out.nu; have := HB.out.size; omega⟩, (hb3.block b (Nat.lt_of_lt_of_le hb HSB.out.size)).trans (HSB.out.block b hb)⟩)) (by omega))
  have i2a0 := DA2.out.cell 0 _ rfl
  have i2a1 := DA2.out.cell 1 _ rfl
  have i2a2 := DA2.out.cell 2 _ rfl
  have i2a3 := DA2.out.cell 3 _ rfl
  have i2a4 := DA2.out.cell 4 _ rfl
  have i2b1 := DB2.out.cell 1 _ rfl
  have i2d1 := DD2.out.cell 1 _ rfl
  go_region_held3 (fun w' => w'.cell? ⟨w.heap.size, 0, none⟩ = some (.slice aa an ac) ∧ w'.cell? ⟨w.heap.size, 1, none⟩ = some (.slice ra rn rc) ∧ w'.cell? ⟨w.heap.size, 2, none⟩ = some (.slice ca cn cc) ∧ w'.cell? ⟨w.heap.size, 3, none⟩ = some (.slice la ln lc) ∧ w'.cell? ⟨w.heap.size, 4, none⟩ = some (.int .i64 st) ∧ w'.cell? ⟨w.heap.size + 1, 1, none⟩ = some (.slice ua un uc) ∧ w'.cell? ⟨gD, 1, none⟩ = some (.slice (some ⟨u, 0, none⟩) (stepsN rows) (stepsN rows))) (first | exact ⟨i2a0, i2a1, i2a2, i2a3, i2a4, i2b1, i2d1⟩ | exact ⟨i3a0, i3a1, i3a2, i3a3, i3a4, i3b1, i3d1⟩ | exact ⟨i4a0, i4a1, i4a2, i4a3, i4a4, i4b1, i4d1⟩) (first
    | (go_at_call 20; (with_reducible refine fK.mono ?_); rintro e w3 ⟨a3, c3, rfl, hI, hb3⟩; have i3a0 := (DA2.out.later hb3 DA2.out.lt).cell 0 _ rfl; have i3a1 := (DA2.out.later hb3 DA2.out.lt).cell 1 _ rfl; have i3a2 := (DA2.out.later hb3 DA2.out.lt).cell 2 _ rfl; have i3a3 := (DA2.out.later hb3 DA2.out.lt).cell 3 _ rfl; have i3a4 := (DA2.out.later hb3 DA2.out.lt).cell 4 _ rfl; have i3b1 := (DB2.out.later hb3 DB2.out.lt).cell 1 _ rfl; have i3d1 := (DD2.out.later hb3 DD2.out.lt).cell 1 _ rfl; have HI3 := Lib.hid hI; have H3 := Lib.hid hb3; have fT := FT.out w3 a3 c3 hI hb3; clear hI hb3)
    | (go_at_call 19; (with_reducible refine fT.mono ?_); rintro e w4 ⟨rfl, hR4, hg4⟩; have i4a0 := ((DA2.out.later H3.out DA2.out.lt).kept hg4 (fun e => by have h1 := Option.some.inj e; have h2 := C2.out.nu; have h3 := HGL.out; have h4 := HSZ.out; omega)).cell 0 _ rfl; have i4a1 := ((DA2.out.later H3.out DA2.out.lt).kept hg4 (fun e => by have h1 := Option.some.inj e; have h2 := C2.out.nu; have h3 := HGL.out; have h4 := HSZ.out; omega)).cell 1 _ rfl; have i4a2 := ((DA2.out.later H3.out DA2.out.lt).kept hg4 (fun e => by have h1 := Option.some.inj e; have h2 := C2.out.nu; have h3 := HGL.out; have h4 := HSZ.out; omega)).cell 2 _ rfl; have i4a3 := ((DA2.out.later H3.out DA2.out.lt).kept hg4 (fun e => by have h1 := Option.some.inj e; have h2 := C2.out.nu; have h3 := HGL.out; have h4 := HSZ.out; omega)).cell 3 _ rfl; have i4a4 := ((DA2.out.later H3.out DA2.out.lt).kept hg4 (fun e => by have h1 := Option.some.inj e; have h2 := C2.out.nu; have h3 := HGL.out; have h4 := HSZ.out; omega)).cell 4 _ rfl; have i4b1 := ((DB2.out.later H3.out DB2.out.lt).kept hg4 (fun e => by have h1 := Option.some.inj e; have h2 := C2.out.nu; have h3 := HGL.out; have h4 := HSZ.out; omega)).cell 1 _ rfl; have i4d1 := ((DD2.out.later H3.out DD2.out.lt).kept hg4 (fun e => by have h1 := Option.some.inj e; have h2 := C2.out.nu; have h3 := HGL.out; have h4 := HSZ.out; omega)).cell 1 _ rfl; have R4 := Lib.hid hR4; have G4 := Lib.hid hg4; clear hR4 hg4))
  have HB4 := Lib.hid (show Below w.heap.size w w4 from ((HSB.out.trans (H3.out.mono HSB.out.size)).grown G4.out (Nat.le_trans HSB.out.size H3.out.size) (fun g hg => by have h1 := Option.some.inj hg; have h2 := C2.out.nu; have h3 := HSZ.out; omega)))
  have hgu : gD ≠ u ∧ w.heap.size + 1 + 1 ≠ u ∧ w.heap.size + 1 + 1 ≠ l ∧ w.heap.size + 1 + 1 ≠ k := by
    have h1 := C2.out.nu
    have h2 := C2.out.nl
    have h3 := C2.out.nk
    have h4 := HSZ.out
    have h5 := HGL.out
    omega
  have DD4 := Lib.hid ((DD2.out.later H3.out DD2.out.lt).kept G4.out (fun e => hgu.1 (Option.some.inj e).symm))
  have DC4 := Lib.hid ((DC2.out.later H3.out DC2.out.lt).kept G4.out (fun e => hgu.2.1 (Option.some.inj e).symm))
  have CC4 : CtxAt w4 w.heap.size u l k (tellF 1 2 (keptF rows) up truths (List.replicate (stepsN rows) false)) (List.replicate (stepsN rows) false) (List.replicate ctrs.length 0) :=
    ⟨by have := C2.out.nu; have := HSZ.out; omega, by have := C2.out.nl; have := HSZ.out; omega, by have := C2.out.nk; have := HSZ.out; omega, C2.out.ul, C2.out.uk, C2.out.lk, R4.out,
      Blk.kept (Blk.later C2.out.left H3.out C2.out.left.lt) G4.out (fun e => C2.out.ul (Option.some.inj e)), Blk.kept (Blk.later C2.out.cnt H3.out C2.out.cnt.lt) G4.out (fun e => C2.out.uk (Option.some.inj e))⟩
  obtain ⟨⟨r0, r1, r2, r3⟩, CF, BF⟩ := ctx_fin (root := false) (n := stepsN rows) (m := ctrs.length) HB4.out (by omega : w.heap.size ≤ w.heap.size + 1 + 1) CC4 hgu.2.1 hgu.2.2.1 hgu.2.2.2 DC4.out
  have HCF := Lib.hid CF
  have HBF := Lib.hid BF
  clear CF BF CC4 fT
  have j0 := DD4.out.cell 0 _ rfl
  have m0 := DC4.out.cell 0 _ rfl
  have n0 := DC4.out.frozen 0
  have j1 := DD4.out.cell 1 _ rfl
  have m1 := DC4.out.cell 1 _ rfl
  have n1 := DC4.out.frozen 1
  have j2 := DD4.out.cell 2 _ rfl
  have m2 := DC4.out.cell 2 _ rfl
  have n2 := DC4.out.frozen 2
  have j3 := DD4.out.cell 3 _ rfl
  have m3 := DC4.out.cell 3 _ rfl
  have n3 := DC4.out.frozen 3
  go_wp2
  (with_reducible refine bodyPost_ret (v := ctxV false u l k (stepsN rows) ctrs.length) ?_ rfl (newCtx_mk HCF.out HBF.out))
  simp [results, Tryz.results8, go_sem, ctxV, r0, r1, r2, r3]
end

section
open Go.RowKit
set_option linter.unusedVariables false
set_option linter.unusedSimpArgs false
set_option maxRecDepth 100000 in
set_option maxHeartbeats 2000000 in
theorem stepStart_any {w : World} {P : PlV} {rows : List RowF} {ctrs : List CtF} (h : PlOk w P rows ctrs) :
    Calls Tryz.prog 14 #[P.val] w (NewCtx true (stepsN rows) ctrs.length (List.replicate (stepsN rows) false) (List.replicate (stepsN rows) false) (List.replicate ctrs.length 0) w) := by
  have HPL := Lib.hid h
  have hsn := h.steps
  have hmn := h.nctr
  clear h
  obtain ⟨aa, an, ac, ra, rn, rc, ca, cn, cc, la, ln, lc, st⟩ := P
  unfold PlV.val
  dsimp only at *
  have hb1 := (Below.refl w.heap.size w).alloc (Nat.le_refl _) (.cells #[.slice aa an ac, .slice ra rn rc, .slice ca cn cc, .slice la ln lc, .int .i64 st] 37)
  have hb2 := hb1.alloc hb1.size (.cells #[.bool false, .slice none 0 0, .slice none 0 0, .slice none 0 0] 29)
  have dA := (Blk.alloc (w := w) (T := 37) [.slice aa an ac, .slice ra rn rc, .slice ca cn cc, .slice la ln lc, .int .i64 st]).alloc_old (.cells #[.bool false, .slice none 0 0, .slice none 0 0, .slice none 0 0] 29)
  have dC := Blk.alloc (w := (w.alloc (.cells #[.slice aa an ac, .slice ra rn rc, .slice ca cn cc, .slice la ln lc, .int .i64 st] 37))) (T := 29) [.bool false, .slice none 0 0, .slice none 0 0, .slice none 0 0]
  rw [show (w.alloc (.cells #[.slice aa an ac, .slice ra rn rc, .slice ca cn cc, .slice la ln lc, .int .i64 st] 37)).heap.size = w.heap.size + 1 from by simp] at dC
  obtain ⟨w0, hw0⟩ : ∃ w0, ((w.alloc (.cells #[.slice aa an ac, .slice ra rn rc, .slice ca cn cc, .slice la ln lc, .int .i64 st] 37)).alloc (.cells #[.bool false, .slice none 0 0, .slice none 0 0, .slice none 0 0] 29)) = w0 := ⟨_, rfl⟩
  have hsz : w0.heap.size = w.heap.size + 2 := by rw [← hw0]; simp
  rw [hw0] at hb2 dA dC
  have HB := Lib.hid hb2
  have HSZ := Lib.hid hsz
  have DC := Lib.hid dC
  have y0 := dA.cell 0 _ rfl
  have y1 := dA.cell 1 _ rfl
  have y2 := dA.cell 2 _ rfl
  have y3 := dA.cell 3 _ rfl
  have y4 := dA.cell 4 _ rfl
  have fF := fresh_any (HPL.out.later hb2).rd hsn hmn
  unfold PlV.val at fF
  dsimp only at fF
  clear dA dC hb1 hb2 hsz
  go_enter Tryz.func14, Tryz.ntmps14
  go_wp2_with (go_at_call 18; (with_reducible refine fF.mono ?_); rintro e w1 ⟨u, l, k, rfl, hc1, hb1⟩; unfold ctxV; have C1 := Lib.hid hc1; have B1 := Lib.hid hb1; have hDD := (Blk.alloc (w := w1) (T := 29) [.bool false, .slice (some ⟨u, 0, none⟩) (stepsN rows) (stepsN rows), .slice (some ⟨l, 0, none⟩) (stepsN rows) (stepsN rows), .slice (some ⟨k, 0, none⟩) ctrs.length ctrs.length]); have p0 := hDD.cell 0 _ rfl; have q0 := hDD.frozen 0; have hDT := (Blk.alloc (w := w1) (T := 29) [.bool true, .slice (some ⟨u, 0, none⟩) (stepsN rows) (stepsN rows), .slice (some ⟨l, 0, none⟩) (stepsN rows) (stepsN rows), .slice (some ⟨k, 0, none⟩) ctrs.length ctrs.length]); have t0 := hDT.cell 0 _ rfl; have t1 := hDT.cell 1 _ rfl; have t2 := hDT.cell 2 _ rfl; have t3 := hDT.cell 3 _ rfl; have hbt := hb1.alloc (Nat.le_trans (Nat.le_refl _) hb1.size) (.cells #[.bool true, .slice (some ⟨u, 0, none⟩) (stepsN rows) (stepsN rows), .slice (some ⟨l, 0, none⟩) (stepsN rows) (stepsN rows), .slice (some ⟨k, 0, none⟩) ctrs.length ctrs.length] 29); have HBT := Lib.hid hbt; have hCC := DC.out.later hbt DC.out.lt; have CX := Lib.hid hCC; have c0 := hCC.cell 0 _ rfl; have c1 := hCC.cell 1 _ rfl; have c2 := hCC.cell 2 _ rfl; have c3 := hCC.cell 3 _ rfl; have f0 := hCC.frozen 0; have f1 := hCC.frozen 1; have f2 := hCC.frozen 2; have f3 := hCC.frozen 3; clear hDD hDT hCC hc1 hb1)
  have hC3 : CtxAt (w1.alloc (.cells #[.bool true, .slice (some ⟨u, 0, none⟩) (stepsN rows) (stepsN rows), .slice (some ⟨l, 0, none⟩) (stepsN rows) (stepsN rows), .slice (some ⟨k, 0, none⟩) ctrs.length ctrs.length] 29)) w.heap.size u l k (List.replicate (stepsN rows) false) (List.replicate (stepsN rows) false) (List.replicate ctrs.length 0) := by
    have h := C1.out.stay (w' := w1.alloc (.cells #[.bool true, .slice (some ⟨u, 0, none⟩) (stepsN rows) (stepsN rows), .slice (some ⟨l, 0, none⟩) (stepsN rows) (stepsN rows), .slice (some ⟨k, 0, none⟩) ctrs.length ctrs.length] 29)) (fun b hb => ((Below.refl w1.heap.size w1).alloc (Nat.le_refl _) _).block b (by rcases hb with rfl | rfl | rfl; exact C1.out.up.lt; exact C1.out.left.lt; exact C1.out.cnt.lt))
    exact ⟨Nat.le_trans HB.out.size h.nu, Nat.le_trans HB.out.size h.nl, Nat.le_trans HB.out.size h.nk, h.ul, h.uk, h.lk, h.up, h.left, h.cnt⟩
  obtain ⟨⟨s0, s1, s2, s3⟩, CF, BF⟩ := ctx_fin (root := true) (n := stepsN rows) (m := ctrs.length) (HB.out.trans (HBT.out.mono HB.out.size)) (by omega : w.heap.size ≤ w.heap.size + 1) hC3 (by have := C1.out.nu; have := HSZ.out; omega) (by have := C1.out.nl; have := HSZ.out; omega) (by have := C1.out.nk; have := HSZ.out; omega) CX.out
  refine bodyPost_ret (v := ctxV true u l k (stepsN rows) ctrs.length) ?_ rfl (newCtx_mk CF BF)
  simp [results, Tryz.results14, go_sem, ctxV, s0, s1, s2, s3]
end
end Go.Proofs.YtcfhggdiccilaaaGreat
