/- Texts of mine in one: Fp5. -/
import Derived.Test.YtcfhggdiccilaaaGreatQ30
import Derived.Test.YtcfhggdiccilaaaGreatQ21
namespace Go.Proofs.YtcfhggdiccilaaaGreat
section
open Go.RowKit
set_option linter.unusedVariables false
set_option linter.unusedSimpArgs false
theorem step_append_row2 {P : Program} {ops : Array Oper} {o : Oper} {a : Act} {w : World} {K : Act → World → Prop} {Q : Exit → Act → World → Prop} {E : Prop}
    (hg : o.guard = none) (s x : Operand) (t : TypeId) (ho : o.op = Op.call { callee := Callee.builtin Builtin.append, args := #[s, x], argTypes := #[t, t] })
    (base : Nat) (e : TypeId) (i : TypeInfo) (z : Value) (sz bytes : Nat) (ht : P.underlying t = some (.slice e)) (hi : P.info? e = some i) (hz : i.zero = some z) (hzs : z.cells.size = sz) (hsz : 0 < sz)
    (hsize : i.size = sz) (hby : i.bytes = bytes)
    (v : Value) (n : Nat) (acc : List Value) (hs : a.eval s = v)
    (b off : Nat) (c : Nat) (vs : List Value) (hm : vs.length = 1 * sz) (hx : a.eval x = .slice (some ⟨b, off, none⟩) 1 c) (hone : ∀ u ∈ vs, u.oneCell' = true)
    (h63 : n + 1 ≤ maxLen) (hbytes : (n + 1) * bytes ≤ 140737488355328)
    (hown : w.ownsRow base e sz v n acc) (hr : ∀ (j : Nat) (u : Value), vs[j]? = some u → w.cell? ⟨b, off + j, none⟩ = some u) (hbase : base ≤ w.heap.size)
    (h : ∀ v' w', w'.ownsRow base e sz v' (n + 1) (acc ++ vs) → w.grownBy w' v.ownBlock → (v'.ownBlock = v.ownBlock ∨ v'.ownBlock = some w.heap.size) → K (a.put o.dst v') w') :
    if Region.wanted o (yielded ops a.tmps) = true then Oper.wp P o a w K Q else E := by
  have hw : Region.wanted o (yielded ops a.tmps) = true := by simp [Region.wanted, hg]
  rw [if_pos hw]
  obtain ⟨v', w', hrun, r1, r2, r3⟩ := run_append_own2 (P := P) w base t o.type e i z sz bytes ht hi hz hsize hby hzs hsz v n acc hown ⟨b, off, none⟩ 1 c vs hm (by
    exact fun j u hu => by have := hr j u hu; rwa [show (⟨b, off, none⟩ : Addr).add j = ⟨b, off + j, none⟩ from by simp [Addr.add]]) hone h63 hbytes hbase
  unfold Oper.wp
  simp [execOp, ho, resolve, invoke, builtin, hs, hx, hrun, Result.andThen]
  exact h v' w' r1 r2 r3
theorem atCells_len (x : AtF) : (atCells x).length = 7 := rfl
theorem flatA_get : ∀ (l : List AtF) (i f : Nat) (x : AtF), l[i]? = some x → f < 7 → (l.flatMap atCells)[i * 7 + f]? = (atCells x)[f]?
  | [], _, _, _, h, _ => by simp at h
  | x0 :: l, 0, f, x, h, hf => by
    simp at h
    subst h
    rw [List.flatMap_cons, List.getElem?_append_left (by rw [atCells_len]; omega)]
    simp
  | x0 :: l, i + 1, f, x, h, hf => by
    rw [List.flatMap_cons, List.getElem?_append_right (by rw [atCells_len]; omega), atCells_len]
    rw [show (i + 1) * 7 + f - 7 = i * 7 + f from by omega]
    exact flatA_get l i f x (by simpa using h) hf
def findGo (l : List AtF) (a : AtF) : Nat → Bool
  | 0 => true
  | k + 1 => findGo l a k && (match l[k]? with | some x => decide (x ≠ a) | none => true)
theorem findGo_at {l : List AtF} {a : AtF} : ∀ {k : Nat}, findGo l a k = true → ∀ j, j < k → ∀ x, l[j]? = some x → x ≠ a
  | 0, _, j, hj, _, _ => by omega
  | k + 1, h, j, hj, x, hx => by
    simp only [findGo, Bool.and_eq_true] at h
    by_cases hk : j = k
    · subst hk; rw [hx] at h; simpa using h.2
    · exact findGo_at h.1 j (by omega) x hx
theorem findA_found {l : List AtF} {a : AtF} {k : Nat} (h : findGo l a k = true) (hx : l[k]? = some a) : findA l a = some k := by
  obtain ⟨hl, he⟩ := List.getElem?_eq_some_iff.1 hx
  unfold findA
  rw [List.findIdx?_eq_some_iff_getElem]
  refine ⟨hl, by simp [he], fun j hj => ?_⟩
  have := findGo_at h j hj _ (List.getElem?_eq_getElem (by omega))
  simpa using this
theorem findA_none {l : List AtF} {a : AtF} (h : findGo l a l.length = true) : findA l a = none := by
  unfold findA
  rw [List.findIdx?_eq_none_iff]
  intro x hx
  obtain ⟨j, hj⟩ := List.getElem?_of_mem hx
  have := findGo_at h j (List.getElem?_eq_some_iff.1 hj).1 x hj
  simpa using this
theorem TryzinfoAtm : (Tryz.prog.info? 156).map (fun i => (i.zero, i.size, i.bytes)) = some (some (.agg #[.int .i64 0, .bool false, .string ⟨#[]⟩, .string ⟨#[]⟩, .int .i64 0, .string ⟨#[]⟩, .bool false]), 7, 80) := by kernel_rfl
def TermP (f p base : Nat) (N : NmV) (nm : Nm) (X : List (Option Nat)) (r : Tm × PenS) (V : PV) (w : World) (e : Ending) (w' : World) : Prop :=
  ∃ V' a n c, e = .returned (.agg #[.int .i64 r.1.kind, .int .i64 r.1.num, .slice a n c]) ∧ TmsAt f (okE base w' (V'.own ++ X)) w' a n c r.1.subs ∧ PenAt w' p base N nm r.2 V' X ∧ PG w w' p V V'
def PenS.tot (st : PenS) : Nat := st.atoms.length + st.rows.length + st.ctrs.length + st.steps
theorem PenAt.fresh {w w' : World} {p base g : Nat} {N : NmV} {nm : Nm} {st : PenS} {V : PV} {X : List (Option Nat)} (h : PenAt w p base N nm st V X) (hb : Below w.heap.size w w') (hg : w.heap.size ≤ g) (hg' : g < w'.heap.size) : PenAt w' p base N nm st V (some g :: X) := by
  have hl := h.later hb
  have ho : ∀ b, okE base w (V.own ++ X) b → okE base w' (V.own ++ some g :: X) b ∧ w'.heap[b]? = w.heap[b]? := by
    rintro b ⟨h1, h2, h3⟩
    simp only [List.mem_append, not_or] at h3
    refine ⟨⟨h1, Nat.lt_of_lt_of_le h2 hb.size, ?_⟩, hb.block b h2⟩
    simp only [List.mem_append, List.mem_cons, not_or]
    exact ⟨h3.1, fun e => by have := Option.some.inj e; omega, h3.2⟩
  have hv : ∀ b, some b ∈ V.own → w'.heap[b]? = w.heap[b]? := fun b hm => hb.block b (PV.own_lt h hm).2
  refine ⟨hl.blk, h.pb, hl.bw, hl.names, hl.atoms, h.rows.stay RRo_moves (fun g hg => hv g (by simp [PV.own, hg])) ho, h.ctrs.stay RCt_moves (fun g hg => hv g (by simp [PV.own, hg])) ho, h.lists.stay RLi_moves (fun g hg => hv g (by simp [PV.own, hg])) ho, ?_, ?_⟩
  · have hd := h.dist
    rw [List.filterMap_append, List.pairwise_append] at hd ⊢
    refine ⟨hd.1, ?_, fun a ha b hb => ?_⟩
    · rw [List.filterMap_cons]
      exact List.pairwise_cons.2 ⟨fun b hb => by have := (h.xs b (fm_mem.1 hb)).2; omega, hd.2.1⟩
    · rw [List.filterMap_cons] at hb
      rcases List.mem_cons.1 hb with rfl | hb
      · have := (PV.own_lt h (fm_mem.1 ha)).2; omega
      · exact hd.2.2 a ha b hb
  · intro b hb'
    rcases List.mem_cons.1 hb' with e | hb'
    · have := Option.some.inj e; subst this; exact ⟨Nat.le_trans h.bw hg, hg'⟩
    · exact ⟨(h.xs b hb').1, Nat.lt_of_lt_of_le (h.xs b hb').2 hb.size⟩
theorem PenAt.write {w w' : World} {p base g : Nat} {N : NmV} {nm : Nm} {st : PenS} {V : PV} {X : List (Option Nat)} (h : PenAt w p base N nm st V (some g :: X)) (hg : w.grownBy w' (some g)) : PenAt w' p base N nm st V (some g :: X) :=
  h.beside hg (.inl rfl) (fun b e => by have := Option.some.inj e; subst this; exact Nat.lt_of_lt_of_le (h.xs g (by simp)).2 hg.size)
theorem PG.new {w w1 w2 : World} {p : Nat} {V V' : PV} {r : Option Nat} (h : PG w w1 p V V') (hg : w1.grownBy w2 r) (hr : ∀ g, r = some g → w.heap.size ≤ g) : PG w w2 p V V' :=
  ⟨hg.os.trans h.os, hg.tape.trans h.tape, hg.output.trans h.output, Nat.le_trans h.size hg.size, fun b hb hp hv => (hg.block b (Nat.lt_of_lt_of_le hb h.size) (fun e => by have := hr b e.symm; omega)).trans (h.block b hb hp hv), h.moved⟩
theorem grown_set3 (w : World) (g : Nat) (a b c : Value) : w.grownBy (setAllE w g 0 [a, b, c]) (some g) := grown_trans (grown_trans (grown_setCell w g 0 a) (grown_setCell _ g 1 b)) (grown_setCell _ g 2 c)
set_option maxRecDepth 100000 in
set_option maxHeartbeats 4000000 in
theorem patom_any {w : World} {f p base : Nat} {N : NmV} {nm : Nm} {st : PenS} {V : PV} {X : List (Option Nat)} (h : PenAt w p base N nm st V X) (x : AtF) (ht : st.tot ≤ 1000000) :
    Calls Tryz.prog 96 #[.pointer (some ⟨p, 0, none⟩), .agg #[.int .i64 x.kind, .bool x.has, .string x.space, .string x.name, .int .i64 x.op, .string x.text, .bool x.fold]] w (TermP f p base N nm X (penAtom st x) V w) := by
  obtain ⟨iA, hiA, hzA⟩ := Option.map_eq_some_iff.1 TryzinfoAtm
  simp only [Prod.mk.injEq] at hzA
  have HIA := Lib.hid (And.intro hiA hzA)
  clear hiA hzA
  have hn : st.atoms.length ≤ 1000000 := by unfold PenS.tot at ht; omega
  obtain ⟨va, hva⟩ : ∃ va, V.va = va := ⟨_, rfl⟩
  obtain ⟨n, hnn⟩ : ∃ n, st.atoms.length = n := ⟨_, rfl⟩
  have HNN := Lib.hid hnn
  have hO := h.atoms
  rw [hva, hnn] at hO
  obtain ⟨aa, ac, rfl⟩ := own_shape hO
  have HV := Lib.hid hva
  have hblk := h.blk
  rw [hva] at hblk
  have HP := Lib.hid h
  have HO := Lib.hid hO
  have HLT := Lib.hid h.blk.lt
  rw [hnn] at hn
  have hb0 := (Below.refl w.heap.size w).alloc (Nat.le_refl _) (.cells (atCells x).toArray 156)
  have hb1 := hb0.alloc hb0.size (.cells #[.int .i64 0, .int .i64 0, .slice none 0 0] 110)
  have HB1 := Lib.hid hb1
  have B0 : Blk ((w.alloc (.cells (atCells x).toArray 156)).alloc (.cells #[.int .i64 0, .int .i64 0, .slice none 0 0] 110)) w.heap.size (atCells x) 156 := (Blk.alloc (atCells x) _).alloc_old _
  have B1 : Blk ((w.alloc (.cells (atCells x).toArray 156)).alloc (.cells #[.int .i64 0, .int .i64 0, .slice none 0 0] 110)) (w.heap.size + 1) [.int .i64 0, .int .i64 0, .slice none 0 0] 110 := by
    have hh : Blk ((w.alloc (.cells (atCells x).toArray 156)).alloc (.cells #[.int .i64 0, .int .i64 0, .slice none 0 0] 110)) (w.alloc (.cells (atCells x).toArray 156)).heap.size [.int .i64 0, .int .i64 0, .slice none 0 0] 110 := Blk.alloc [.int .i64 0, .int .i64 0, .slice none 0 0] _
    rwa [show (w.alloc (.cells (atCells x).toArray 156)).heap.size = w.heap.size + 1 from by simp] at hh
  have D0 := Lib.hid B0
  have D1 := Lib.hid B1
  have DP := Lib.hid (hblk.later hb1 hblk.lt)
  obtain ⟨w0, hw0⟩ : ∃ w0, ((w.alloc (.cells (atCells x).toArray 156)).alloc (.cells #[.int .i64 0, .int .i64 0, .slice none 0 0] 110)) = w0 := ⟨_, rfl⟩
  rw [hw0] at HB1 D0 D1 DP
  have HSZ0 := Lib.hid (show w0.heap.size = w.heap.size + 2 from by rw [← hw0]; simp)
  have hw0 : (w.alloc (.cells #[.int .i64 x.kind, .bool x.has, .string x.space, .string x.name, .int .i64 x.op, .string x.text, .bool x.fold] 156)).alloc (.cells #[.int .i64 0, .int .i64 0, .slice none 0 0] 110) = w0 := hw0
  clear h hO hva hnn hblk hb0 hb1 B0 B1
  go_enter Tryz.func96, Tryz.ntmps96
  go_wp2
  skip
  clear hw0
  go_loopw [5] (fun i wr => ∃ j q : Nat, j ≤ n ∧ i = .int .i64 j ∧ Hid (findGo st.atoms x j = true) ∧ wr = w0.drewN q) (fun i _ => n - (intOf i).toNat)
  case atStart => exact ⟨0, 0, Nat.zero_le _, rfl, Lib.hid rfl, rfl⟩
  case round =>
    obtain ⟨j, q, hj, rfl, HJ, rfl⟩ := hrel
    have c4 := (DP.out.drewN q).cell 4 _ rfl
    by_cases hlt : j < n
    · obtain ⟨y, hy⟩ : ∃ y, st.atoms[j]? = some y := ⟨_, List.getElem?_eq_getElem (by rw [HNN.out]; exact hlt)⟩
      obtain ⟨_, ⟨hnil, hn0⟩ | ⟨g, cap, cur, hvv, hbg, hcg, hnc, hcm, hcs, htk⟩⟩ := HO.out
      · omega
      cases hvv
      have hgl : g < w.heap.size := (Array.getElem?_eq_some_iff.1 hcg).1
      have hgc : ∀ f u, (atCells y)[f]? = some u → (w0.drewN q).drew.cell? ⟨g, j * 7 + f, none⟩ = some u := fun f u hu => by
        have hf : f < 7 := (List.getElem?_eq_some_iff.1 hu).1
        have h1 := HO.out.cells (g := g) rfl (j * 7 + f) u ((flatA_get _ j f y hy hf).trans hu)
        rw [show (⟨g, 0, none⟩ : Addr).add (j * 7 + f) = ⟨g, j * 7 + f, none⟩ from by simp [Addr.add]; intros; omega] at h1
        exact (HB1.out.cell (p := ⟨g, j * 7 + f, none⟩) hgl).trans h1
      have u0 := hgc 0 (.int .i64 y.kind) rfl
      rw [Nat.add_zero] at u0
      have u1 := hgc 1 (.bool y.has) rfl
      have u2 := hgc 2 (.string y.space) rfl
      have u3 := hgc 3 (.string y.name) rfl
      have u4 := hgc 4 (.int .i64 y.op) rfl
      have u5 := hgc 5 (.string y.text) rfl
      have u6 := hgc 6 (.bool y.fold) rfl
      have DX := D0.out.drewN (q + 1)
      have y0 : (w0.drewN q).drew.cell? ⟨w.heap.size, 0, none⟩ = some (.int .i64 x.kind) := DX.cell 0 _ rfl
      have y1 : (w0.drewN q).drew.cell? ⟨w.heap.size, 1, none⟩ = some (.bool x.has) := DX.cell 1 _ rfl
      have y2 : (w0.drewN q).drew.cell? ⟨w.heap.size, 2, none⟩ = some (.string x.space) := DX.cell 2 _ rfl
      have y3 : (w0.drewN q).drew.cell? ⟨w.heap.size, 3, none⟩ = some (.string x.name) := DX.cell 3 _ rfl
      have y4 : (w0.drewN q).drew.cell? ⟨w.heap.size, 4, none⟩ = some (.int .i64 x.op) := DX.cell 4 _ rfl
      have y5 : (w0.drewN q).drew.cell? ⟨w.heap.size, 5, none⟩ = some (.string x.text) := DX.cell 5 _ rfl
      have y6 : (w0.drewN q).drew.cell? ⟨w.heap.size, 6, none⟩ = some (.bool x.fold) := DX.cell 6 _ rfl
      have c4d : (w0.drewN q).drew.cell? ⟨p, 4, none⟩ = some (.slice (some ⟨g, 0, none⟩) n ac) := (DP.out.drewN (q + 1)).cell 4 _ rfl
      have hjI : (0 : Int) ≤ (j : Int) := by omega
      have hjI2 : (j : Int) < (n : Int) := by omega
      have x0 : w0.cell? ⟨w.heap.size, 0, none⟩ = some (.int .i64 x.kind) := D0.out.cell 0 _ rfl
      have x1 : w0.cell? ⟨w.heap.size, 1, none⟩ = some (.bool x.has) := D0.out.cell 1 _ rfl
      have x2 : w0.cell? ⟨w.heap.size, 2, none⟩ = some (.string x.space) := D0.out.cell 2 _ rfl
      have x3 : w0.cell? ⟨w.heap.size, 3, none⟩ = some (.string x.name) := D0.out.cell 3 _ rfl
      have x4 : w0.cell? ⟨w.heap.size, 4, none⟩ = some (.int .i64 x.op) := D0.out.cell 4 _ rfl
      have x5 : w0.cell? ⟨w.heap.size, 5, none⟩ = some (.string x.text) := D0.out.cell 5 _ rfl
      have x6 : w0.cell? ⟨w.heap.size, 6, none⟩ = some (.bool x.fold) := D0.out.cell 6 _ rfl
      have v0 : w0.cell? ⟨g, j * 7, none⟩ = some (.int .i64 y.kind) := u0
      have v1 : w0.cell? ⟨g, j * 7 + 1, none⟩ = some (.bool y.has) := u1
      have v2 : w0.cell? ⟨g, j * 7 + 2, none⟩ = some (.string y.space) := u2
      have v3 : w0.cell? ⟨g, j * 7 + 3, none⟩ = some (.string y.name) := u3
      have v4 : w0.cell? ⟨g, j * 7 + 4, none⟩ = some (.int .i64 y.op) := u4
      have v5 : w0.cell? ⟨g, j * 7 + 5, none⟩ = some (.string y.text) := u5
      have v6 : w0.cell? ⟨g, j * 7 + 6, none⟩ = some (.bool y.fold) := u6
      have v4c : w0.cell? ⟨p, 4, none⟩ = some (.slice (some ⟨g, 0, none⟩) n ac) := c4d
      clear hcg htk DX hgc
      have hst := Lib.hid (fun (hne : y ≠ x) => (show findGo st.atoms x (j + 1) = true from by simp only [findGo, HJ.out, hy]; simpa using hne))
      by_cases e0 : y.kind = x.kind
      rotate_left
      · have HST := Lib.hid (hst.out (fun h => e0 (by rw [h])))
        clear hst hy
        go_wp2
        go_region
        go_wp2
        go_roundw
        case rel => exact ⟨j + 1, q + 1, by omega, by go_num, HST, rfl⟩
        case measure => simp [intOf]; omega
      by_cases e1 : y.has = x.has
      rotate_left
      · have HST := Lib.hid (hst.out (fun h => e1 (by rw [h])))
        clear hst hy
        go_wp2
        go_region
        go_wp2
        go_roundw
        case rel => exact ⟨j + 1, q + 1, by omega, by go_num, HST, rfl⟩
        case measure => simp [intOf]; omega
      by_cases e2 : y.space.toList = x.space.toList
      rotate_left
      · have HST := Lib.hid (hst.out (fun h => e2 (by rw [h])))
        clear hst hy
        go_wp2
        go_region
        go_wp2
        go_roundw
        case rel => exact ⟨j + 1, q + 1, by omega, by go_num, HST, rfl⟩
        case measure => simp [intOf]; omega
      by_cases e3 : y.name.toList = x.name.toList
      rotate_left
      · have HST := Lib.hid (hst.out (fun h => e3 (by rw [h])))
        clear hst hy
        go_wp2
        go_region
        go_wp2
        go_roundw
        case rel => exact ⟨j + 1, q + 1, by omega, by go_num, HST, rfl⟩
        case measure => simp [intOf]; omega
      by_cases e4 : y.op = x.op
      rotate_left
      · have HST := Lib.hid (hst.out (fun h => e4 (by rw [h])))
        clear hst hy
        go_wp2
        go_region
        go_wp2
        go_roundw
        case rel => exact ⟨j + 1, q + 1, by omega, by go_num, HST, rfl⟩
        case measure => simp [intOf]; omega
      by_cases e5 : y.text.toList = x.text.toList
      rotate_left
      · have HST := Lib.hid (hst.out (fun h => e5 (by rw [h])))
        clear hst hy
        go_wp2
        go_region
        go_wp2
        go_roundw
        case rel => exact ⟨j + 1, q + 1, by omega, by go_num, HST, rfl⟩
        case measure => simp [intOf]; omega
      by_cases e6 : y.fold = x.fold
      rotate_left
      · have HST := Lib.hid (hst.out (fun h => e6 (by rw [h])))
        clear hst hy
        go_wp2
        go_region
        go_wp2
        go_roundw
        case rel => exact ⟨j + 1, q + 1, by omega, by go_num, HST, rfl⟩
        case measure => simp [intOf]; omega
      have hyx : y = x := by
        obtain ⟨a1, a2, a3, a4, a5, a6, a7⟩ := y
        obtain ⟨b1, b2, b3, b4, b5, b6, b7⟩ := x
        simp only [AtF.mk.injEq]
        exact ⟨e0, e1, of_decide_eq_true (by rw [← str_beqE]; exact beq_iff_eq.2 e2), of_decide_eq_true (by rw [← str_beqE]; exact beq_iff_eq.2 e3), e4, of_decide_eq_true (by rw [← str_beqE]; exact beq_iff_eq.2 e5), e6⟩
      have hF : penAtom st x = (.mk 1 (j : Nat) [], st) := by unfold penAtom; rw [findA_found HJ.out (by rw [← hyx]; exact hy)]
      have HF := Lib.hid hF
      clear hyx hF hy hst
      have DT := D1.out.drewN (q + 1)
      have t0 : w0.cell? ⟨w.heap.size + 1, 0, none⟩ = some (.int .i64 0) := D1.out.cell 0 _ rfl
      have t1 : w0.cell? ⟨w.heap.size + 1, 1, none⟩ = some (.int .i64 0) := D1.out.cell 1 _ rfl
      have t2 : w0.cell? ⟨w.heap.size + 1, 2, none⟩ = some (.slice none 0 0) := D1.out.cell 2 _ rfl
      have g0 : w0.frozen? ⟨w.heap.size + 1, 0, none⟩ = false := D1.out.frozen 0
      have g1 : w0.frozen? ⟨w.heap.size + 1, 1, none⟩ = false := D1.out.frozen 1
      have g2 : w0.frozen? ⟨w.heap.size + 1, 2, none⟩ = false := D1.out.frozen 2
      go_wp2
      go_region
      go_wp2
      have hbq : Below w.heap.size w (w0.drewN (q + 1)) := ⟨HB1.out.os, HB1.out.tape, HB1.out.output, HB1.out.size, HB1.out.block⟩
      have F := setAll_blkE [.int .i64 1, .int .i64 (j : Nat), .slice none 0 0] 0 _ _ DT
      have r0 := F.cell 0 _ rfl
      have r1 := F.cell 1 _ rfl
      have r2 := F.cell 2 _ rfl
      change bodyPost _ _ _ _ _ (setAllE (w0.drewN (q + 1)) (w.heap.size + 1) 0 [.int .i64 1, .int .i64 (j : Nat), .slice none 0 0])
      have hbF := setAll_belowE (Nat.le_succ w.heap.size) [.int .i64 1, .int .i64 (j : Nat), .slice none 0 0] 0 _ hbq
      refine bodyPost_ret (v := .agg #[.int .i64 1, .int .i64 (j : Nat), .slice none 0 0]) (by simp [results, Tryz.results96, go_sem, r0, r1, r2]) rfl ?_
      rw [HF.out]
      exact ⟨V, none, 0, 0, rfl, TmsAt.nil _ _ _, HP.out.later hbF, PG.of_below hbF⟩
    · obtain rfl : j = n := by omega
      have hjI2 : ¬ (j : Int) < (j : Int) := by omega
      have hF : penAtom st x = (.mk 1 (j : Nat) [], { st with atoms := st.atoms ++ [x] }) := by unfold penAtom; rw [findA_none (by rw [HNN.out]; exact HJ.out), HNN.out]
      have HF := Lib.hid hF
      clear hF
      have x0 : w0.cell? ⟨w.heap.size, 0, none⟩ = some (.int .i64 x.kind) := D0.out.cell 0 _ rfl
      have x1 : w0.cell? ⟨w.heap.size, 1, none⟩ = some (.bool x.has) := D0.out.cell 1 _ rfl
      have x2 : w0.cell? ⟨w.heap.size, 2, none⟩ = some (.string x.space) := D0.out.cell 2 _ rfl
      have x3 : w0.cell? ⟨w.heap.size, 3, none⟩ = some (.string x.name) := D0.out.cell 3 _ rfl
      have x4 : w0.cell? ⟨w.heap.size, 4, none⟩ = some (.int .i64 x.op) := D0.out.cell 4 _ rfl
      have x5 : w0.cell? ⟨w.heap.size, 5, none⟩ = some (.string x.text) := D0.out.cell 5 _ rfl
      have x6 : w0.cell? ⟨w.heap.size, 6, none⟩ = some (.bool x.fold) := D0.out.cell 6 _ rfl
      have v4c : w0.cell? ⟨p, 4, none⟩ = some (.slice aa j ac) := DP.out.cell 4 _ rfl
      have hbq : Below w.heap.size w ((w0.drewN (q + 1)).alloc (.cells #[.int .i64 x.kind, .bool x.has, .string x.space, .string x.name, .int .i64 x.op, .string x.text, .bool x.fold] 156)) := Below.alloc (w := w0.drewN (q + 1)) ⟨HB1.out.os, HB1.out.tape, HB1.out.output, HB1.out.size, HB1.out.block⟩ HB1.out.size _
      have HBQ := Lib.hid hbq
      have HPQ := Lib.hid (HP.out.fresh hbq (Nat.le_succ _) (by have := HSZ0.out; show _ < ((w0.drewN (q + 1)).alloc _).heap.size; simp; omega))
      have hOq := HPQ.out.atoms
      rw [HV.out, HNN.out] at hOq
      have HOQ := Lib.hid hOq
      have HNB := Lib.hid (fun g (hg : (Value.slice aa j ac).ownBlock = some g) => owns_own HO.out hg)
      have D1Q := Lib.hid ((D1.out.drewN (q + 1)).alloc_old (.cells #[.int .i64 x.kind, .bool x.has, .string x.space, .string x.name, .int .i64 x.op, .string x.text, .bool x.fold] 156))
      have DAQ : Hid (Blk ((w0.drewN (q + 1)).alloc (.cells #[.int .i64 x.kind, .bool x.has, .string x.space, .string x.name, .int .i64 x.op, .string x.text, .bool x.fold] 156)) w0.heap.size (atCells x) 156) := Lib.hid (Blk.alloc (w := w0.drewN (q + 1)) (atCells x) _)
      have HPLT := Lib.hid (show p < w.heap.size from HLT.out)
      have v4q := HPQ.out.blk.cell 4 _ rfl
      rw [HV.out] at v4q
      clear hbq hOq
      go_wp2
      go_region_law (first
        | (refine step_append_row2 rfl _ _ 32 rfl base 156 iA _ 7 80 Tryz.underlying32 HIA.out.1 HIA.out.2.1 rfl (by decide) HIA.out.2.2.1 HIA.out.2.2.2 (.slice aa j ac) j _ rfl w0.heap.size 0 1 (atCells x) rfl rfl (by intro u hu; simp only [atCells, List.mem_cons, List.not_mem_nil, or_false] at hu; rcases hu with rfl | rfl | rfl | rfl | rfl | rfl | rfl <;> rfl) (by unfold maxLen; omega) (by omega) HOQ.out (fun k u hu => by rw [Nat.zero_add]; exact DAQ.out.cell k u hu) HPQ.out.bw ?_
           intro v8 w8 hown8 hgr8 hv8
           obtain ⟨a8, c8, rfl⟩ := own_shape hown8
           have D18 := Lib.hid (D1Q.out.kept hgr8 (fun hh => by have := (HNB.out _ hh).2; omega))
           have P8 := HPQ.out.blk.kept hgr8 (fun hh => by have := (HNB.out _ hh).1; have := HPQ.out.pb; omega)
           have P8c := P8.cell 4 _ rfl
           have P8f := P8.frozen 4
           have HA := Lib.hid (PenAt.atom (x := x) HPQ.out (by rw [HNN.out]; exact hown8) (by rw [HV.out]; exact hgr8) (by rw [HV.out]; exact hv8))
           have P9c := HA.out.1.blk.cell 4 _ rfl
           have D19 := Lib.hid (D18.out.kept (grown_setCell w8 p 4 (.slice a8 (j + 1) c8)) (fun hh => by have := Option.some.inj hh; have := HPLT.out; omega))
           have t0 := D19.out.cell 0 _ rfl
           have t1 := D19.out.cell 1 _ rfl
           have t2 := D19.out.cell 2 _ rfl
           have g0 := D19.out.frozen 0
           have g1 := D19.out.frozen 1
           have g2 := D19.out.frozen 2
           clear hown8 hgr8 hv8 P8))
      all_goals
        go_wp2
        have F := setAll_blkE [.int .i64 1, .int .i64 (j : Nat), .slice none 0 0] 0 _ _ D19.out
        have r0 := F.cell 0 _ rfl
        have r1 := F.cell 1 _ rfl
        have r2 := F.cell 2 _ rfl
        change bodyPost _ _ _ _ _ (setAllE (w8.setCell ⟨p, 4, none⟩ (.slice a8 (j + 1) c8)) (w.heap.size + 1) 0 [.int .i64 1, .int .i64 (j : Nat), .slice none 0 0])
        refine bodyPost_ret (v := .agg #[.int .i64 1, .int .i64 (j : Nat), .slice none 0 0]) (by simp [results, Tryz.results96, go_sem, r0, r1, r2]) rfl ?_
        rw [HF.out]
        have hgF := grown_set3 (w8.setCell ⟨p, 4, none⟩ (.slice a8 (j + 1) c8)) (w.heap.size + 1) (.int .i64 1) (.int .i64 (j : Nat)) (.slice none 0 0)
        exact ⟨_, none, 0, 0, rfl, TmsAt.nil _ _ _, (HA.out.1.write hgF).drop, ((PG.of_below HBQ.out).trans HA.out.2).new hgF (fun g e => by have := Option.some.inj e; omega)⟩
end
end Go.Proofs.YtcfhggdiccilaaaGreat
