/- Lists of selectors copied, by the program: walks. -/
import Derived.Test.YtfgnepbpfglepaaSm0
import Derived.Test.YtfgnepbpfglepaaSl9
import Derived.Test.YtfgnepbpfglepaaShelf
import Derived.OwnWalk
import Derived.Deep.RegionWith
import Derived.Deep.RegionHeld3
namespace Go.Proofs.Ytfgnepbpfglepaa
open Go.RowKit
set_option linter.unusedVariables false
set_option linter.unusedSimpArgs false

theorem make_any (t e : TypeId) (z : Value) (sz bytes : Nat) (ht : Try.prog.underlying t = some (.slice e)) (hinfo : (Try.prog.info? e).map (fun i => (i.zero, i.size, i.bytes)) = some (some z, sz, bytes))
    (n : Nat) (hbytes : bytes * n ≤ 281474976710656) (h63 : n ≤ 9223372036854775807) (w : World) :
    (Instr.makeSlice t (.int .i64 (n : Int)) (.int .i64 (n : Int))).run Try.prog w = .ok (.slice (some ⟨w.heap.size, 0, none⟩) n n) (w.alloc (.cells (madeCells z.cells (n * sz)) e)) := by
  obtain ⟨i, hi, hzz⟩ := Option.map_eq_some_iff.1 hinfo
  simp only [Prod.mk.injEq] at hzz
  obtain ⟨hz, hs, hb⟩ := hzz
  have hb' : (i.bytes : Int) * (n : Int) ≤ 281474976710656 := by
    have h : ((i.bytes * n : Nat) : Int) ≤ 281474976710656 := by rw [hb]; omega
    rwa [Int.natCast_mul] at h
  have hr := run_make (P := Try.prog) w t e i z ht hi hz .i64 .i64 n n (by omega) (Int.le_refl _) hb' (by omega)
  simp only [Int.toNat_natCast] at hr
  rw [hs] at hr
  exact hr
theorem made_blk (w : World) (zc : Array Value) (m : Nat) (T : TypeId) : ∃ cs : List Value, cs.length = m ∧ Blk (w.alloc (.cells (madeCells zc m) T)) w.heap.size cs T :=
  ⟨(madeCells zc m).toList, by rw [Array.length_toList, size_madeCells], by
    have := Blk.alloc (w := w) (madeCells zc m).toList T
    simpa using this⟩
set_option maxRecDepth 100000 in
set_option maxHeartbeats 1000000 in
theorem cloneS_any (s : ByteArray) (w : World) (hs : s.size ≤ 140737488351232) : Calls Try.prog 62 #[.string s] w (Told (.string s) w) := by
  have hC := fun w => Try.stringslite_Clone s w (by omega)
  go_enter Try.func62, Try.ntmps62
  go_wp2_with fail
  refine (hC _).mono ?_
  rintro e w1 ⟨rfl, hb⟩
  go_wp2
  go_ret
  exact ⟨rfl, hb⟩
theorem TryinfoSimple : (Try.prog.info? 86).map (fun i => (i.zero, i.size, i.bytes)) = some (some (.agg #[.int .i64 0, .int .i64 0, .string ⟨#[]⟩, .string ⟨#[]⟩, .int .i64 0, .string ⟨#[]⟩, .bool false, .int .i64 0, .int .i64 0, .int .i64 0, .slice none 0 0]), 11, 128) := by kernel_rfl
theorem TryinfoCompound : (Try.prog.info? 95).map (fun i => (i.zero, i.size, i.bytes)) = some (some (.agg #[.int .i64 0, .slice none 0 0]), 2, 32) := by kernel_rfl
theorem TryinfoComplex : (Try.prog.info? 79).map (fun i => (i.zero, i.size, i.bytes)) = some (some (.agg #[.slice none 0 0]), 1, 24) := by kernel_rfl

theorem heap_set {w : World} {g i b : Nat} {v : Value} (h : b ≠ g) : (w.setCell ⟨g, i, none⟩ v).heap[b]? = w.heap[b]? := Below.heap_setCell w ⟨g, i, none⟩ v b h
theorem size_set {w : World} {g i : Nat} {v : Value} : (w.setCell ⟨g, i, none⟩ v).heap.size = w.heap.size := by simp
/-- Cells written one by one. -/
def setAll (w : World) (g : Nat) : Nat → List Value → World
  | _, [] => w
  | o, v :: vs => setAll (w.setCell ⟨g, o, none⟩ v) g (o + 1) vs
theorem setAll_old {g b : Nat} (h : b ≠ g) : ∀ (vs : List Value) (o : Nat) (w : World), (setAll w g o vs).heap[b]? = w.heap[b]?
  | [], _, _ => rfl
  | v :: vs, o, w => (setAll_old h vs (o + 1) _).trans (heap_set h)
theorem setAll_size {g : Nat} : ∀ (vs : List Value) (o : Nat) (w : World), (setAll w g o vs).heap.size = w.heap.size
  | [], _, _ => rfl
  | v :: vs, o, w => (setAll_size vs (o + 1) _).trans size_set
theorem setAll_below {B g : Nat} {w0 : World} (hg : B ≤ g) : ∀ (vs : List Value) (o : Nat) (w : World), Below B w0 w → Below B w0 (setAll w g o vs)
  | [], _, _, h => h
  | v :: vs, o, w, h => setAll_below hg vs (o + 1) _ (h.setCell (p := ⟨g, o, none⟩) hg v)
def setsAll (cs : List Value) : Nat → List Value → List Value
  | _, [] => cs
  | o, v :: vs => setsAll (cs.set o v) (o + 1) vs
theorem setAll_blk {g : Nat} {T : TypeId} : ∀ (vs : List Value) (o : Nat) (w : World) (cs : List Value), Blk w g cs T → Blk (setAll w g o vs) g (setsAll cs o vs) T
  | [], _, _, _, h => h
  | v :: vs, o, w, cs, h => setAll_blk vs (o + 1) _ _ (h.setCell o v)
theorem setsAll_len : ∀ (vs : List Value) (o : Nat) (cs : List Value), (setsAll cs o vs).length = cs.length
  | [], _, _ => rfl
  | v :: vs, o, cs => (setsAll_len vs (o + 1) _).trans (List.length_set ..)
theorem setsAll_other {j : Nat} : ∀ (vs : List Value) (o : Nat) (cs : List Value), j < o ∨ o + vs.length ≤ j → (setsAll cs o vs)[j]? = cs[j]?
  | [], _, _, _ => rfl
  | v :: vs, o, cs, h => by
    have h1 : j < o + 1 ∨ o + 1 + vs.length ≤ j := by rw [List.length_cons] at h; omega
    refine (setsAll_other vs (o + 1) _ h1).trans ?_
    rw [List.getElem?_set_ne]
    rw [List.length_cons] at h
    omega
theorem setsAll_self {i : Nat} {u : Value} : ∀ (vs : List Value) (o : Nat) (cs : List Value), o + vs.length ≤ cs.length → vs[i]? = some u → (setsAll cs o vs)[o + i]? = some u
  | [], _, _, _, h => by simp at h
  | v :: vs, o, cs, hl, h => by
    rw [List.length_cons] at hl
    match i, h with
    | 0, h =>
      cases h
      refine (setsAll_other vs (o + 1) _ (.inl (by omega))).trans ?_
      rw [Nat.add_zero, List.getElem?_set_self (by omega)]
    | i + 1, h =>
      have := setsAll_self (i := i) vs (o + 1) (cs.set o v) (by rw [List.length_set]; omega) h
      rwa [show o + 1 + i = o + (i + 1) from by omega] at this

/-- A row of one's own while it is filled. -/
def PartRow {α : Type} (sz : Nat) (T : TypeId) (Q : World → List Value → Nat → Nat → Nat → α → Prop) (w : World) (B k : Nat) (cs : List Value) (h : Nat → Nat) (xs : List α) : Prop :=
  Blk w B cs T ∧ cs.length = xs.length * sz ∧ B < h 0 ∧ (∀ i, i < k → h i ≤ h (i + 1)) ∧ h k ≤ w.heap.size ∧ ∀ i x, i < k → xs[i]? = some x → Q w cs (i * sz) (h i) (h (i + 1)) x
/-- What is told of a part hangs on its own cells, and its own stretch of memory. -/
def Stable {α : Type} (sz : Nat) (Q : World → List Value → Nat → Nat → Nat → α → Prop) : Prop :=
  ∀ (w w' : World) (cs cs' : List Value) (o lo hi : Nat) (x : α), (∀ j, o ≤ j → j < o + sz → cs'[j]? = cs[j]?) → (∀ bl, lo ≤ bl → bl < hi → w'.heap[bl]? = w.heap[bl]?) → Q w cs o lo hi x → Q w' cs' o lo hi x
theorem PartRow.step {α : Type} {sz : Nat} {T : TypeId} {Q : World → List Value → Nat → Nat → Nat → α → Prop} (hQ : Stable sz Q) {wr w2 : World} {B k : Nat} {cs vs : List Value} {h : Nat → Nat} {xs : List α} {x : α}
    (hp : PartRow sz T Q wr B k cs h xs) (hb : Below wr.heap.size wr w2) (hv : vs.length = sz) (hx : xs[k]? = some x) (hq : Q (setAll w2 B (k * sz) vs) (setsAll cs (k * sz) vs) (k * sz) (h k) w2.heap.size x) :
    PartRow sz T Q (setAll w2 B (k * sz) vs) B (k + 1) (setsAll cs (k * sz) vs) (fun i => if i ≤ k then h i else w2.heap.size) xs := by
  obtain ⟨h1, h2, h3, h4, h5, h6⟩ := hp
  have hbl : B < wr.heap.size := h1.lt
  refine ⟨setAll_blk _ _ _ _ (h1.later hb hbl), by rw [setsAll_len]; exact h2, by simpa using h3, fun i hi => ?_, ?_, fun i y hi hy => ?_⟩
  · by_cases hik : i < k
    · simp only [show i ≤ k by omega, show i + 1 ≤ k by omega, if_true]; exact h4 i hik
    · obtain rfl : i = k := by omega
      simp only [Nat.le_refl, if_true, show ¬ i + 1 ≤ i by omega, if_false]
      exact Nat.le_trans h5 hb.size
  · simp only [show ¬ k + 1 ≤ k by omega, if_false]; rw [setAll_size]; exact Nat.le_refl _
  · by_cases hik : i < k
    · simp only [show i ≤ k by omega, show i + 1 ≤ k by omega, if_true]
      have hle := steps_le h4 (i + 1) k (by omega) (Nat.le_refl _)
      have h0 := steps_le h4 0 i (Nat.zero_le _) (by omega)
      refine hQ wr _ cs _ _ _ _ y (fun j hj1 hj2 => setsAll_other _ _ _ (.inl ?_)) (fun bl hl1 hl2 => ?_) (h6 i y hik hy)
      · have : (i + 1) * sz ≤ k * sz := Nat.mul_le_mul_right _ hik
        rw [Nat.add_mul] at this
        omega
      · rw [setAll_old (by omega), hb.block bl (by omega)]
    · obtain rfl : i = k := by omega
      rw [hx] at hy
      cases hy
      simp only [Nat.le_refl, if_true, show ¬ i + 1 ≤ i by omega, if_false]
      exact hq
theorem PartRow.done {α : Type} {sz : Nat} {T : TypeId} {Q : World → List Value → Nat → Nat → Nat → α → Prop} {w : World} {B lo : Nat} {cs : List Value} {h : Nat → Nat} {xs : List α} (hp : PartRow sz T Q w B xs.length cs h xs) (hl : lo ≤ B) : OwnRow sz T (Q w) w lo w.heap.size B xs := by
  obtain ⟨h1, h2, h3, h4, h5, h6⟩ := hp
  exact ⟨cs, h, h1, h2, hl, h3, h4, h5, fun i x hx => h6 i x (List.getElem?_eq_some_iff.1 hx).1 hx⟩

theorem OwnL.len {w : World} {lo hi b n : Nat} {d : Nat} {x : Lx d} (h : OwnL d w lo hi b n x) : b < hi := by
  match d, x, h with
  | 0, _, h => exact h.2.2
  | d + 1, x, h =>
    obtain ⟨cs, f, h1, h2, h3, h4, h5, h6, h7⟩ := h.2.2
    have h0 := steps_le h5 0 _ (Nat.zero_le _) (Nat.le_refl _)
    omega
theorem stableS (d : Nat) : Stable 11 (fun w => OwnS (OwnL d w)) := by
  rintro w w' cs cs' o lo hi x hc hm ⟨⟨h0, h1, h2, h3, h4, h5, h6, h7, h8, h9⟩, hok, b, n, h10, hL⟩
  exact ⟨⟨(hc o (by omega) (by omega)).trans h0, (hc _ (by omega) (by omega)).trans h1, (hc _ (by omega) (by omega)).trans h2, (hc _ (by omega) (by omega)).trans h3, (hc _ (by omega) (by omega)).trans h4, (hc _ (by omega) (by omega)).trans h5, (hc _ (by omega) (by omega)).trans h6, (hc _ (by omega) (by omega)).trans h7, (hc _ (by omega) (by omega)).trans h8, (hc _ (by omega) (by omega)).trans h9⟩, hok, b, n, (hc _ (by omega) (by omega)).trans h10, hL.move hm⟩
theorem stableK (d : Nat) : Stable 2 (fun w => OwnK (OwnL d w) w) := by
  rintro w w' cs cs' o lo hi x hc hm hx
  have hx' := hx.move (R' := OwnL d w') hm (fun l k b n x h1 h2 h => h.move (fun bl h3 h4 => hm bl (by omega) (by omega)))
  obtain ⟨h0, b, h1, h2, h3⟩ := hx'
  exact ⟨(hc o (by omega) (by omega)).trans h0, b, (hc _ (by omega) (by omega)).trans h1, h2, h3⟩
theorem stableX (d : Nat) : Stable 1 (fun w => OwnX (OwnL d w) w) := by
  rintro w w' cs cs' o lo hi x hc hm hx
  have hx' := hx.move (R' := OwnL d w') hm (fun l k b n x h1 h2 h => h.move (fun bl h3 h4 => hm bl (by omega) (by omega)))
  obtain ⟨b, h1, h2, h3⟩ := hx'
  exact ⟨b, (hc _ (by omega) (by omega)).trans h1, h2, h3⟩

/-- What Copy tells of lists of a depth. -/
def CopyPost (d : Nat) (x : Lx d) (n : Nat) (w : World) (e : Ending) (w' : World) : Prop := ∃ b, e = .returned (whole b n) ∧ OwnL d w' w.heap.size w'.heap.size b n x ∧ Below w.heap.size w w'
def CopyV (d : Nat) (x : Lx d) : Prop := ∀ (a : Option Addr) (n c : Nat) (w : World), RdL (· < w.heap.size) d w a n c x → Calls Try.prog 28 #[.slice a n c] w (CopyPost d x n w)
def CopySP (d : Nat) (f : Flat) (x : Lx d) (w : World) (e : Ending) (w' : World) : Prop := ∃ b n, e = .returned (sval f (some ⟨b, 0, none⟩) n n) ∧ OwnL d w' w.heap.size w'.heap.size b n x ∧ Below w.heap.size w w'
def scel (f : Flat) (a : Option Addr) (n c : Nat) : List Value := [.int .i64 f.kind, .int .i64 f.ns, .string f.pre, .string f.name, .int .i64 f.op, .string f.text, .bool f.fold, .int .i64 f.mark, .int .i64 f.a, .int .i64 f.b, .slice a n c]
theorem Blk.cells235 {w : World} {g : Nat} {f : Flat} {a : Option Addr} {n c : Nat} {T : TypeId} (h : Blk w g (scel f a n c) T) : w.cell? ⟨g, 2, none⟩ = some (.string f.pre) ∧ w.cell? ⟨g, 3, none⟩ = some (.string f.name) ∧ w.cell? ⟨g, 5, none⟩ = some (.string f.text) := ⟨h.cell 2 _ rfl, h.cell 3 _ rfl, h.cell 5 _ rfl⟩
theorem Blk.s2 {w : World} {g : Nat} {f : Flat} {a : Option Addr} {n c : Nat} {T : TypeId} (h : Blk w g (scel f a n c) T) : Blk (w.setCell ⟨g, 2, none⟩ (.string f.pre)) g (scel f a n c) T := h.setCell 2 _
theorem Blk.s3 {w : World} {g : Nat} {f : Flat} {a : Option Addr} {n c : Nat} {T : TypeId} (h : Blk w g (scel f a n c) T) : Blk (w.setCell ⟨g, 3, none⟩ (.string f.name)) g (scel f a n c) T := h.setCell 3 _
theorem Blk.s5 {w : World} {g : Nat} {f : Flat} {a : Option Addr} {n c : Nat} {T : TypeId} (h : Blk w g (scel f a n c) T) : Blk (w.setCell ⟨g, 5, none⟩ (.string f.text)) g (scel f a n c) T := h.setCell 5 _
theorem Blk.s10 {w : World} {g : Nat} {f : Flat} {a : Option Addr} {n c : Nat} {T : TypeId} (h : Blk w g (scel f a n c) T) (a' : Option Addr) (n' c' : Nat) : Blk (w.setCell ⟨g, 10, none⟩ (.slice a' n' c')) g (scel f a' n' c') T := h.setCell 10 _

set_option maxRecDepth 100000 in
set_option maxHeartbeats 8000000 in
theorem copySimple_any (d : Nat) (f : Flat) (x : Lx d) (IH : CopyV d x) (a : Option Addr) (n c : Nat) (w : World) (hx : RdL (· < w.heap.size) d w a n c x) (hf : FlatOk f) :
    Calls Try.prog 95 #[sval f a n c] w (CopySP d f x w) := by
  unfold sval
  have f0 := fun w => cloneS_any f.pre w hf.1
  have f1 := fun w => cloneS_any f.name w hf.2.1
  have f2 := fun w => cloneS_any f.text w hf.2.2
  obtain ⟨w0, hw0⟩ : ∃ w0, (w.alloc (.cells #[.int .i64 f.kind, .int .i64 f.ns, .string f.pre, .string f.name, .int .i64 f.op, .string f.text, .bool f.fold, .int .i64 f.mark, .int .i64 f.a, .int .i64 f.b, .slice a n c] 86)).alloc (.cells #[.int .i64 0, .int .i64 0, .string ⟨#[]⟩, .string ⟨#[]⟩, .int .i64 0, .string ⟨#[]⟩, .bool false, .int .i64 0, .int .i64 0, .int .i64 0, .slice none 0 0] 86) = w0 := ⟨_, rfl⟩
  have B1 : Blk w0 w.heap.size (scel f a n c) 86 := by rw [← hw0]; exact (Blk.alloc (scel f a n c) _).alloc_old _
  have B2 : Blk w0 (w.heap.size + 1) [.int .i64 0, .int .i64 0, .string ⟨#[]⟩, .string ⟨#[]⟩, .int .i64 0, .string ⟨#[]⟩, .bool false, .int .i64 0, .int .i64 0, .int .i64 0, .slice none 0 0] 86 := by
    rw [← hw0]
    have := Blk.alloc (w := w.alloc (.cells #[.int .i64 f.kind, .int .i64 f.ns, .string f.pre, .string f.name, .int .i64 f.op, .string f.text, .bool f.fold, .int .i64 f.mark, .int .i64 f.a, .int .i64 f.b, .slice a n c] 86)) [.int .i64 0, .int .i64 0, .string ⟨#[]⟩, .string ⟨#[]⟩, .int .i64 0, .string ⟨#[]⟩, .bool false, .int .i64 0, .int .i64 0, .int .i64 0, .slice none 0 0] 86
    rwa [World.size_alloc] at this
  have hb0 : Below w.heap.size w w0 := by
    rw [← hw0]
    have := (Below.refl w.heap.size w).alloc (Nat.le_refl _) (.cells #[.int .i64 f.kind, .int .i64 f.ns, .string f.pre, .string f.name, .int .i64 f.op, .string f.text, .bool f.fold, .int .i64 f.mark, .int .i64 f.a, .int .i64 f.b, .slice a n c] 86)
    exact this.alloc this.size _
  have HW0 := Lib.hid hw0
  have HB0 := Lib.hid hb0.drew
  have HB1 := Lib.hid (B1.drewN 1)
  have HB2 := Lib.hid (B2.drewN 1)
  have HX := Lib.hid hx
  have HIH := Lib.hid IH
  obtain ⟨d0, d1, d2⟩ := (B1.drewN 1).cells235
  clear hb0 B1 B2 hx IH hf
  go_enter Try.func95, Try.ntmps95
  go_wp2
  go_region_held3 (fun w' => w'.cell? ⟨w.heap.size, 2, none⟩ = some (.string f.pre) ∧ w'.cell? ⟨w.heap.size, 3, none⟩ = some (.string f.name) ∧ w'.cell? ⟨w.heap.size, 5, none⟩ = some (.string f.text)) (first | exact ⟨d0, d1, d2⟩ | exact a3 | exact a4 | exact a5 | exact a6 | exact a7 | exact a8) (first
    | ((go_at_call 62); (with_reducible refine (f0 _).mono ?_); rintro e w3 ⟨rfl, hb3⟩; have C3 := Blk.later HB1.out hb3 HB1.out.lt; have a3 := C3.cells235; have X3 := Blk.later HB2.out hb3 HB2.out.lt)
    | ((go_at_call 62); (with_reducible refine (f1 _).mono ?_); rintro e w4 ⟨rfl, hb4⟩; have C4 := C3.later hb4 C3.lt; have a4 := C4.cells235; have X4 := X3.later hb4 X3.lt)
    | ((go_at_call 62); (with_reducible refine (f2 _).mono ?_); rintro e w5 ⟨rfl, hb5⟩; have C5 := C4.later hb5 C4.lt; have a5 := C5.cells235; have X5 := X4.later hb5 X4.lt; have g0 := C5.frozen 2; have g1 := C5.frozen 3; have g2 := C5.frozen 5; have C6 := C5.s2; have a6 := C6.cells235; have C7 := C6.s3; have a7 := C7.cells235; have C8 := C7.s5; have a8 := C8.cells235))
  have X8 := ((X5.kept (grown_setCell w5 w.heap.size 2 (.string f.pre)) (by simp)).kept (grown_setCell _ w.heap.size 3 (.string f.name)) (by simp)).kept (grown_setCell _ w.heap.size 5 (.string f.text)) (by simp)
  have hbe := ((HB0.out.trans (hb3.mono HB0.out.size)).trans (hb4.mono (HB0.out.trans (hb3.mono HB0.out.size)).size)).trans (hb5.mono ((HB0.out.trans (hb3.mono HB0.out.size)).trans (hb4.mono (HB0.out.trans (hb3.mono HB0.out.size)).size)).size)
  have hb8 := ((hbe.setCell (p := ⟨w.heap.size, 2, none⟩) (Nat.le_refl _) (.string f.pre)).setCell (p := ⟨w.heap.size, 3, none⟩) (Nat.le_refl _) (.string f.name)).setCell (p := ⟨w.heap.size, 5, none⟩) (Nat.le_refl _) (.string f.text)
  clear C3 C4 C5 C6 C7 a3 a4 a5 a6 a7 a8 g0 g1 g2 X3 X4 X5 hbe hb3 hb4 hb5 d0 d1 d2 f0 f1 f2
  generalize hW8 : ((w5.setCell ⟨w.heap.size, 2, none⟩ (.string f.pre)).setCell ⟨w.heap.size, 3, none⟩ (.string f.name)).setCell ⟨w.heap.size, 5, none⟩ (.string f.text) = W8 at *
  clear hW8
  have C10 := C8.cell 10 _ rfl
  have fC := HIH.out a n c W8 (HX.out.later hb8 (Nat.le_refl _))
  have HC8 := Lib.hid C8
  have HX8 := Lib.hid X8
  have HB8 := Lib.hid hb8
  clear C8 X8 hb8
  go_wp2_with (go_at_call 28; (with_reducible refine fC.mono ?_); rintro e w9 ⟨bN, rfl, hO, hb9⟩; unfold whole; have C9 := HC8.out.later hb9 HC8.out.lt; have Y9 := HX8.out.later hb9 HX8.out.lt; have c10 := C9.cell 10 _ rfl; have f10 := C9.frozen 10; have D := C9.s10 (some ⟨bN, 0, none⟩) n n; have Y := Y9.kept (grown_setCell w9 w.heap.size 10 (.slice (some ⟨bN, 0, none⟩) n n)) (by simp); have E0 := D.cell 0 _ rfl; have E1 := D.cell 1 _ rfl; have E2 := D.cell 2 _ rfl; have E3 := D.cell 3 _ rfl; have E4 := D.cell 4 _ rfl; have E5 := D.cell 5 _ rfl; have E6 := D.cell 6 _ rfl; have E7 := D.cell 7 _ rfl; have E8 := D.cell 8 _ rfl; have E9 := D.cell 9 _ rfl; have E10 := D.cell 10 _ rfl; have y0 := Y.cell 0 _ rfl; have y1 := Y.cell 1 _ rfl; have y2 := Y.cell 2 _ rfl; have y3 := Y.cell 3 _ rfl; have y4 := Y.cell 4 _ rfl; have y5 := Y.cell 5 _ rfl; have y6 := Y.cell 6 _ rfl; have y7 := Y.cell 7 _ rfl; have y8 := Y.cell 8 _ rfl; have y9 := Y.cell 9 _ rfl; have y10 := Y.cell 10 _ rfl; have z0 := Y.frozen 0; have z1 := Y.frozen 1; have z2 := Y.frozen 2; have z3 := Y.frozen 3; have z4 := Y.frozen 4; have z5 := Y.frozen 5; have z6 := Y.frozen 6; have z7 := Y.frozen 7; have z8 := Y.frozen 8; have z9 := Y.frozen 9; have z10 := Y.frozen 10)
  have F9 := setAll_blk (scel f (some ⟨bN, 0, none⟩) n n) 0 _ _ Y
  have hbT := HB8.out.trans (hb9.mono HB8.out.size)
  have hbS := hbT.setCell (p := ⟨w.heap.size, 10, none⟩) (Nat.le_refl _) (.slice (some ⟨bN, 0, none⟩) n n)
  have hbF := setAll_below (g := w.heap.size + 1) (Nat.le_succ w.heap.size) (scel f (some ⟨bN, 0, none⟩) n n) 0 _ hbS
  have q0 := F9.cell 0 _ rfl
  have q1 := F9.cell 1 _ rfl
  have q2 := F9.cell 2 _ rfl
  have q3 := F9.cell 3 _ rfl
  have q4 := F9.cell 4 _ rfl
  have q5 := F9.cell 5 _ rfl
  have q6 := F9.cell 6 _ rfl
  have q7 := F9.cell 7 _ rfl
  have q8 := F9.cell 8 _ rfl
  have q9 := F9.cell 9 _ rfl
  have q10 := F9.cell 10 _ rfl
  change bodyPost _ _ _ _ _ (setAll (w9.setCell ⟨w.heap.size, 10, none⟩ (.slice (some ⟨bN, 0, none⟩) n n)) (w.heap.size + 1) 0 (scel f (some ⟨bN, 0, none⟩) n n))
  refine bodyPost_ret (v := .agg #[.int .i64 f.kind, .int .i64 f.ns, .string f.pre, .string f.name, .int .i64 f.op, .string f.text, .bool f.fold, .int .i64 f.mark, .int .i64 f.a, .int .i64 f.b, .slice (some ⟨bN, 0, none⟩) n n]) (by simp [results, Try.results95, go_sem, q0, q1, q2, q3, q4, q5, q6, q7, q8, q9, q10]) rfl ⟨bN, n, rfl, ?_, hbF⟩
  have hl := HX8.out.lt
  refine (hO.move (w' := setAll (w9.setCell ⟨w.heap.size, 10, none⟩ (.slice (some ⟨bN, 0, none⟩) n n)) (w.heap.size + 1) 0 (scel f (some ⟨bN, 0, none⟩) n n)) (fun bl h1 h2 => ?_)).mono HB8.out.size (by rw [setAll_size, size_set]; exact Nat.le_refl _)
  rw [setAll_old (by omega), heap_set (by omega)]

theorem RdSm.later {w w' : World} {B : Nat} (hb : Below B w w') (hB : B ≤ w.heap.size) {d : Nat} {a : Option Addr} {n c : Nat} {x : List (Flat × Lx d)} (h : RdOf (· < B) 11 (SimpleAt (RdL (· < B) d w) w) a n c x) : RdOf (· < w'.heap.size) 11 (SimpleAt (RdL (· < w'.heap.size) d w') w') a n c x :=
  RdOf.imp h (fun b h => Nat.lt_of_lt_of_le h (Nat.le_trans hB hb.size)) (fun _ _ _ hb' hx => hx.move (hb.block _ hb') (fun _ _ _ _ h => RdL.later hb hB h))

set_option maxRecDepth 100000 in
set_option maxHeartbeats 8000000 in
theorem copiedS_any (d : Nat) (xs : List (Flat × Lx d)) (IH : ∀ (k : Nat) (x : Flat × Lx d), xs[k]? = some x → CopyV d x.2) (a : Option Addr) (n c : Nat) (w : World) (hx : RdOf (· < w.heap.size) 11 (SimpleAt (RdL (· < w.heap.size) d w) w) a n c xs) (hn : n ≤ 1000000) :
    Calls Try.prog 94 #[.slice a n c, .func (.func 95) #[] #[]] w fun e w' => ∃ b, e = .returned (whole b n) ∧ OwnRow 11 86 ((fun w => OwnS (OwnL d w)) w') w' w.heap.size w'.heap.size b xs ∧ Below w.heap.size w w' := by
  have hmk := make_any 93 86 _ 11 128 Try.underlying93 TryinfoSimple n (by omega) (by omega)
  obtain ⟨cs0, hl0, hB0⟩ := made_blk w (Value.agg #[.int .i64 0, .int .i64 0, .string ⟨#[]⟩, .string ⟨#[]⟩, .int .i64 0, .string ⟨#[]⟩, .bool false, .int .i64 0, .int .i64 0, .int .i64 0, .slice none 0 0]).cells (n * 11) 86
  have hb0 := (Below.refl w.heap.size w).alloc (Nat.le_refl _) (.cells (madeCells (Value.agg #[.int .i64 0, .int .i64 0, .string ⟨#[]⟩, .string ⟨#[]⟩, .int .i64 0, .string ⟨#[]⟩, .bool false, .int .i64 0, .int .i64 0, .int .i64 0, .slice none 0 0]).cells (n * 11)) 86)
  have hm : n ≤ 9223372036854775807 := by omega
  have HN := Lib.hid hx.1
  have HX := Lib.hid hx
  have HIH := Lib.hid IH
  
  have HM := Lib.hid hmk
  have HP0 := Lib.hid (show PartRow 11 86 (fun w => OwnS (OwnL d w)) (w.alloc (.cells (madeCells (Value.agg #[.int .i64 0, .int .i64 0, .string ⟨#[]⟩, .string ⟨#[]⟩, .int .i64 0, .string ⟨#[]⟩, .bool false, .int .i64 0, .int .i64 0, .int .i64 0, .slice none 0 0]).cells (n * 11)) 86)) w.heap.size 0 cs0 (fun _ => w.heap.size + 1) xs from ⟨hB0, by rw [hl0, hx.1], Nat.lt_succ_self _, fun i hi => by omega, by simp, fun i x hi => by omega⟩)
  have Hb0 := Lib.hid hb0
  clear hx hmk hl0 hB0 hb0 IH
  have hmk := HM.out w
  go_enter Try.func94, Try.ntmps94
  go_wp2_with fail
  clear hmk
  go_loopw [13] (fun i wr => ∃ (k : Nat) (cs : List Value) (h : Nat → Nat), k ≤ n ∧ i = .int .i64 k ∧ Hid (PartRow 11 86 (fun w => OwnS (OwnL d w)) wr w.heap.size k cs h xs) ∧ Hid (Below w.heap.size w wr)) (fun i _ => n - (intOf i).toNat)
  case atStart => exact ⟨0, cs0, _, Nat.zero_le _, rfl, HP0, Hb0⟩
  case round =>
    obtain ⟨k, cs, h, hk, rfl, HP, HW⟩ := hrel
    by_cases hlt : k < n
    · obtain ⟨x, hxk⟩ : ∃ x, xs[k]? = some x := ⟨_, List.getElem?_eq_getElem (by rw [← HN.out]; exact hlt)⟩
      obtain ⟨g, off, rfl, hg, ⟨x0, x1, x2, x3, x4, x5, x6, x7, x8, x9⟩, a1, n1, c1, x10, hL, hfo⟩ := HX.out.at k x hxk
      rw [← cell_same (HW.out.block g hg)] at x0 x1 x2 x3 x4 x5 x6 x7 x8 x9 x10
      have hbX := HW.out.alloc HW.out.size (.cells #[.int .i64 x.1.kind, .int .i64 x.1.ns, .string x.1.pre, .string x.1.name, .int .i64 x.1.op, .string x.1.text, .bool x.1.fold, .int .i64 x.1.mark, .int .i64 x.1.a, .int .i64 x.1.b, .slice a1 n1 c1] 86)
      have fC := copySimple_any d x.1 x.2 (HIH.out k x hxk) a1 n1 c1 _ (hL.later hbX (Nat.le_refl _)) hfo
      unfold sval at fC
      have hkI : (0 : Int) ≤ (k : Int) := by omega
      have hkI2 : (k : Int) < (n : Int) := by omega
      have hcl : Hid (cs.length = n * 11) := Lib.hid (by rw [HP.out.2.1, HN.out])
      have HXK := Lib.hid hxk
      have HBX := Lib.hid hbX
      have HBB := Lib.hid (HP.out.1.alloc_old (.cells #[.int .i64 x.1.kind, .int .i64 x.1.ns, .string x.1.pre, .string x.1.name, .int .i64 x.1.op, .string x.1.text, .bool x.1.fold, .int .i64 x.1.mark, .int .i64 x.1.a, .int .i64 x.1.b, .slice a1 n1 c1] 86))
      obtain ⟨o0, ho0⟩ : ∃ o, cs[k * 11]? = some o := ⟨_, List.getElem?_eq_getElem (by rw [hcl.out]; omega)⟩
      have HO0 := Lib.hid ho0
      obtain ⟨o1, ho1⟩ : ∃ o, cs[k * 11 + 1]? = some o := ⟨_, List.getElem?_eq_getElem (by rw [hcl.out]; omega)⟩
      have HO1 := Lib.hid ho1
      obtain ⟨o2, ho2⟩ : ∃ o, cs[k * 11 + 2]? = some o := ⟨_, List.getElem?_eq_getElem (by rw [hcl.out]; omega)⟩
      have HO2 := Lib.hid ho2
      obtain ⟨o3, ho3⟩ : ∃ o, cs[k * 11 + 3]? = some o := ⟨_, List.getElem?_eq_getElem (by rw [hcl.out]; omega)⟩
      have HO3 := Lib.hid ho3
      obtain ⟨o4, ho4⟩ : ∃ o, cs[k * 11 + 4]? = some o := ⟨_, List.getElem?_eq_getElem (by rw [hcl.out]; omega)⟩
      have HO4 := Lib.hid ho4
      obtain ⟨o5, ho5⟩ : ∃ o, cs[k * 11 + 5]? = some o := ⟨_, List.getElem?_eq_getElem (by rw [hcl.out]; omega)⟩
      have HO5 := Lib.hid ho5
      obtain ⟨o6, ho6⟩ : ∃ o, cs[k * 11 + 6]? = some o := ⟨_, List.getElem?_eq_getElem (by rw [hcl.out]; omega)⟩
      have HO6 := Lib.hid ho6
      obtain ⟨o7, ho7⟩ : ∃ o, cs[k * 11 + 7]? = some o := ⟨_, List.getElem?_eq_getElem (by rw [hcl.out]; omega)⟩
      have HO7 := Lib.hid ho7
      obtain ⟨o8, ho8⟩ : ∃ o, cs[k * 11 + 8]? = some o := ⟨_, List.getElem?_eq_getElem (by rw [hcl.out]; omega)⟩
      have HO8 := Lib.hid ho8
      obtain ⟨o9, ho9⟩ : ∃ o, cs[k * 11 + 9]? = some o := ⟨_, List.getElem?_eq_getElem (by rw [hcl.out]; omega)⟩
      have HO9 := Lib.hid ho9
      obtain ⟨o10, ho10⟩ : ∃ o, cs[k * 11 + 10]? = some o := ⟨_, List.getElem?_eq_getElem (by rw [hcl.out]; omega)⟩
      have HO10 := Lib.hid ho10
      have HFO := Lib.hid hfo
      clear hxk hbX hL hfo ho0 ho1 ho2 ho3 ho4 ho5 ho6 ho7 ho8 ho9 ho10
      go_wp2_with (go_at_call 95; (with_reducible refine fC.mono ?_); rintro e w2 ⟨bE, nE, rfl, hO, hb2⟩; unfold sval; have B2 := HBB.out.later hb2 HBB.out.lt; have d0 := B2.cell (k * 11) _ HO0.out; have g0 := B2.frozen (k * 11); have d1 := B2.cell (k * 11 + 1) _ HO1.out; have g1 := B2.frozen (k * 11 + 1); have d2 := B2.cell (k * 11 + 2) _ HO2.out; have g2 := B2.frozen (k * 11 + 2); have d3 := B2.cell (k * 11 + 3) _ HO3.out; have g3 := B2.frozen (k * 11 + 3); have d4 := B2.cell (k * 11 + 4) _ HO4.out; have g4 := B2.frozen (k * 11 + 4); have d5 := B2.cell (k * 11 + 5) _ HO5.out; have g5 := B2.frozen (k * 11 + 5); have d6 := B2.cell (k * 11 + 6) _ HO6.out; have g6 := B2.frozen (k * 11 + 6); have d7 := B2.cell (k * 11 + 7) _ HO7.out; have g7 := B2.frozen (k * 11 + 7); have d8 := B2.cell (k * 11 + 8) _ HO8.out; have g8 := B2.frozen (k * 11 + 8); have d9 := B2.cell (k * 11 + 9) _ HO9.out; have g9 := B2.frozen (k * 11 + 9); have d10 := B2.cell (k * 11 + 10) _ HO10.out; have g10 := B2.frozen (k * 11 + 10))
      have hwr : Below wr.heap.size wr w2 := ((Below.refl _ _).alloc (Nat.le_refl _) (.cells #[.int .i64 x.1.kind, .int .i64 x.1.ns, .string x.1.pre, .string x.1.name, .int .i64 x.1.op, .string x.1.text, .bool x.1.fold, .int .i64 x.1.mark, .int .i64 x.1.a, .int .i64 x.1.b, .slice a1 n1 c1] 86)).trans (hb2.mono (by simp))
      have hbS := setAll_below (g := w.heap.size) (Nat.le_refl _) [.int .i64 x.1.kind, .int .i64 x.1.ns, .string x.1.pre, .string x.1.name, .int .i64 x.1.op, .string x.1.text, .bool x.1.fold, .int .i64 x.1.mark, .int .i64 x.1.a, .int .i64 x.1.b, .slice (some ⟨bE, 0, none⟩) nE nE] (k * 11) w2 (HW.out.trans (hwr.mono HW.out.size))
      have HMV : ∀ bl, (wr.alloc (.cells #[.int .i64 x.1.kind, .int .i64 x.1.ns, .string x.1.pre, .string x.1.name, .int .i64 x.1.op, .string x.1.text, .bool x.1.fold, .int .i64 x.1.mark, .int .i64 x.1.a, .int .i64 x.1.b, .slice a1 n1 c1] 86)).heap.size ≤ bl → bl < w2.heap.size → (setAll w2 w.heap.size (k * 11) [.int .i64 x.1.kind, .int .i64 x.1.ns, .string x.1.pre, .string x.1.name, .int .i64 x.1.op, .string x.1.text, .bool x.1.fold, .int .i64 x.1.mark, .int .i64 x.1.a, .int .i64 x.1.b, .slice (some ⟨bE, 0, none⟩) nE nE]).heap[bl]? = w2.heap[bl]? := fun bl h1 _ => setAll_old (by have h2 := HP.out.1.lt; rw [World.size_alloc] at h1; omega) _ _ _
      have HLO : h k ≤ (wr.alloc (.cells #[.int .i64 x.1.kind, .int .i64 x.1.ns, .string x.1.pre, .string x.1.name, .int .i64 x.1.op, .string x.1.text, .bool x.1.fold, .int .i64 x.1.mark, .int .i64 x.1.a, .int .i64 x.1.b, .slice a1 n1 c1] 86)).heap.size := Nat.le_trans HP.out.2.2.2.2.1 (by rw [World.size_alloc]; omega)
      have HO := Lib.hid hO
      have HSE : ∀ (i : Nat) (u : Value), [.int .i64 x.1.kind, .int .i64 x.1.ns, .string x.1.pre, .string x.1.name, .int .i64 x.1.op, .string x.1.text, .bool x.1.fold, .int .i64 x.1.mark, .int .i64 x.1.a, .int .i64 x.1.b, .slice (some ⟨bE, 0, none⟩) nE nE][i]? = some u → (setsAll cs (k * 11) [.int .i64 x.1.kind, .int .i64 x.1.ns, .string x.1.pre, .string x.1.name, .int .i64 x.1.op, .string x.1.text, .bool x.1.fold, .int .i64 x.1.mark, .int .i64 x.1.a, .int .i64 x.1.b, .slice (some ⟨bE, 0, none⟩) nE nE])[k * 11 + i]? = some u := fun i u hu => setsAll_self _ _ _ (by rw [hcl.out]; simp; omega) hu
      have HPN := Lib.hid (PartRow.step (stableS d) (vs := [.int .i64 x.1.kind, .int .i64 x.1.ns, .string x.1.pre, .string x.1.name, .int .i64 x.1.op, .string x.1.text, .bool x.1.fold, .int .i64 x.1.mark, .int .i64 x.1.a, .int .i64 x.1.b, .slice (some ⟨bE, 0, none⟩) nE nE]) HP.out hwr rfl HXK.out (by
        obtain ⟨⟨k0, k1, k2, k3, k4, k5, k6, k7, k8, k9⟩, k10⟩ : FlatC (setsAll cs (k * 11) [.int .i64 x.1.kind, .int .i64 x.1.ns, .string x.1.pre, .string x.1.name, .int .i64 x.1.op, .string x.1.text, .bool x.1.fold, .int .i64 x.1.mark, .int .i64 x.1.a, .int .i64 x.1.b, .slice (some ⟨bE, 0, none⟩) nE nE]) (k * 11) x.1 ∧ (setsAll cs (k * 11) [.int .i64 x.1.kind, .int .i64 x.1.ns, .string x.1.pre, .string x.1.name, .int .i64 x.1.op, .string x.1.text, .bool x.1.fold, .int .i64 x.1.mark, .int .i64 x.1.a, .int .i64 x.1.b, .slice (some ⟨bE, 0, none⟩) nE nE])[k * 11 + 10]? = some (whole bE nE) := ⟨⟨by have := HSE 0 _ rfl; exact this, HSE 1 _ rfl, HSE 2 _ rfl, HSE 3 _ rfl, HSE 4 _ rfl, HSE 5 _ rfl, HSE 6 _ rfl, HSE 7 _ rfl, HSE 8 _ rfl, HSE 9 _ rfl⟩, HSE 10 _ rfl⟩
        refine ⟨⟨k0, k1, k2, k3, k4, k5, k6, k7, k8, k9⟩, HFO.out, bE, nE, k10, (HO.out.move HMV).mono HLO (Nat.le_refl _)⟩
        ))
      have HBS := Lib.hid hbS
      clear hbS HMV HLO HSE hwr hO B2 d0 g0 d1 g1 d2 g2 d3 g3 d4 g4 d5 g5 d6 g6 d7 g7 d8 g8 d9 g9 d10 g10
      go_wp2
      go_roundw
      case rel => exact ⟨k + 1, _, _, by omega, by go_num, HPN, HBS⟩
      case measure => simp [intOf]; omega
    · have hkI : ¬ (k : Int) < (n : Int) := by omega
      obtain rfl : k = n := by omega
      go_wp2
      go_ret
      refine ⟨w.heap.size, rfl, ?_, HW.out⟩
      have := HP.out
      rw [HN.out] at this
      exact this.done (Nat.le_refl _)
end Go.Proofs.Ytfgnepbpfglepaa
