/- Texts of mine in one: Byte Chars Same Speaks Put Whole. -/
import Derived.Test.YtcfhggdiccilaaaGreatQ03
import Derived.Test.YtcfhggdiccilaaaGreatQ01
import Derived.Deep.RegionWith
namespace Go.Proofs.YtcfhggdiccilaaaGreat
section
open Go.RowKit
theorem wrap_i32_bd (n : Int) : -2147483648 ≤ IntKind.i32.wrap n ∧ IntKind.i32.wrap n ≤ 2147483647 := by
  simp only [IntKind.wrap, IntKind.bits, IntKind.signed]
  simp
  omega
theorem charNext_bd : ∀ c z, -2147483648 ≤ charNext c z ∧ charNext c z ≤ 2147483647 := fun _ _ => wrap_i32_bd _
theorem byte_cases {P : Int → Prop} (h : ∀ n : Fin 256, P (n.val : Int)) (z : Int) (h0 : 0 ≤ z) (h1 : z ≤ 255) : P z := by
  have := h ⟨z.toNat, by omega⟩
  rwa [show ((z.toNat : Nat) : Int) = z from by omega] at this
theorem and63 (z : Int) (h0 : 0 ≤ z) (h1 : z ≤ 255) : bits .and .u8 z 63 = z % 64 := byte_cases (P := fun z => bits .and .u8 z 63 = z % 64) (by decide +kernel) z h0 h1
theorem charBegin_eq (z : Int) (h0 : 0 ≤ z) (h1 : z ≤ 255) : charBegin z = if 240 ≤ z then z % 8 else if 224 ≤ z then z % 16 else if 128 ≤ z then z % 32 else z :=
  byte_cases (P := fun z => charBegin z = if 240 ≤ z then z % 8 else if 224 ≤ z then z % 16 else if 128 ≤ z then z % 32 else z) (by decide +kernel) z h0 h1
theorem charNext_eq (c z : Int) (hc : 0 ≤ c ∧ c < 32768) (h0 : 0 ≤ z ∧ z ≤ 255) : charNext c z = c * 64 + z % 64 := by
  unfold charNext
  rw [and63 z h0.1 h0.2]
  obtain ⟨n, rfl⟩ := Int.eq_ofNat_of_zero_le hc.1
  obtain ⟨m, rfl⟩ := Int.eq_ofNat_of_zero_le h0.1
  rw [show wrap32 ((n : Int) * 64) = ((n * 64 : Nat) : Int) from by unfold wrap32; omega, show wrap32 ((m : Int) % 64) = ((m % 64 : Nat) : Int) from by unfold wrap32; omega]
  have hn : ∀ k : Nat, k < 4294967296 → (BitVec.ofInt 32 (k : Int)).toNat = k := fun k hk => by
    rw [BitVec.toNat_ofInt]; simp; omega
  have hj : (n * 64) ||| (m % 64) = n * 64 + m % 64 := nat_join 6 (n * 64) (m % 64) (by omega) (by omega)
  have hb : ∀ x y : Int, bits .or .i32 x y = IntKind.i32.wrap ((((BitVec.ofInt 32 x : BitVec 32) ||| (BitVec.ofInt 32 y : BitVec 32) : BitVec 32).toNat : Nat) : Int) := fun _ _ => rfl
  rw [hb, BitVec.toNat_or, hn _ (by omega), hn _ (by omega), hj]
  simp only [IntKind.wrap, IntKind.bits, IntKind.signed]
  simp
  omega
end

section
open Go.RowKit
theorem readF_size (zs : List Int) (h : zs ≠ []) : 1 ≤ (readF zs).2.1 ∧ (readF zs).2.1 ≤ zs.length := by
  have hl : 1 ≤ zs.length := List.length_pos_iff.2 h
  unfold readF
  dsimp only
  split
  · exact ⟨Nat.le_refl _, hl⟩
  · split
    · split
      · exact ⟨Nat.le_refl _, hl⟩
      · rename_i k1
        have k1 := (Decidable.not_not.1 k1).1
        split
        · exact ⟨by simp, k1⟩
        · split
          · exact ⟨by simp, k1⟩
          · rename_i k2
            have k2 := (Decidable.not_not.1 k2).1
            split
            · exact ⟨by simp, k2⟩
            · split
              · exact ⟨by simp, k2⟩
              · rename_i k3
                have k3 := (Decidable.not_not.1 k3).1
                exact ⟨by simp, k3⟩
    · exact ⟨Nat.le_refl _, hl⟩
def charF (zs : List Int) : Int := if (readF zs).2.2 = true then (readF zs).1 else 65533
def sizeF (zs : List Int) : Nat := (readF zs).2.1
def charsN : Nat → List Int → Nat → List Int
  | 0, _, _ => []
  | f + 1, zs, at_ => if zs.length ≤ at_ then [] else
      (if charF (zs.drop at_) ≠ 65279 ∨ at_ ≠ 0 then [charF (zs.drop at_)] else []) ++ charsN f zs (at_ + sizeF (zs.drop at_))
def charsFrom (zs : List Int) (at_ : Nat) : List Int := charsN (zs.length - at_) zs at_
def charsF (zs : List Int) : List Int := charsFrom zs 0
theorem charsN_enough (zs : List Int) : ∀ (f at_ : Nat), zs.length - at_ ≤ f → charsN f zs at_ = charsN (zs.length - at_) zs at_
  | 0, at_, h => by rw [show zs.length - at_ = 0 by omega]
  | f + 1, at_, h => by
    by_cases hl : zs.length ≤ at_
    · rw [show zs.length - at_ = 0 by omega]; simp only [charsN]; rw [if_pos hl]
    · have hs := readF_size (zs.drop at_) (by simp; omega)
      obtain ⟨m, hm⟩ : ∃ m, zs.length - at_ = m + 1 := ⟨zs.length - at_ - 1, by omega⟩
      rw [hm, charsN, charsN, if_neg hl, if_neg hl]
      congr 1
      have hs' : 1 ≤ sizeF (zs.drop at_) := hs.1
      rw [charsN_enough zs f _ (by omega), charsN_enough zs m _ (by omega)]
theorem charsFrom_end (zs : List Int) (at_ : Nat) (h : zs.length ≤ at_) : charsFrom zs at_ = [] := by
  unfold charsFrom; rw [show zs.length - at_ = 0 by omega, charsN]
theorem charsFrom_step (zs : List Int) (at_ : Nat) (h : at_ < zs.length) :
    charsFrom zs at_ = (if charF (zs.drop at_) ≠ 65279 ∨ at_ ≠ 0 then [charF (zs.drop at_)] else []) ++ charsFrom zs (at_ + sizeF (zs.drop at_)) := by
  have hs : 1 ≤ sizeF (zs.drop at_) := (readF_size (zs.drop at_) (by simp; omega)).1
  unfold charsFrom
  obtain ⟨m, hm⟩ : ∃ m, zs.length - at_ = m + 1 := ⟨zs.length - at_ - 1, by omega⟩
  rw [hm, charsN, if_neg (by omega)]
  congr 1
  exact charsN_enough zs m _ (by omega)
theorem readF_char (zs : List Int) (hz : U8 zs) : -2147483648 ≤ (readF zs).1 ∧ (readF zs).1 ≤ 2147483647 := by
  have hz0 := hz.at 0
  have hb := charNext_bd
  have hi : ∀ c, -2147483648 ≤ c → c ≤ 2147483647 → -2147483648 ≤ c ∧ c ≤ 2147483647 := fun c h h' => ⟨h, h'⟩
  unfold readF
  dsimp only
  (repeat' split) <;> first | exact hb _ _ | (apply hi <;> dsimp only <;> omega)
def Fresh (B : Nat) (a : Option Addr) : Prop := ∀ ad, a = some ad → B ≤ ad.block
theorem Fresh.of_owns {w : World} {base : Nat} {e : TypeId} {size n n' cap : Nat} {v : Value} {xs : List Value} {a : Option Addr} (h : w.ownsRow base e size v n xs) (hv : v = .slice a n' cap) : Fresh base a := by
  intro ad ha
  subst ha
  exact (h.lt ad.block (by rw [hv]; rfl)).1
theorem nil_of_owns {w : World} {base : Nat} {e : TypeId} {size n n' cap : Nat} {v : Value} {xs : List Value} {a : Option Addr} (h : w.ownsRow base e size v n xs) (hv : v = .slice a n' cap) : a = none → cap = 0 := by
  intro ha
  subst ha
  rcases h.2 with ⟨h1, _⟩ | ⟨g, cap', cur, h1, _⟩
  · rw [hv] at h1; injection h1
  · rw [hv] at h1; injection h1 with h2 _ _; cases h2
def CharsPost (zs : List Int) (w : World) (e : Ending) (w' : World) : Prop :=
  ∃ a cap, e = .returned (.slice a (charsF zs).length cap) ∧ Reads w' .i64 a cap (charsF zs) ∧ Below w.heap.size w w' ∧ Fresh w.heap.size a ∧ (a = none → cap = 0)
theorem Tryz.info3 : (Tryz.prog.info? 3).map (fun i => (i.zero, i.size, i.bytes)) = some (some (.int .i64 0), 1, 8) := by kernel_rfl
end

section
open Go.RowKit
def BoolPost (r : Bool) (w : World) (e : Ending) (w' : World) : Prop := e = .returned (.bool r) ∧ Below w.heap.size w w'
theorem same_upto {xs ys : List Int} (hl : xs.length = ys.length) (h : ∀ j : Nat, j < xs.length → xs[j]?.getD 0 = ys[j]?.getD 0) : xs = ys := by
  refine List.ext_getElem hl fun j h1 h2 => ?_
  have := h j h1
  rwa [List.getElem?_eq_getElem h1, List.getElem?_eq_getElem h2] at this
set_option maxRecDepth 100000 in
set_option maxHeartbeats 1000000 in
theorem same_some (b off c b' off' c' n : Nat) (xs ys : List Int) (w : World) (hx : xs.length = n) (hy : ys.length = n) (_h1 : n ≤ c) (_h2 : n ≤ c') (h3 : c ≤ maxLen)
    (ha : At w .i64 b off xs) (ha' : At w .i64 b' off' ys) :
    Calls Tryz.prog 11 #[.slice (some ⟨b, off, none⟩) n c, .slice (some ⟨b', off', none⟩) n c'] w (BoolPost (decide (xs = ys)) w) := by
  unfold maxLen at h3
  have HX := Lib.hid hx; clear hx
  have HY := Lib.hid hy; clear hy
  go_enter Tryz.func11, Tryz.ntmps11
  go_wp2
  go_loopw [5] (fun i wr => ∃ k : Nat, k ≤ n ∧ i = .int .i64 k ∧ (∀ j : Nat, j < k → xs[j]?.getD 0 = ys[j]?.getD 0) ∧ Below w.heap.size w wr) (fun i _ => n - (intOf i).toNat)
  case atStart => exact ⟨0, by omega, rfl, fun _ h => by omega, Below.refl _ _⟩
  case round =>
    obtain ⟨k, hk, rfl, hall, hbl⟩ := hrel
    have HA := Lib.hid hall; clear hall
    by_cases hlt : k < n
    · have c1 := (ha.later hbl ha.1).2 k (by rw [HX.out]; exact hlt)
      have c2 := (ha'.later hbl ha'.1).2 k (by rw [HY.out]; exact hlt)
      have hlt' : (k : Int) < (n : Int) := by omega
      by_cases he : xs[k]?.getD 0 = ys[k]?.getD 0
      · have HE := Lib.hid he
        have he' : (xs[k]?.getD 0 != ys[k]?.getD 0) = false := by rw [he]; simp
        clear he
        generalize xs[k]?.getD 0 = x at c1 he'
        generalize ys[k]?.getD 0 = y at c2 he'
        go_wp2
        go_quiet (fail)
        go_wp2
        go_roundw
        case rel =>
          refine ⟨k + 1, by omega, by go_num, fun j hj => ?_, below_drewN hbl _⟩
          rcases Nat.lt_or_ge j k with h | h
          · exact HA.out j h
          · rw [show j = k from by omega]; exact HE.out
        case measure => simp [intOf]; omega
      · have HE : Hid (decide (xs = ys) = false) := Lib.hid (decide_eq_false (fun h => he (by rw [h])))
        have he' : (xs[k]?.getD 0 != ys[k]?.getD 0) = true := by rw [bne_iff_ne]; exact he
        clear he
        generalize xs[k]?.getD 0 = x at c1 he'
        generalize ys[k]?.getD 0 = y at c2 he'
        go_wp2
        go_quiet (fail)
        go_wp2
        go_ret
        exact ⟨ret_bool HE.out.symm, below_drewN hbl _⟩
    · go_wp2
      go_ret
      have h := same_upto (HX.out.trans HY.out.symm) (fun j hj => HA.out j (by rw [HX.out] at hj; omega))
      exact ⟨ret_bool (decide_eq_true h).symm, hbl⟩
theorem same_none (a a' : Option Addr) (c c' : Nat) (w : World) :
    Calls Tryz.prog 11 #[.slice a 0 c, .slice a' 0 c'] w (BoolPost true w) := by
  go_enter Tryz.func11, Tryz.ntmps11
  go_wp2
  refine wp_loop_rounds 1 ?_; rw [rounds_succ]
  go_wp2
  go_ret
  exact ⟨rfl, Below.refl _ _⟩
theorem same_other (a a' : Option Addr) (n n' c c' : Nat) (w : World) (h : ((n : Int) != (n' : Int)) = true) :
    Calls Tryz.prog 11 #[.slice a n c, .slice a' n' c'] w (BoolPost false w) := by
  go_enter Tryz.func11, Tryz.ntmps11
  go_wp2
  go_ret
  exact ⟨rfl, Below.refl _ _⟩
theorem same_any (a a' : Option Addr) (c c' : Nat) (xs ys : List Int) (w : World) (hx : Reads w .i64 a c xs) (hy : Reads w .i64 a' c' ys) :
    Calls Tryz.prog 11 #[.slice a xs.length c, .slice a' ys.length c'] w (BoolPost (decide (xs = ys)) w) := by
  obtain ⟨h1, h2, h3⟩ := hx
  obtain ⟨h1', h2', h3'⟩ := hy
  by_cases hl : xs.length = ys.length
  · by_cases h0 : xs = []
    · subst h0
      obtain rfl : ys = [] := List.length_eq_zero_iff.1 hl.symm
      exact same_none a a' c c' w
    · have h0' : ys ≠ [] := fun h => h0 (List.length_eq_zero_iff.1 (by rw [hl, h]; rfl))
      obtain ⟨b, off, rfl, hat⟩ := h3.resolve_left h0
      obtain ⟨b', off', rfl, hat'⟩ := h3'.resolve_left h0'
      rw [← hl]
      exact same_some b off c b' off' c' xs.length xs ys w rfl hl.symm h1 (by omega) h2 hat hat'
  · rw [decide_eq_false (fun h => hl (by rw [h]))]
    exact same_other a a' xs.length ys.length c c' w (by rw [bne_iff_ne]; omega)
end

section
open Go.RowKit
theorem reads_new (w : World) (k : IntKind) (zs : List Int) (T : TypeId) (n : Nat) (hn : zs.length = n) (hm : n ≤ maxLen) : Reads (w.alloc (.cells (zs.map (Value.int k)).toArray T)) k (some ⟨w.heap.size, 0, none⟩) n zs := by
  subst hn
  refine ⟨Nat.le_refl _, hm, .inr ⟨_, _, rfl, by simp, fun j hj => ?_⟩⟩
  rw [Nat.zero_add, (Blk.alloc (w := w) (zs.map (Value.int k)) T).cell j (.int k (zs[j]?.getD 0)) (by rw [List.getElem?_map, List.getElem?_eq_getElem hj]; rfl)]
end

section
open Go.RowKit
def rightB (n : Int) : Bool := decide (0 ≤ n ∧ n < 1114112 ∧ (n < 55296 ∨ 57343 < n))
set_option maxRecDepth 100000 in
set_option maxHeartbeats 400000 in
theorem refRight_any (n : Int) (w : World) :
    Calls Tryz.prog 58 #[.int .i64 n] w fun e w' => e = .returned (.bool (rightB n)) ∧ w = w' := by
  go_enter Tryz.func58, Tryz.ntmps58
  go_wp2
  all_goals
    go_ret
    refine ⟨ret_bool ?_, rfl⟩
  · show (decide (n < 55296) || decide (57343 < n)) = _
    unfold rightB
    rw [Bool.eq_iff_iff]; simp; omega
  · show true = _
    unfold rightB
    rw [eq_comm, decide_eq_true_iff]; omega
  · show false = _
    unfold rightB
    rw [eq_comm, decide_eq_false_iff_not]; omega
  · show false = _
    unfold rightB
    rw [eq_comm, decide_eq_false_iff_not]; omega
def putF (n : Int) : List Int :=
  if n < 128 then [n]
  else if n < 2048 then [192 + n / 64, 128 + n % 64]
  else if n < 65536 then [224 + n / 4096, 128 + n / 64 % 64, 128 + n % 64]
  else [240 + n / 262144, 128 + n / 4096 % 64, 128 + n / 64 % 64, 128 + n % 64]
def BytesPost (zs : List Int) (w : World) (e : Ending) (w' : World) : Prop :=
  ∃ a cap, e = .returned (.slice a zs.length cap) ∧ Reads w' .u8 a cap zs ∧ Below w.heap.size w w'
theorem bytes_new (w : World) (zs : List Int) (T : TypeId) (n : Nat) (hn : zs.length = n) (hm : n ≤ 100) :
    BytesPost zs w (.returned (.slice (some ⟨w.heap.size, 0, none⟩) n n)) (w.alloc (.cells (zs.map (Value.int .u8)).toArray T)) :=
  ⟨_, n, by rw [hn], reads_new w .u8 zs T n hn (by unfold maxLen; omega), (Below.refl _ _).alloc (Nat.le_refl _) _⟩
set_option maxRecDepth 100000 in
set_option maxHeartbeats 1000000 in
theorem put_any (n : Int) (w : World) (h0 : 0 ≤ n) (h1 : n < 1114112) :
    Calls Tryz.prog 114 #[.int .i64 n] w (BytesPost (putF n) w) := by
  have key : n < 128 ∨ (128 ≤ n ∧ n < 2048) ∨ (2048 ≤ n ∧ n < 65536) ∨ 65536 ≤ n := by omega
  rcases key with h | ⟨h, h'⟩ | ⟨h, h'⟩ | h
  all_goals
    go_enter Tryz.func114, Tryz.ntmps114
    go_wp2
    go_ret
  · rw [show putF n = [n] from by unfold putF; rw [if_pos h]]
    exact bytes_new w [n] 5 1 rfl (by omega)
  · rw [show putF n = [192 + n / 64, 128 + n % 64] from by unfold putF; rw [if_neg (by omega), if_pos h']]
    exact bytes_new w [192 + n / 64, 128 + n % 64] 5 2 rfl (by omega)
  · rw [show putF n = [224 + n / 4096, 128 + n / 64 % 64, 128 + n % 64] from by unfold putF; rw [if_neg (by omega), if_neg (by omega), if_pos h']]
    exact bytes_new w [224 + n / 4096, 128 + n / 64 % 64, 128 + n % 64] 5 3 rfl (by omega)
  · rw [show putF n = [240 + n / 262144, 128 + n / 4096 % 64, 128 + n / 64 % 64, 128 + n % 64] from by unfold putF; rw [if_neg (by omega), if_neg (by omega), if_neg (by omega)]]
    exact bytes_new w [240 + n / 262144, 128 + n / 4096 % 64, 128 + n / 64 % 64, 128 + n % 64] 5 4 rfl (by omega)
end

section
open Go.RowKit
def headOf (n : Nat) : Int := if n = 1 then 0 else if n = 2 then 0xc0 else if n = 3 then 0xe0 else 0xf0
def toldTo (zs : List Int) (h : Int) : Nat → Int
  | 0 => zs[0]?.getD 0 - h
  | k + 1 => 64 * toldTo zs h k + zs[k + 1]?.getD 0 - 128
def toldF (zs : List Int) : Int := toldTo zs (headOf zs.length) (zs.length - 1)
theorem headOf_bd (n : Nat) : 0 ≤ headOf n ∧ headOf n ≤ 0xf0 := by
  unfold headOf; split <;> (try split) <;> (try split) <;> omega
theorem toldTo_step (zs : List Int) (h : Int) (k : Nat) : toldTo zs h (k + 1) = 64 * toldTo zs h k + zs[k + 1]?.getD 0 - 128 := rfl
theorem toldTo_bd (zs : List Int) (h : Int) (hz : U8 zs) (hh : 0 ≤ h ∧ h ≤ 0xf0) (k : Nat) (hk : k ≤ 3) : -100000000 ≤ toldTo zs h k ∧ toldTo zs h k ≤ 100000000 := by
  have e0 := hz.at 0; have e1 := hz.at 1; have e2 := hz.at 2; have e3 := hz.at 3
  have s1 := toldTo_step zs h 0; have s2 := toldTo_step zs h 1; have s3 := toldTo_step zs h 2
  have s0 : toldTo zs h 0 = zs[0]?.getD 0 - h := rfl
  simp only [Nat.zero_add, Nat.reduceAdd] at s1 s2 s3
  match k, hk with
  | 0, _ => omega
  | 1, _ => omega
  | 2, _ => omega
  | 3, _ => omega
set_option maxRecDepth 100000 in
set_option maxHeartbeats 400000 in
theorem told_some (b off len cap : Nat) (zs : List Int) (w : World) (hlen : zs.length = len) (h1 : 1 ≤ len) (h4 : len ≤ 4) (hat : At w .u8 b off zs) (hz : U8 zs) :
    Calls Tryz.prog 85 #[.slice (some ⟨b, off, none⟩) len cap] w fun e w' => e = .returned (.int .i64 (toldF zs)) ∧ Below w.heap.size w w' := by
  have c0 := hat.2 0 (by omega)
  have z0 := hz.at 0
  have hw : (w.alloc (Obj.cells #[Value.int IntKind.i64 0, Value.int IntKind.i64 0, Value.int IntKind.i64 192, Value.int IntKind.i64 224, Value.int IntKind.i64 240] 3)).cell? ⟨w.heap.size, len, none⟩ = some (.int .i64 (headOf len)) := by
    match len, h1, h4 with
    | 1, _, _ => simp [headOf]
    | 2, _, _ => simp [headOf]
    | 3, _, _ => simp [headOf]
    | 4, _, _ => simp [headOf]
  have hb2 := headOf_bd len
  have hb := hat.1
  simp only [Nat.add_zero] at c0
  have HB := Lib.hid hlen; clear hlen
  go_enter Tryz.func85, Tryz.ntmps85
  go_wp2
  go_quiet (fail)
  go_wp2
  go_loopw [4, 5] (fun n i wr => ∃ k : Nat, k + 1 ≤ len ∧ i = .int .i64 (k + 1 : Nat) ∧ n = .int .i64 (toldTo zs (headOf len) k) ∧ Below w.heap.size w wr) (fun _ i _ => len - (intOf i).toNat)
  case atStart => exact ⟨0, by omega, by go_num, rfl, below_drewN ((Below.refl _ _).alloc (Nat.le_refl _) _) _⟩
  case round =>
    obtain ⟨k, hk, rfl, rfl, hbl⟩ := hrel
    have bd := toldTo_bd zs (headOf len) hz hb2 k (by omega)
    have hz1 := hz.at (k + 1)
    have hcell : (k : Int) + 1 < (len : Int) → wr.cell? ⟨b, off + (k + 1), none⟩ = some (.int .u8 (zs[k + 1]?.getD 0)) := fun h => (hbl.cell (by exact hb)).trans (hat.2 (k + 1) (by rw [HB.out]; omega))
    go_wp2
    · have ht := toldTo_step zs (headOf len) k
      go_roundw
      case rel => exact ⟨k + 1, by omega, by go_num, by rw [ht], hbl⟩
      case measure => simp [intOf]; omega
    · go_ret
      have : len - 1 = k := by omega
      exact ⟨ret_int (by rw [toldF, HB.out, this]), hbl⟩
theorem refRight_no (n : Int) (w : World) (h : rightB n = false) :
    Calls Tryz.prog 58 #[.int .i64 n] w fun e w' => e = .returned (.bool false) ∧ w' = w :=
  (refRight_any n w).mono fun _ _ ⟨he, hw⟩ => ⟨by rw [he, h], hw.symm⟩
def wholeF (zs : List Int) : Bool := rightB (toldF zs) && decide (putF (toldF zs) = zs)
theorem strs_eq (xs ys : List Int) (hx : U8 xs) (hy : U8 ys) : ((strOfNums xs).toList == (strOfNums ys).toList) = decide (xs = ys) := by
  have inj : ∀ (xs ys : List Int), U8 xs → U8 ys → (xs.map fun n => UInt8.ofNat n.toNat) = (ys.map fun n => UInt8.ofNat n.toNat) → xs = ys := by
    intro xs
    induction xs with
    | nil => intro ys _ _ h; exact (List.map_eq_nil_iff.1 h.symm).symm
    | cons x xs ih =>
      intro ys hx hy h
      cases ys with
      | nil => simp at h
      | cons y ys =>
        simp only [List.map_cons, List.cons.injEq] at h
        obtain ⟨h1, h2⟩ := h
        have e := congrArg UInt8.toNat h1
        have b1 := hx x (by simp)
        have b2 := hy y (by simp)
        simp only [UInt8.toNat_ofNat'] at e
        rw [ih ys (fun z hz => hx z (by simp [hz])) (fun z hz => hy z (by simp [hz])) h2, show x = y from by omega]
  have tl : ∀ zs : List Int, (strOfNums zs).toList = zs.map fun n => UInt8.ofNat n.toNat := fun zs => by
    rw [← strOfNums_data]; exact ByteArray.toList_eq _
  rw [tl, tl, Bool.eq_iff_iff, beq_iff_eq, decide_eq_true_iff]
  exact ⟨fun h => inj xs ys hx hy h, fun h => by rw [h]⟩
theorem putF_u8 (n : Int) (h : rightB n = true) : U8 (putF n) := by
  unfold rightB at h
  rw [decide_eq_true_iff] at h
  intro z hz
  unfold putF at hz
  (repeat' split at hz) <;> simp at hz <;> omega
theorem putF_ne (n : Int) : putF n ≠ [] := by
  unfold putF; (repeat' split) <;> simp
set_option maxRecDepth 100000 in
set_option maxHeartbeats 1000000 in
theorem whole_some (b off len cap : Nat) (zs : List Int) (w : World) (hlen : zs.length = len) (h1 : 1 ≤ len) (h4 : len ≤ 4) (hat : At w .u8 b off zs) (hz : U8 zs) :
    Calls Tryz.prog 84 #[.slice (some ⟨b, off, none⟩) len cap] w (BoolPost (wholeF zs) w) := by
  by_cases hr : rightB (toldF zs) = true
  · have hr2 := hr
    unfold rightB at hr2
    rw [decide_eq_true_iff] at hr2
    go_enter Tryz.func84, Tryz.ntmps84
    go_wp2_with fail
    refine (told_some b off len cap zs w hlen h1 h4 hat hz).mono ?_
    rintro e w1 ⟨rfl, hb1⟩
    have hat1 := hat.later hb1 hat.1
    have HRR := Lib.hid hr
    have cvt := fun (wx : World) (hx : At wx .u8 b off zs) => run_convert_bytes_arg wx 48 5 Tryz.underlying48 Tryz.underlying5 b off len cap zs hlen (fun i hi => by rw [List.getD_eq_getElem?_getD]; exact hx.2 i (by rw [hlen]; exact hi)) 9 Tryz.underlying9
    have hat1d : At w1.drew .u8 b off zs := hat1
    have cv1 := cvt w1.drew hat1d
    have CV := Lib.hid cvt; clear cvt
    go_wp2_with fail
    go_region_with (first
      | (go_at_call 58; refine (refRight_any _ _).mono ?_; rintro e w' ⟨rfl, rfl⟩)
      | (go_at_call 114; refine (put_any _ _ hr2.1 hr2.2.1).mono ?_; rintro e w2 ⟨a, cp, rfl, ⟨hq1, hq2, hq3⟩, hb2⟩; obtain ⟨b2, off2, rfl, hat2⟩ := hq3.resolve_left (putF_ne _); have cv2 := run_convert_bytes_arg w2 48 5 Tryz.underlying48 Tryz.underlying5 b2 off2 _ cp (putF (toldF zs)) rfl (fun i hi => by rw [List.getD_eq_getElem?_getD]; exact hat2.2 i hi) 9 Tryz.underlying9; have cv3 := CV.out w2 (hat1d.later hb2 hat1d.1)))
    all_goals
      go_wp2
      go_ret
      exact ⟨ret_bool ((strs_eq _ _ (putF_u8 _ HRR.out) hz).trans (by rw [wholeF, HRR.out]; rfl)), hb1.drew.trans (hb2.mono hb1.size)⟩
  · have hrf : rightB (toldF zs) = false := by simpa using hr
    clear hr
    have HRR := Lib.hid hrf
    go_enter Tryz.func84, Tryz.ntmps84
    go_wp2_with fail
    refine (told_some b off len cap zs w hlen h1 h4 hat hz).mono ?_
    rintro e w1 ⟨rfl, hb1⟩
    go_wp2_with fail
    go_quiet ((go_at_call 58; exact Calls.quiet_of_same (refRight_no _ _ hrf)))
    go_wp2
    go_ret
    exact ⟨ret_bool (by rw [wholeF, HRR.out]; rfl), below_drewN hb1 _⟩
end
end Go.Proofs.YtcfhggdiccilaaaGreat
