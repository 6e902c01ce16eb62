/- A character's bytes behind a list: the library's AppendRune, for characters: walks. -/
import Derived.Test.YtdopmkiogmejaaaDoorAppend
import Derived.Test.YtdopmkiogmejaaaDoorPut
namespace Go.Proofs.YtdopmkiogmejaaaDoor
open Go.RowKit

/-- The post of a call that puts more behind an owned list of bytes. -/
def MorePost (T : TypeId) (k : IntKind) (base : Nat) (v : Value) (zs : List Int) (w : World) (e : Ending) (w' : World) : Prop :=
  ∃ v', e = .returned v' ∧ w'.ownsRow base T 1 v' zs.length (zs.map (Value.int k)) ∧ w.grownBy w' v.ownBlock

set_option maxRecDepth 100000 in
set_option maxHeartbeats 1000000 in
theorem rune_high (v : Value) (acc : List Int) (r : Int) (base : Nat) (w : World) (hown : w.ownsRow base 5 1 v acc.length (acc.map (Value.int .u8))) (hbase : base ≤ w.heap.size) (hsm : acc.length ≤ 1000000)
    (hr : (128 ≤ r ∧ r < 2048) ∨ (2048 ≤ r ∧ r < 55296) ∨ (57343 < r ∧ r < 65536) ∨ (65536 ≤ r ∧ r < 1114112)) :
    Calls Tryd.prog 75 #[v, .int .i32 r] w (MorePost 5 .u8 base v (acc ++ putF r) w) := by
  obtain ⟨i0, hi, hz0, hz1, hz2⟩ := info_parts Tryd.info5
  rcases hr with ⟨h1, h2⟩ | ⟨h1, h2⟩ | ⟨h1, h2⟩ | ⟨h1, h2⟩
  · have HP : Hid (putF r = [192 + r / 64, 128 + r % 64]) := Lib.hid (by unfold putF; rw [if_neg (by omega), if_pos (by omega)])
    go_enter Tryd.func75, Tryd.ntmps75
    go_wp2_with (at_builtin; refine wpList_append_reads rfl _ _ 24 rfl base 5 i0 .u8 1 Tryd.underlying24 hi hz0 hz1 hz2 _ acc.length acc rfl (hown.alloc _) rfl (some ⟨w.heap.size, 0, none⟩) 2 2 [192 + r / 64, 128 + r % 64] rfl rfl (reads_new w .u8 _ 5 2 rfl (by unfold maxLen; omega)) (fun h => by cases h) (by unfold maxLen; omega) (by omega) (by simp; omega) ?_; intro v' w2 hown2 hgrow2)
    go_ret
    exact ⟨v', rfl, by rw [HP.out]; exact hown2, grown_trans (World.grownBy_alloc w _ _) hgrow2⟩
  · have HP : Hid (putF r = [224 + r / 4096, 128 + r / 64 % 64, 128 + r % 64]) := Lib.hid (by unfold putF; rw [if_neg (by omega), if_neg (by omega), if_pos (by omega)])
    go_enter Tryd.func75, Tryd.ntmps75
    go_wp2_with (at_builtin; refine wpList_append_reads rfl _ _ 24 rfl base 5 i0 .u8 1 Tryd.underlying24 hi hz0 hz1 hz2 _ acc.length acc rfl (hown.alloc _) rfl (some ⟨w.heap.size, 0, none⟩) 3 3 [224 + r / 4096, 128 + r / 64 % 64, 128 + r % 64] rfl rfl (reads_new w .u8 _ 5 3 rfl (by unfold maxLen; omega)) (fun h => by cases h) (by unfold maxLen; omega) (by omega) (by simp; omega) ?_; intro v' w2 hown2 hgrow2)
    go_ret
    exact ⟨v', rfl, by rw [HP.out]; exact hown2, grown_trans (World.grownBy_alloc w _ _) hgrow2⟩
  · have HP : Hid (putF r = [224 + r / 4096, 128 + r / 64 % 64, 128 + r % 64]) := Lib.hid (by unfold putF; rw [if_neg (by omega), if_neg (by omega), if_pos (by omega)])
    go_enter Tryd.func75, Tryd.ntmps75
    go_wp2_with (at_builtin; refine wpList_append_reads rfl _ _ 24 rfl base 5 i0 .u8 1 Tryd.underlying24 hi hz0 hz1 hz2 _ acc.length acc rfl (hown.alloc _) rfl (some ⟨w.heap.size, 0, none⟩) 3 3 [224 + r / 4096, 128 + r / 64 % 64, 128 + r % 64] rfl rfl (reads_new w .u8 _ 5 3 rfl (by unfold maxLen; omega)) (fun h => by cases h) (by unfold maxLen; omega) (by omega) (by simp; omega) ?_; intro v' w2 hown2 hgrow2)
    go_ret
    exact ⟨v', rfl, by rw [HP.out]; exact hown2, grown_trans (World.grownBy_alloc w _ _) hgrow2⟩
  · have HP : Hid (putF r = [240 + r / 262144, 128 + r / 4096 % 64, 128 + r / 64 % 64, 128 + r % 64]) := Lib.hid (by unfold putF; rw [if_neg (by omega), if_neg (by omega), if_neg (by omega)])
    go_enter Tryd.func75, Tryd.ntmps75
    go_wp2_with (at_builtin; refine wpList_append_reads rfl _ _ 24 rfl base 5 i0 .u8 1 Tryd.underlying24 hi hz0 hz1 hz2 _ acc.length acc rfl (hown.alloc _) rfl (some ⟨w.heap.size, 0, none⟩) 4 4 [240 + r / 262144, 128 + r / 4096 % 64, 128 + r / 64 % 64, 128 + r % 64] rfl rfl (reads_new w .u8 _ 5 4 rfl (by unfold maxLen; omega)) (fun h => by cases h) (by unfold maxLen; omega) (by omega) (by simp; omega) ?_; intro v' w2 hown2 hgrow2)
    go_ret
    exact ⟨v', rfl, by rw [HP.out]; exact hown2, grown_trans (World.grownBy_alloc w _ _) hgrow2⟩

set_option maxRecDepth 100000 in
set_option maxHeartbeats 1000000 in
theorem rune_low (v : Value) (acc : List Int) (r : Int) (base : Nat) (w : World) (hown : w.ownsRow base 5 1 v acc.length (acc.map (Value.int .u8))) (hbase : base ≤ w.heap.size) (hsm : acc.length ≤ 1000000)
    (h1 : 0 ≤ r) (h2 : r < 128) :
    Calls Tryd.prog 68 #[v, .int .i32 r] w (MorePost 5 .u8 base v (acc ++ putF r) w) := by
  obtain ⟨i0, hi, hz0, hz1, hz2⟩ := info_parts Tryd.info5
  have HP : Hid (putF r = [r]) := Lib.hid (by unfold putF; rw [if_pos h2])
  go_enter Tryd.func68, Tryd.ntmps68
  go_wp2_with (at_builtin; refine wpList_append_reads rfl _ _ 24 rfl base 5 i0 .u8 1 Tryd.underlying24 hi hz0 hz1 hz2 _ acc.length acc rfl (hown.alloc _) rfl (some ⟨w.heap.size, 0, none⟩) 1 1 [r] rfl rfl (reads_new w .u8 _ 5 1 rfl (by unfold maxLen; omega)) (fun h => by cases h) (by unfold maxLen; omega) (by omega) (by simp; omega) ?_; intro v' w2 hown2 hgrow2)
  go_ret
  exact ⟨v', rfl, by rw [HP.out]; exact hown2, grown_trans (World.grownBy_alloc w _ _) hgrow2⟩

/-- AppendRune puts a character's bytes behind an owned list. -/
theorem rune_any (v : Value) (acc : List Int) (r : Int) (base : Nat) (w : World) (hown : w.ownsRow base 5 1 v acc.length (acc.map (Value.int .u8))) (hbase : base ≤ w.heap.size) (hsm : acc.length ≤ 1000000)
    (hr : rightB r = true) : Calls Tryd.prog 68 #[v, .int .i32 r] w (MorePost 5 .u8 base v (acc ++ putF r) w) := by
  unfold rightB at hr
  rw [decide_eq_true_iff] at hr
  by_cases h : r < 128
  · exact rune_low v acc r base w hown hbase hsm hr.1 h
  · obtain ⟨hr1, hr2, hr3⟩ := hr
    have hr3' : (128 ≤ r ∧ r < 2048) ∨ (2048 ≤ r ∧ r < 55296) ∨ (57343 < r ∧ r < 65536) ∨ (65536 ≤ r ∧ r < 1114112) := by omega
    have h128 : 127 < r := by omega
    clear hr3 h
    go_enter Tryd.func68, Tryd.ntmps68
    go_wp2_with fail
    refine (rune_high v acc r base w hown hbase hsm hr3').mono ?_
    rintro e w1 ⟨v', rfl, hown1, hg1⟩
    go_wp2
    go_ret
    exact ⟨v', rfl, hown1, hg1⟩
end Go.Proofs.YtdopmkiogmejaaaDoor
