/- The statement DecodeNames: a walk. -/
import Derived.Test.YtiadepiopojfoaaDoorIs2
import Derived.Test.YtiadepiopojfoaaDoorSpeaks
namespace Go.Proofs.YtiadepiopojfoaaDoor
open Go.RowKit

/-- Two faults, the second one of the first one. -/
def Two (at_ : Int) (e1 e2 : Nat) (w : World) : Prop :=
  Blk w e1 [.int .i64 10, .int .i64 at_, .nilIface] 45 ∧ Blk w e2 [.int .i64 31, .int .i64 3, fltV e1] 45 ∧ HasET w
def TwoPost (v : Value) (at_ : Int) (e1 e2 : Nat) (w : World) (r : Ending) (w' : World) : Prop := r = .returned v ∧ Two at_ e1 e2 w' ∧ Below w.heap.size w w'
theorem Two.later {at_ : Int} {e1 e2 : Nat} {w w' : World} (h : Two at_ e1 e2 w) (hb : Below w.heap.size w w') : Two at_ e1 e2 w' :=
  ⟨h.1.later hb h.1.lt, h.2.1.later hb h.2.1.lt, h.2.2.below hb (World.block_lt_of_cell? w _ h.2.2)⟩
theorem two_kind1 {at_ : Int} {e1 e2 : Nat} (w : World) (h : Two at_ e1 e2 w) : Calls Tryd.prog 11 #[.iface 43 (.pointer (some ⟨e1, 0, none⟩))] w (TwoPost (.int .i64 10) at_ e1 e2 w) :=
  (kind_hit e1 10 at_ _ w h.1 h.2.2).mono fun _ _ ⟨a, b⟩ => ⟨a, h.later b, b⟩
theorem two_at1 {at_ : Int} {e1 e2 : Nat} (w : World) (h : Two at_ e1 e2 w) : Calls Tryd.prog 12 #[.iface 43 (.pointer (some ⟨e1, 0, none⟩))] w (TwoPost (.int .i64 at_) at_ e1 e2 w) :=
  (at_hit e1 10 at_ _ w h.1 h.2.2).mono fun _ _ ⟨a, b⟩ => ⟨a, h.later b, b⟩
theorem two_kind2 {at_ : Int} {e1 e2 : Nat} (w : World) (h : Two at_ e1 e2 w) : Calls Tryd.prog 11 #[.iface 43 (.pointer (some ⟨e2, 0, none⟩))] w (TwoPost (.int .i64 31) at_ e1 e2 w) :=
  (kind_hit e2 31 3 _ w h.2.1 h.2.2).mono fun _ _ ⟨a, b⟩ => ⟨a, h.later b, b⟩
theorem two_at2 {at_ : Int} {e1 e2 : Nat} (w : World) (h : Two at_ e1 e2 w) : Calls Tryd.prog 12 #[.iface 43 (.pointer (some ⟨e2, 0, none⟩))] w (TwoPost (.int .i64 3) at_ e1 e2 w) :=
  (at_hit e2 31 3 _ w h.2.1 h.2.2).mono fun _ _ ⟨a, b⟩ => ⟨a, h.later b, b⟩
theorem two_has31 {at_ : Int} {e1 e2 : Nat} (w : World) (h : Two at_ e1 e2 w) : Calls Tryd.prog 13 #[.iface 43 (.pointer (some ⟨e2, 0, none⟩)), .int .i64 31] w (TwoPost (.bool true) at_ e1 e2 w) :=
  (has_of e2 31 true w (is1_yes e2 31 3 _ w h.2.1)).mono fun _ _ ⟨a, b⟩ => ⟨a, h.later b, b⟩
theorem two_has10 {at_ : Int} {e1 e2 : Nat} (w : World) (h : Two at_ e1 e2 w) : Calls Tryd.prog 13 #[.iface 43 (.pointer (some ⟨e2, 0, none⟩)), .int .i64 10] w (TwoPost (.bool true) at_ e1 e2 w) :=
  (has_of e2 10 true w (is2_in e2 e1 31 3 10 at_ _ w (by decide) h.2.1 h.1)).mono fun _ _ ⟨a, b⟩ => ⟨a, h.later b, b⟩
theorem two_has11 {at_ : Int} {e1 e2 : Nat} (w : World) (h : Two at_ e1 e2 w) : Calls Tryd.prog 13 #[.iface 43 (.pointer (some ⟨e2, 0, none⟩)), .int .i64 11] w (TwoPost (.bool false) at_ e1 e2 w) :=
  (has_of e2 11 false w (is2_no e2 e1 31 3 10 at_ 11 w (by decide) (by decide) h.2.1 h.1)).mono fun _ _ ⟨a, b⟩ => ⟨a, h.later b, b⟩

set_option maxRecDepth 100000 in
set_option maxHeartbeats 2000000 in
theorem lawNames_any (at_ : Int) (w : World) (hg : HasET w) : Calls Tryd.prog 3 #[.int .i64 at_] w fun e w' => e = .returned (.bool true) ∧ Below w.heap.size w w' := by
  have hgl := World.block_lt_of_cell? w _ hg
  have HG := Lib.hid hg; clear hg
  go_enter Tryd.func3, Tryd.ntmps3
  go_wp2_with fail
  refine (speaks_any _).mono ?_
  rintro e w1 ⟨rfl, hb1⟩
  have HG1 : Hid (HasET w1) := Lib.hid (HG.out.below hb1 hgl)
  go_wp2_with fail
  refine (fail_any _ _ _).mono ?_
  rintro e w2 ⟨rfl, rfl⟩
  have hz1 := hb1.size
  have hb2 : Below w.heap.size w (w1.alloc (.cells [.int .i64 10, .int .i64 at_, .nilIface].toArray 45)) := hb1.alloc hz1 _
  have B1 : Blk (w1.alloc (.cells [.int .i64 10, .int .i64 at_, .nilIface].toArray 45)) w1.heap.size [.int .i64 10, .int .i64 at_, .nilIface] 45 := Blk.alloc _ _
  have HG2 : Hid (HasET (w1.alloc (.cells [.int .i64 10, .int .i64 at_, .nilIface].toArray 45))) := Lib.hid (HG1.out.below ((Below.refl _ _).alloc (Nat.le_refl _) _) (by omega))
  generalize w1.alloc (.cells [.int .i64 10, .int .i64 at_, .nilIface].toArray 45) = w2 at *
  generalize w1.heap.size = e1 at *
  have HB1 := Lib.hid B1; clear B1
  unfold fltV
  go_wp2_with fail
  refine (wrap_any _ _ _ _).mono ?_
  rintro e w3 ⟨rfl, rfl⟩
  have hz2 := hb2.size
  have hb3 : Below w.heap.size w (w2.alloc (.cells [.int .i64 31, .int .i64 3, fltV e1].toArray 45)) := hb2.alloc hz2 _
  have hI : Two at_ e1 w2.heap.size (w2.alloc (.cells [.int .i64 31, .int .i64 3, fltV e1].toArray 45)) := ⟨HB1.out.alloc_old _, Blk.alloc _ _, HG2.out.below ((Below.refl _ _).alloc (Nat.le_refl _) _) (by omega)⟩
  generalize w2.alloc (.cells [.int .i64 31, .int .i64 3, fltV e1].toArray 45) = w3 at *
  generalize w2.heap.size = e2 at *
  clear HG HG1 HG2 HB1 hb1 hb2
  unfold fltV
  go_wp2_with ((first | (go_at_call 11; first | (with_reducible refine (two_kind1 _ hI).mono ?_) | (with_reducible refine (two_kind2 _ hI).mono ?_)) | (go_at_call 12; first | (with_reducible refine (two_at1 _ hI).mono ?_) | (with_reducible refine (two_at2 _ hI).mono ?_)) | (go_at_call 13; first | (with_reducible refine (two_has31 _ hI).mono ?_) | (with_reducible refine (two_has10 _ hI).mono ?_) | (with_reducible refine (two_has11 _ hI).mono ?_))); rintro e w4 ⟨rfl, hI, hb4⟩; replace hb3 := hb3.trans (hb4.mono hb3.size); clear hb4)
  go_ret
  exact ⟨rfl, hb3⟩
end Go.Proofs.YtiadepiopojfoaaDoor
