/- Texts of mine in one: Same Speaks Put. -/
import Derived.Test.YtelbjnanpmdnnaaQ01
import Derived.Test.YtelbjnanpmdnnaaQ05
namespace Go.Proofs.Ytelbjnanpmdnnaa
section
open Go.RowKit
def BoolPost (r : Bool) (w : World) (e : Ending) (w' : World) : Prop := e = .returned (.bool r) ∧ Below w.heap.size w w'
end

section
open Go.RowKit
theorem reads_new (w : World) (k : IntKind) (zs : List Int) (T : TypeId) (n : Nat) (hn : zs.length = n) (hm : n ≤ maxLen) : Reads (w.alloc (.cells (zs.map (Value.int k)).toArray T)) k (some ⟨w.heap.size, 0, none⟩) n zs := by
  subst hn
  refine ⟨Nat.le_refl _, hm, .inr ⟨_, _, rfl, by simp, fun j hj => ?_⟩⟩
  rw [Nat.zero_add, (Blk.alloc (w := w) (zs.map (Value.int k)) T).cell j (.int k (zs[j]?.getD 0)) (by rw [List.getElem?_map, List.getElem?_eq_getElem hj]; rfl)]
theorem wf_u8 {zs : List Int} (h : ∀ n ∈ zs, (Lit.int .u8 n).wf = true) : U8 zs := fun z hz => by
  have := h z hz
  have e1 : IntKind.u8.min = 0 := rfl
  have e2 : IntKind.u8.max = 255 := rfl
  simp only [Lit.wf, Bool.and_eq_true, decide_eq_true_eq] at this
  omega
theorem reads_of_row {k : IntKind} {w : World} {a : Option Addr} {len cap : Nat} {zs : List Int}
    (h : (a = none ∧ len = 0 ∧ cap = 0 ∧ zs = []) ∨
      ∃ x, a = some x ∧ len ≤ cap ∧ cap ≤ maxLen ∧ zs.length = cap ∧ (∀ i, i < zs.length → w.cell? (x.add i) = some (.int k (zs.getD i 0))) ∧ ∀ n ∈ zs, (Lit.int k n).wf = true) :
    ∃ xs : List Int, xs.length = len ∧ Reads w k a cap xs ∧ ∀ n ∈ xs, (Lit.int k n).wf = true := by
  rcases h with ⟨rfl, rfl, rfl, rfl⟩ | ⟨x, rfl, hl, hm, hz, hc, hw⟩
  · exact ⟨[], rfl, ⟨by simp, by simp, .inl rfl⟩, by simp⟩
  · refine ⟨zs.take len, by simp; omega, ⟨by simp; omega, hm, ?_⟩, fun n hn => hw n (List.mem_of_mem_take hn)⟩
    by_cases h0 : len = 0
    · left; subst h0; simp
    · right
      obtain ⟨b, off, spot⟩ := x
      have hspot : spot = none := by simpa [Addr.add] using World.cell?_spot (hc 0 (by omega))
      subst hspot
      refine ⟨b, off, rfl, World.block_lt_of_cell? w _ (hc 0 (by omega)), fun j hj => ?_⟩
      simp at hj
      have := hc j (by omega)
      rw [show (⟨b, off, none⟩ : Addr).add j = ⟨b, off + j, none⟩ from by simp [Addr.add]] at this
      rw [this, List.getElem?_take_of_lt (by omega)]; simp
end

section
open Go.RowKit
def rightB (n : Int) : Bool := decide (0 ≤ n ∧ n < 1114112 ∧ (n < 55296 ∨ 57343 < n))
set_option maxRecDepth 100000 in
set_option maxHeartbeats 400000 in
theorem refRight_any (n : Int) (w : World) :
    Calls Try.prog 33 #[.int .i64 n] w fun e w' => e = .returned (.bool (rightB n)) ∧ w = w' := by
  go_enter Try.func33, Try.ntmps33
  go_wp2
  all_goals
    go_ret
    refine ⟨ret_bool ?_, rfl⟩
  · show (decide (n < 55296) || decide (57343 < n)) = _
    unfold rightB
    rw [Bool.eq_iff_iff]; simp; omega
  · show true = _
    unfold rightB
    rw [eq_comm, decide_eq_true_iff]; omega
  · show false = _
    unfold rightB
    rw [eq_comm, decide_eq_false_iff_not]; omega
  · show false = _
    unfold rightB
    rw [eq_comm, decide_eq_false_iff_not]; omega
def putF (n : Int) : List Int :=
  if n < 128 then [n]
  else if n < 2048 then [192 + n / 64, 128 + n % 64]
  else if n < 65536 then [224 + n / 4096, 128 + n / 64 % 64, 128 + n % 64]
  else [240 + n / 262144, 128 + n / 4096 % 64, 128 + n / 64 % 64, 128 + n % 64]
def BytesPost (zs : List Int) (w : World) (e : Ending) (w' : World) : Prop :=
  ∃ a cap, e = .returned (.slice a zs.length cap) ∧ Reads w' .u8 a cap zs ∧ Below w.heap.size w w'
theorem bytes_new (w : World) (zs : List Int) (T : TypeId) (n : Nat) (hn : zs.length = n) (hm : n ≤ 100) :
    BytesPost zs w (.returned (.slice (some ⟨w.heap.size, 0, none⟩) n n)) (w.alloc (.cells (zs.map (Value.int .u8)).toArray T)) :=
  ⟨_, n, by rw [hn], reads_new w .u8 zs T n hn (by unfold maxLen; omega), (Below.refl _ _).alloc (Nat.le_refl _) _⟩
set_option maxRecDepth 100000 in
set_option maxHeartbeats 1000000 in
theorem put_any (n : Int) (w : World) (h0 : 0 ≤ n) (h1 : n < 1114112) :
    Calls Try.prog 78 #[.int .i64 n] w (BytesPost (putF n) w) := by
  have key : n < 128 ∨ (128 ≤ n ∧ n < 2048) ∨ (2048 ≤ n ∧ n < 65536) ∨ 65536 ≤ n := by omega
  rcases key with h | ⟨h, h'⟩ | ⟨h, h'⟩ | h
  all_goals
    go_enter Try.func78, Try.ntmps78
    go_wp2
    go_ret
  · rw [show putF n = [n] from by unfold putF; rw [if_pos h]]
    exact bytes_new w [n] 5 1 rfl (by omega)
  · rw [show putF n = [192 + n / 64, 128 + n % 64] from by unfold putF; rw [if_neg (by omega), if_pos h']]
    exact bytes_new w [192 + n / 64, 128 + n % 64] 5 2 rfl (by omega)
  · rw [show putF n = [224 + n / 4096, 128 + n / 64 % 64, 128 + n % 64] from by unfold putF; rw [if_neg (by omega), if_neg (by omega), if_pos h']]
    exact bytes_new w [224 + n / 4096, 128 + n / 64 % 64, 128 + n % 64] 5 3 rfl (by omega)
  · rw [show putF n = [240 + n / 262144, 128 + n / 4096 % 64, 128 + n / 64 % 64, 128 + n % 64] from by unfold putF; rw [if_neg (by omega), if_neg (by omega), if_neg (by omega)]]
    exact bytes_new w [240 + n / 262144, 128 + n / 4096 % 64, 128 + n / 64 % 64, 128 + n % 64] 5 4 rfl (by omega)
end
end Go.Proofs.Ytelbjnanpmdnnaa
