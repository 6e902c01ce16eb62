/- The statement SelCopies: for every input the call returns true, and each argument reads afterwards as it read before; no further condition. The walk is in the modules that are imported. -/
import Derived.Test.YtfgnepbpfglepaaRows
import Derived.Test.YtfgnepbpfglepaaSm6
import Derived.Test.YtfgnepbpfglepaaSlF
import Derived.WalkKit
import Derived.SizedLaws
import Derived.ProofKit
import Derived.OpenShut
import Derived.ChangeOld
import Derived.Below
import Derived.Lib.SmallJoins
import Derived.Deep.SlicePairs
import Derived.Deep.Slices
import Derived.ChangeMaps5
namespace Go.Proofs.Ytfgnepbpfglepaa.selCopies
open Go.ChangeShapes Go.WideShapes Go.ChangeAt Go.RowKit Go.Joins Go.Deep Go.ChangeMaps
set_option linter.unusedVariables false

theorem own : ownKnob Try.prog.godebug = none := by kernel_rfl
theorem laidOut : laidOutB Try.prog = true := by kernel_rfl

theorem wf_i64v {q : Int} (h : (Lit.int .i64 q).wf = true) : -9223372036854775808 ≤ q ∧ q ≤ 9223372036854775807 := by
  have e1 : IntKind.i64.min = -9223372036854775808 := rfl
  have e2 : IntKind.i64.max = 9223372036854775807 := rfl
  simp only [Lit.wf, Bool.and_eq_true, decide_eq_true_eq] at h
  omega

/-- A slice of pairs that came in: nil, or a row. -/
def IsPairs (w : World) (a : Option Addr) (n c : Nat) : Prop :=
  (a = none ∧ n = 0 ∧ c = 0) ∨ ∃ x, a = some x ∧ n ≤ c ∧ c ≤ maxLen ∧ ∀ i, i < n → ∃ q : Int × Int, w.cell? (x.add (i * 2)) = some (.int .i64 q.1) ∧ w.cell? (x.add (i * 2 + 1)) = some (.int .i64 q.2) ∧
    (-9223372036854775808 ≤ q.1 ∧ q.1 ≤ 9223372036854775807) ∧ (-9223372036854775808 ≤ q.2 ∧ q.2 ≤ 9223372036854775807)

/-- A list of selectors that came in. -/
def IsSel (w : World) (a : Option Addr) (n c : Nat) : Prop := (a = none → c = 0) ∧ ∃ k0, ∀ k, k0 ≤ k → ∃ z : List (List (Int × List (Flat × Lx k))), RdL (· < w.heap.size) (k + 1) w a n c z
/-- A slice of conditions that came in: nil, or a row. -/
def IsConds (w : World) (a : Option Addr) (n c : Nat) : Prop :=
  (a = none ∧ n = 0 ∧ c = 0) ∨ ∃ x, a = some x ∧ n ≤ c ∧ c ≤ maxLen ∧ ∀ i, i < n → ∃ q : Int × ByteArray × Bool, w.cell? (x.add (i * 3)) = some (.int .i64 q.1) ∧ w.cell? (x.add (i * 3 + 1)) = some (.string q.2.1) ∧ w.cell? (x.add (i * 3 + 2)) = some (.bool q.2.2)

theorem walk (a0 : Option Addr) (n0 c0 : Nat) (a1 : Option Addr) (n1 c1 : Nat) (w : World) (w0 : IsSel w a0 n0 c0) (w1 : IsSel w a1 n1 c1) :
    Calls Try.prog 6 #[.slice a0 n0 c0, .slice a1 n1 c1] w fun e w' => e = .returned (.bool true) ∧ Below w.heap.size w w' := by
  obtain ⟨hn0, k0, h0⟩ := w0
  obtain ⟨hn1, k1, h1⟩ := w1
  obtain ⟨x, hx⟩ := h0 (max k0 k1) (Nat.le_max_left _ _)
  obtain ⟨y, hy⟩ := h1 (max k0 k1) (Nat.le_max_right _ _)
  exact lawCopies_any (max k0 k1 + 1) x y a0 n0 c0 a1 n1 c1 w hx hy

set_option maxRecDepth 100000 in
theorem lifted (os : Os) (started : os.Started) (H : Type) (enc : TypeId × Value → H) :
    ReturnsInHanded {} Try.checked os 6 .any (Rows.selCopiesSpec.pre6 enc Try.prog Try.f6 Rows.selCopiesRow.domain false) (Rows.selCopiesSpec.post enc Try.prog Try.f6 false true false false) := by
  refine returnsInHanded_of_change_sized (C := Try.checked) own started (by kernel_rfl) Try.func6
    (ChangeSpec.witness6 (enc := enc) (C := Try.checked) false ⟨#[], #[.slice none 0 0, .slice none 0 0], []⟩ 8 (by kernel_rfl) (by kernel_rfl) (by kernel_rfl) (by kernel_rfl)) ?_
  intro W base args ds gs before hval0 hW hcnd hsz _
  have hval : ∀ (j : Nat) t v, Try.f6.params[j]? = some t → args[j]? = some v → Value.okWide Try.prog W .any base t v := hval0
  have hW' := hW
  obtain ⟨p, q, hA0, hV, rfl, hfz, hnd⟩ := hW
  have hA : DataW.TrodAll enc Try.prog W 0 (fun _ => true) true Try.f6.params.toList args.toList ds p := hA0
  have hwt : ∀ (j : Nat) (t : TypeId) (d : DataW H), (Try.f6.params.toList ++ Rows.selCopiesSpec.plain.varTypes Try.prog)[j]? = some t → (ds ++ gs)[j]? = some d → Wt Try.prog t d := fun j t d h1 h2 n hn => by
    simpa using List.all_eq_true.1 hsz n (DataW.weights_mem_each h1 h2 n hn)
  rw [Try.params6] at hA hval hwt
  obtain ⟨v0, vs0, d0, ds0, p0, q0, hargs, rfl, rfl, h0, r0⟩ := trodAll_cons hA
  obtain ⟨v1, vs1, d1, ds1, p1, q1, rfl, rfl, rfl, h1, r1⟩ := trodAll_cons r0
  obtain ⟨rfl, rfl, rfl⟩ := trodAll_nil r1
  obtain rfl : args = #[v0, v1] := by cases args; simp_all
  obtain ⟨rfl, rfl⟩ := trodVars_none hV
  have k0 := h0
  have lt0 : ∀ x ∈ p0, x.block < W.heap.size := by obtain ⟨m, hm⟩ := k0; exact DataW.trod_lt m _ _ _ hm
  have k1 := h1
  have lt1 : ∀ x ∈ p1, x.block < W.heap.size := by obtain ⟨m, hm⟩ := k1; exact DataW.trod_lt m _ _ _ hm
  obtain ⟨a0, n0, c0, rfl⟩ := okWide_slice Try.underlying50 (hval 0 50 v0 rfl rfl)
  have w0 : IsSel W a0 n0 c0 := by
    obtain ⟨fuel, hf⟩ := h0
    have hw := hwt 0 50 d0 rfl rfl
    have hx : ∀ k, fuel ≤ k → (a0 = none → c0 = 0) ∧ ∃ z : List (List (Int × List (Flat × Lx k))), RdL (· < W.heap.size) (k + 1) W a0 n0 c0 z := fun k hk => by
      obtain ⟨a', n', c', he, hn, z, hz⟩ := rdL_of_trod k fuel _ _ hk hf hw
      simp [Value.cells] at he
      obtain ⟨rfl, rfl, rfl⟩ := he
      exact ⟨hn, z, hz⟩
    exact ⟨(hx fuel (Nat.le_refl _)).1, fuel, fun k hk => (hx k hk).2⟩
  obtain ⟨a1, n1, c1, rfl⟩ := okWide_slice Try.underlying50 (hval 1 50 v1 rfl rfl)
  have w1 : IsSel W a1 n1 c1 := by
    obtain ⟨fuel, hf⟩ := h1
    have hw := hwt 1 50 d1 rfl rfl
    have hx : ∀ k, fuel ≤ k → (a1 = none → c1 = 0) ∧ ∃ z : List (List (Int × List (Flat × Lx k))), RdL (· < W.heap.size) (k + 1) W a1 n1 c1 z := fun k hk => by
      obtain ⟨a', n', c', he, hn, z, hz⟩ := rdL_of_trod k fuel _ _ hk hf hw
      simp [Value.cells] at he
      obtain ⟨rfl, rfl, rfl⟩ := he
      exact ⟨hn, z, hz⟩
    exact ⟨(hx fuel (Nat.le_refl _)).1, fuel, fun k hk => (hx k hk).2⟩
  clear hA0 hval0
  refine (walk a0 n0 c0 a1 n1 c1 W w0 w1).mono fun e W' ⟨he, bel⟩ => ?_
  subst he
  exact ⟨_, rfl, _, _, _, [], _, [], hW', trodAll_mk1 (shut_bool Try.underlying4 _), (trodAll_cons_mk (Below.trod laidOut (by kernel_rfl) (of_decide_eq_true (by kernel_rfl)) k0 bel lt0) (trodAll_cons_mk (Below.trod laidOut (by kernel_rfl) (of_decide_eq_true (by kernel_rfl)) k1 bel lt1) trodAll_mk0)), rfl, bel.frame _, fun h => by cases h⟩

theorem over : Rows.selCopiesRow.holds Try.pinned (OpenSpec.ofChange Rows.selCopiesSpec) :=
  OpenClaim.holds_of_wide 6 Try.f6 rfl rfl rfl rfl rfl rfl rfl ⟨rfl, rfl, rfl, rfl, rfl⟩ rfl rfl rfl rfl rfl (by kernel_rfl) Try.func6 (by kernel_rfl)
    (of_decide_eq_true (by kernel_rfl)) (by unfold Func.isWrapper; first | (rw [if_pos (by decide +kernel)]; kernel_rfl) | (rw [if_neg (by decide +kernel)]; exact ⟨rfl, rfl⟩))
    (fun os started H enc _ => lifted os started H enc)

/-- The statement. -/
theorem proved : Rows.SelCopiesSaid := over
#print axioms proved
end Go.Proofs.Ytfgnepbpfglepaa.selCopies
