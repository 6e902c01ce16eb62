/- One list of numbers behind another one: the builtin append, whatever the second slice is. -/
import Derived.Test.YtdopmkiogmejaaaDoorFirst
import Derived.Laws.AppendOwnNone
import Derived.Deep.RegionLaw
namespace Go.Proofs.YtdopmkiogmejaaaDoor
open Go.RowKit

theorem row_none {k : IntKind} {w : World} {a : Option Addr} {len cap : Nat} {zs : List Int}
    (h : (a = none ∧ len = 0 ∧ cap = 0 ∧ zs = []) ∨
      ∃ x, a = some x ∧ len ≤ cap ∧ cap ≤ maxLen ∧ zs.length = cap ∧ (∀ i, i < zs.length → w.cell? (x.add i) = some (.int k (zs.getD i 0))) ∧ ∀ n ∈ zs, (Lit.int k n).wf = true) :
    a = none → cap = 0 := by
  intro ha
  rcases h with ⟨_, _, h, _⟩ | ⟨x, rfl, _⟩
  · exact h
  · cases ha

theorem wpList_append_reads {P : Program} {w : World} {ops : Array Oper} {rest : List Oper} {o : Oper} {a : Act} {Q : Exit → Act → World → Prop} (hgd : o.guard = none) (s x : Operand) (t : TypeId)
    (ho : o.op = .call { callee := .builtin .append, args := #[s, x], argTypes := #[t, t] })
    (base : Nat) (e : TypeId) (i : TypeInfo) (k : IntKind) (bytes : Nat) (ht : P.underlying t = some (.slice e)) (hi : P.info? e = some i) (hz : i.zero = some (.int k 0))
    (hsize : i.size = 1) (hby : i.bytes = bytes)
    (v : Value) (n : Nat) (acc : List Int) (hs : a.eval s = v) (hown : w.ownsRow base e 1 v n (acc.map (Value.int k))) (hn : acc.length = n)
    (ad : Option Addr) (m c : Nat) (zs : List Int) (hm : zs.length = m) (hx : a.eval x = .slice ad m c) (hr : Reads w k ad c zs) (hnil : ad = none → c = 0)
    (h63 : n + m ≤ maxLen) (hbytes : (n + m) * bytes ≤ 140737488355328) (hbase : base ≤ w.heap.size)
    (h : ∀ v' w', w'.ownsRow base e 1 v' (acc ++ zs).length ((acc ++ zs).map (Value.int k)) → w.grownBy w' v.ownBlock → wpList P ops Q rest (a.put o.dst v') w') : wpList P ops Q (o :: rest) a w := by
  subst hn
  subst hm
  rcases ad with _ | ad
  · have hz0 : zs = [] := by
      rcases hr.2.2 with h0 | ⟨b, off, hb, _⟩
      · exact h0
      · cases hb
    subst hz0
    rw [hnil rfl] at hx
    exact wpList_append_own_none hgd s x t ho base e i 1 ht hi v acc.length _ hs hown hx (h v w (by simpa using hown) (World.grownBy.refl _ _))
  · refine wpList_append_own w hgd s x t ho base e i (.int k 0) 1 bytes ht hi hz hsize hby rfl (by decide) v acc.length _ hs hown ad zs.length c (zs.map (Value.int k)) hx (by simp) ?_ (one_cells _ _) h63 hbytes hbase (fun v' w' h1 h2 _ => h v' w' (by rw [List.length_append, List.map_append]; exact h1) h2)
    rcases hr.2.2 with h0 | ⟨b, off, hb, hat⟩
    · subst h0; intro j u hu; simp at hu
    · cases hb; exact cells_of_at hat

/-- The same, as one step of a region that draws its order. -/
theorem step_append_reads {P : Program} {ops : Array Oper} {o : Oper} {a : Act} {w : World} {K : Act → World → Prop} {Q : Exit → Act → World → Prop} {E : Prop}
    (hg : o.guard = none) (s x : Operand) (t : TypeId) (ho : o.op = Op.call { callee := Callee.builtin Builtin.append, args := #[s, x], argTypes := #[t, t] })
    (base : Nat) (e : TypeId) (i : TypeInfo) (k : IntKind) (bytes : Nat) (ht : P.underlying t = some (.slice e)) (hi : P.info? e = some i) (hz : i.zero = some (.int k 0))
    (hsize : i.size = 1) (hby : i.bytes = bytes)
    (v : Value) (n : Nat) (acc : List Int) (hs : a.eval s = v) (hn : acc.length = n)
    (ad : Option Addr) (m c : Nat) (zs : List Int) (hm : zs.length = m) (hx : a.eval x = .slice ad m c) (hnil : ad = none → c = 0)
    (h63 : n + m ≤ maxLen) (hbytes : (n + m) * bytes ≤ 140737488355328)
    (hown : w.ownsRow base e 1 v n (acc.map (Value.int k))) (hr : Reads w k ad c zs) (hbase : base ≤ w.heap.size)
    (h : ∀ v' w', w'.ownsRow base e 1 v' (acc ++ zs).length ((acc ++ zs).map (Value.int k)) → w.grownBy w' v.ownBlock → K (a.put o.dst v') w') :
    if Region.wanted o (yielded ops a.tmps) = true then Oper.wp P o a w K Q else E := by
  have hw : Region.wanted o (yielded ops a.tmps) = true := by simp [Region.wanted, hg]
  rw [if_pos hw]
  subst hn
  subst hm
  rcases ad with _ | ad
  · have hz0 : zs = [] := by
      rcases hr.2.2 with h0 | ⟨b, off, hb, _⟩
      · exact h0
      · cases hb
    subst hz0
    rw [hnil rfl] at hx
    have hrun := run_append_owned_none (P := P) (w := w) base t o.type e i 1 ht hi v acc.length (acc.map (Value.int k)) hown
    unfold Oper.wp
    simp [execOp, ho, resolve, invoke, builtin, hs, hx, hrun, Result.andThen]
    exact h v w (by simpa using hown) (World.grownBy.refl _ _)
  · obtain ⟨v', w', hrun, r1, r2, _⟩ := run_append_own (P := P) w base t o.type e i (.int k 0) 1 bytes ht hi hz hsize hby rfl (by decide) v acc.length (acc.map (Value.int k)) hown ad zs.length c (zs.map (Value.int k)) (by simp) (by
      rcases hr.2.2 with h0 | ⟨b, off, hb, hat⟩
      · subst h0; intro j u hu; simp at hu
      · cases hb; exact cells_of_at hat) (one_cells _ _) h63 hbytes hbase
    unfold Oper.wp
    simp [execOp, ho, resolve, invoke, builtin, hs, hx, hrun, Result.andThen]
    exact h v' w' (by rw [List.length_append, List.map_append]; exact r1) r2

theorem owns_empty {w : World} {g base : Nat} {e : TypeId} (h : w.heap[g]? = some (.cells #[] e (0, 0))) (hb : base ≤ g) : w.ownsRow base e 1 (.slice (some ⟨g, 0, none⟩) 0 0) 0 [] :=
  ⟨rfl, .inr ⟨g, 0, #[], rfl, hb, h, Nat.le_refl _, by simp [maxLen], rfl, rfl⟩⟩
end Go.Proofs.YtdopmkiogmejaaaDoor
