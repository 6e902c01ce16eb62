/- Right attributes: the program's walk over a set of names that the call makes. -/
import Derived.Test.YtfgnepbpfglepaaDp2
import Derived.Maps.OwnSet
import Derived.Maps.OwnOps
import Derived.Maps.Views
import Derived.DeepKeys4
import Derived.MapViews
namespace Go.Proofs.Ytfgnepbpfglepaa
open Go.RowKit Go.Maps
set_option linter.unusedVariables false
set_option linter.unusedSimpArgs false
set_option maxRecDepth 100000

theorem TrylaidOutD : laidOutB Try.prog = true := by kernel_rfl
theorem TryrowAttr : (56 : TypeId) < Try.prog.types.size := of_decide_eq_true (by kernel_rfl)
theorem TrywideAttr : (match Try.prog.underlying 56 with | some (.array _ _) | some (.struct _) => true | _ => false) = true := by rw [Try.underlying56]
theorem TryattrLaw : Keyed Try.prog 56 := Keyed.of_law (deep_law_laid TrylaidOutD (m := 2) (by omega) TryrowAttr (by kernel_rfl) TrywideAttr)
theorem Trycells51 : Try.prog.cellsOf 56 = 3 := by kernel_rfl
theorem Trycells9k : Try.prog.cellsOf 9 = 1 := by kernel_rfl
theorem TrykeyAttr : Try.prog.keyType 56 = true := by kernel_rfl
theorem TryzeroUnit (w : World) : (zeroValue 144).run Try.prog w = .ok (.agg #[]) w := by kernel_rfl
theorem TrysizeK : ∃ m, Try.prog.types.size + 1 = m + 2 := by
  have h : (56 : Nat) < Try.prog.types.size := TryrowAttr
  generalize Try.prog.types.size = z at h
  exact ⟨z - 1, by omega⟩

theorem key_three {P : Program} {T S : TypeId} {m : Nat} {f0 f1 f2 : Field} (hT : P.underlying T = some (.struct #[f0, f1, f2])) (hS : P.underlying S = some .string) (hc : P.cellsOf T = 3) (hcs : P.cellsOf S = 1)
    (h0 : f0.type = S) (h1 : f1.type = S) (h2 : f2.type = S) (o0 : f0.offset = 0) (o1 : f1.offset = 1) (o2 : f2.offset = 2) (n0 : (f0.name != "_") = true) (n1 : (f1.name != "_") = true) (n2 : (f2.name != "_") = true) (hk : P.keyType T = true) (hm : P.types.size + 1 = m + 2)
    (a b c : ByteArray) (ha : a.size ≤ maxLen) (hb : b.size ≤ maxLen) (hd : c.size ≤ maxLen) : ∃ l, keyOf P T (.agg #[.string a, .string b, .string c]) = some l := by
  have e : ∀ x : ByteArray, x.size ≤ maxLen → P.keyLits P.types.size S [.string x] = some [.string x.data.toList] := fun x hx => by
    rw [show P.types.size = m + 1 by omega]
    simp [Program.keyLits, hS, hx]
  unfold keyOf
  rw [hT]
  simp [hk, Value.formed, hT, hc, e a ha, e b hb, e c hd, Program.keyLits, h0, h1, h2, o0, o1, o2, n0, n1, n2, hS, hcs, Value.cells, ha, hb, hd]

/-- What a name's key reads as. -/
noncomputable def keyF (s nm : ByteArray) : Lit := (keyOf Try.prog 56 (.agg #[.string s, .string nm, .string ⟨#[]⟩])).getD (.bool false)
theorem key_some (s nm : ByteArray) (hs : s.size ≤ 1000000) (hn : nm.size ≤ 1000000) : keyOf Try.prog 56 (.agg #[.string s, .string nm, .string ⟨#[]⟩]) = some (keyF s nm) := by
  obtain ⟨m, hm⟩ := TrysizeK
  have hex := key_three Try.underlying56 Try.underlying9 Trycells51 Trycells9k rfl rfl rfl rfl rfl rfl (by decide) (by decide) (by decide) TrykeyAttr hm s nm ⟨#[]⟩ (by unfold maxLen; omega) (by unfold maxLen; omega) (by unfold maxLen; decide)
  obtain ⟨l, hl⟩ := hex
  unfold keyF
  rw [hl]; rfl
theorem key_inj {s nm s' nm' : ByteArray} (hs : s.size ≤ 1000000) (hn : nm.size ≤ 1000000) (hs' : s'.size ≤ 1000000) (hn' : nm'.size ≤ 1000000) (h : keyF s nm = keyF s' nm') : s = s' ∧ nm = nm' := by
  have h1 := key_some s nm hs hn
  have h2 := key_some s' nm' hs' hn'
  rw [← h] at h2
  have := TryattrLaw.inj h1 h2
  simp only [Value.agg.injEq] at this
  have := congrArg Array.toList this
  simp at this
  exact this
theorem key_lit (s nm : ByteArray) (hs : s.size ≤ 1000000) (hn : nm.size ≤ 1000000) : WideAt.IsKeyLit (keyF s nm) := TryattrLaw.key (key_some s nm hs hn)

/-- Have two attributes one name? -/
def oneN (u t : At3) : Bool := decide (u.name = t.name) && decide (u.space = t.space)
def okA (l : List At3) (k : Nat) : Bool := match l[k]? with
  | some t => !(l.take k).any (fun u => oneN u t) && (rightS t.space && (nameS t.name && rightS t.val))
  | none => true
def attrsB (l : List At3) : Bool := allTo (okA l) l.length
noncomputable def keysA (l : List At3) : List Lit := l.map fun t => keyF t.space t.name
def SmS (l : List At3) : Prop := ∀ t ∈ l, t.space.size ≤ 1000000 ∧ t.name.size ≤ 1000000 ∧ t.val.size ≤ 1000000
theorem keys_has (l : List At3) (hl : SmS l) (t : At3) (ht : t.space.size ≤ 1000000 ∧ t.name.size ≤ 1000000 ∧ t.val.size ≤ 1000000) : Maps.has (setOf (H := Unit) (.agg []) (keysA l)) (keyF t.space t.name) = l.any (fun u => oneN u t) := by
  rw [has_setOf _ _ _ (fun x hx => by
    obtain ⟨u, hu, rfl⟩ := List.mem_map.1 hx
    exact key_lit _ _ (hl u hu).1 (hl u hu).2.1)]
  unfold keysA
  rw [List.any_map, Bool.eq_iff_iff, List.any_eq_true, List.any_eq_true]
  constructor
  · rintro ⟨u, hu, he⟩
    have := (WideAt.sameKey_iff (key_lit t.space t.name ht.1 ht.2.1)).1 he
    obtain ⟨h1, h2⟩ := key_inj (hl u hu).1 (hl u hu).2.1 ht.1 ht.2.1 this
    exact ⟨u, hu, by unfold oneN; rw [decide_eq_true h1, decide_eq_true h2]; rfl⟩
  · rintro ⟨u, hu, he⟩
    unfold oneN at he
    rw [Bool.and_eq_true] at he
    refine ⟨u, hu, ?_⟩
    show (keyF u.space u.name).sameKey (keyF t.space t.name) = true
    rw [of_decide_eq_true he.1, of_decide_eq_true he.2]
    exact WideAt.sameKey_self (key_lit _ _ ht.1 ht.2.1)
theorem keysA_snoc (l : List At3) (k : Nat) (t : At3) (h : l[k]? = some t) : keysA (l.take (k + 1)) = keysA (l.take k) ++ [keyF t.space t.name] := by
  unfold keysA
  rw [List.take_add_one, h, List.map_append]; rfl
end Go.Proofs.Ytfgnepbpfglepaa
