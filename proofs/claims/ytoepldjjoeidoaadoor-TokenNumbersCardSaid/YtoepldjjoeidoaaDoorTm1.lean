/- Tokens of signs, and of signs with comments between them (mathematics). -/
import Derived.Test.YtoepldjjoeidoaaDoorTng
import Derived.Test.YtoepldjjoeidoaaDoorRaw
namespace Go.Proofs.YtoepldjjoeidoaaDoor
open Go.RowKit
set_option linter.unusedVariables false
set_option linter.unusedSimpArgs false

/-- Characters of ASCII that are as they are. -/
def Asc1 (zs : List Int) : Prop := ∀ c ∈ zs, 32 ≤ c ∧ c < 127
theorem asc_text {zs : List Int} (h : Asc1 zs) : textF zs = zs := by
  induction zs with
  | nil => rfl
  | cons c zs ih =>
    have hc := h c (List.mem_cons_self ..)
    unfold textF at *
    rw [List.flatMap_cons, ih (fun y hy => h y (List.mem_cons_of_mem _ hy))]
    have : charOf c = c := by unfold charOf rightB; rw [if_pos (decide_eq_true (by omega))]
    rw [this]
    unfold putF
    rw [if_pos (by omega)]; rfl
theorem asc_map {zs : List Int} (h : Asc1 zs) : zs.map charOf = zs := by
  induction zs with
  | nil => rfl
  | cons c zs ih =>
    have hc := h c (List.mem_cons_self ..)
    rw [List.map_cons, ih (fun y hy => h y (List.mem_cons_of_mem _ hy))]
    have : charOf c = c := by unfold charOf rightB; rw [if_pos (decide_eq_true (by omega))]
    rw [this]
theorem asc_chars {zs : List Int} (h : Asc1 zs) : charsF zs = zs := by
  have := chars_text zs
  rw [asc_text h, asc_map h] at this
  rw [this]
  unfold dropMark
  cases zs with
  | nil => rfl
  | cons c zs =>
    have hc := h c (List.mem_cons_self ..)
    simp
    omega
theorem prep_id (ys : List Int) (h : ∀ z ∈ ys, z ≠ 0 ∧ z ≠ 12 ∧ z ≠ 13 ∧ rightB z = true) : prepF ys = ys := by
  have key : ∀ k, k ≤ ys.length → prepTo ys k = ys.take k := by
    intro k
    induction k with
    | zero => intro _; simp [prepTo]
    | succ k ih =>
      intro hk
      have hm : ys[k] ∈ ys := List.getElem_mem hk
      obtain ⟨h0, h12, h13, hr⟩ := h _ hm
      have e : ys[k]?.getD 0 = ys[k] := by rw [List.getElem?_eq_getElem hk]; rfl
      rw [prepTo, ih (by omega), List.take_succ_eq_append_getElem hk]
      congr 1
      rcases prep_cases ys k with ⟨e1, _, _, _⟩ | ⟨e1, _, _⟩ | ⟨e1, _, _, _⟩ | ⟨e1, _⟩ | ⟨e1, _⟩ | ⟨_, _, _, HP⟩
      all_goals first | (rw [e] at e1; omega) | (rw [HP, e]; unfold charOf; rw [if_pos hr])
  unfold prepF
  rw [key _ (Nat.le_refl _), List.take_length]
theorem asc_toks {zs : List Int} (h : Asc1 zs) : toksF zs = allF zs := by
  unfold toksF
  rw [asc_chars h, prep_id zs (fun z hz => by
    have := h z hz
    exact ⟨by omega, by omega, by omega, by unfold rightB; exact decide_eq_true (by omega)⟩)]

/-- A sign that is a token by itself, whatever stands behind it. -/
def sgB (c : Int) : Bool := decide (c = 40 ∨ c = 41 ∨ c = 44 ∨ c = 58 ∨ c = 59 ∨ c = 123 ∨ c = 125 ∨ c = 61 ∨ c = 126 ∨ c = 124 ∨ c = 33 ∨ c = 36)
def ktF (c : Int) : Int × List Int := if signKind c = 9 then (9, bytesF [c]) else (signKind c, [])
theorem sg_tok {l : List Int} {i : Nat} (hi : i < l.length) (h : sgB (chA l i) = true) : tokAt l i = if signKind (chA l i) = 9 then ⟨9, i, i + 1, bytesF [chA l i], [], false⟩ else ⟨signKind (chA l i), i, i + 1, [], [], false⟩ := by
  have hs := of_decide_eq_true h
  have nb : ∀ c, c ≠ 0 → sgB c = false → isB l i c = false := fun c _ hc => by
    rcases q : isB l i c with _ | _
    · rfl
    · rw [isB_iff.1 q, hc] at h; exact absurd h (by decide)
  have b34 := nb 34 (by decide) (by decide)
  have b39 := nb 39 (by decide) (by decide)
  have b43 := nb 43 (by decide) (by decide)
  have b45 := nb 45 (by decide) (by decide)
  have b46 := nb 46 (by decide) (by decide)
  have b60 := nb 60 (by decide) (by decide)
  have b64 := nb 64 (by decide) (by decide)
  have b35 := nb 35 (by decide) (by decide)
  have b92 := nb 92 (by decide) (by decide)
  have hsp : spB l i = false := by unfold spB spaceB; exact decide_eq_false (by omega)
  have hdg : dgB l i = false := by unfold dgB digitB; exact decide_eq_false (by omega)
  have hst : stB l i = false := by unfold stB startB smallF; exact decide_eq_false (by split <;> omega)
  unfold tokAt
  rw [if_neg (by omega), hsp, b34, b39]
  have hnu : numAt l i = false := by unfold numAt fracAt signAt; rw [b43, b45]; simp only [Bool.or_self, Bool.false_eq_true, if_false]; rw [hdg, b46]; rfl
  have hcd : cdcB l i = false := by unfold cdcB; rw [b45]; rfl
  have hna : nameAt l i = false := by unfold nameAt escB; rw [b45, hst, b92]; rfl
  have hco : cdoB l i = false := by unfold cdoB; rw [b60]; rfl
  have hat : atSgB l i = false := by unfold atSgB; rw [b64]; rfl
  have hha : hashB l i = false := by unfold hashB; rw [b35]; rfl
  rw [hnu, hcd, hna, hco, hat, hha]
  simp
/-- Signs from a place on, with nothing between them but what is passed over. -/
def Seg (l : List Int) : List Int → Nat → Prop
  | [], j => behindF l j = l.length
  | c :: cs, j => behindF l j < l.length ∧ chA l (behindF l j) = c ∧ sgB c = true ∧ Seg l cs (behindF l j + 1)
def kt (t : Tk) : Int × List Int := (t.kind, t.text)
theorem seg_all (l : List Int) : ∀ (cs : List Int) (f j : Nat) (acc : List Tk), Seg l cs j → cs.length < f → ∃ ts, allGo f l j acc = acc ++ ts ∧ ts.map kt = cs.map ktF ++ [(0, [])]
  | [], f, j, acc, h, hf => by
    obtain ⟨f, rfl⟩ : ∃ g, f = g + 1 := ⟨f - 1, by omega⟩
    have hn : nextF l j = ⟨0, l.length, l.length, [], [], false⟩ := by
      unfold nextF
      rw [show behindF l j = l.length from h]
      exact tokAt_end (Nat.le_refl _)
    refine ⟨[⟨0, l.length, l.length, [], [], false⟩], ?_, rfl⟩
    rw [allGo, hn, if_pos rfl]
  | c :: cs, f, j, acc, h, hf => by
    obtain ⟨f, rfl⟩ : ∃ g, f = g + 1 := ⟨f - 1, by omega⟩
    obtain ⟨h1, h2, h3, h4⟩ := h
    have hn := sg_tok h1 (by rw [h2]; exact h3)
    rw [h2] at hn
    have hk : (nextF l j).kind ≠ 0 ∧ (nextF l j).to = behindF l j + 1 ∧ kt (nextF l j) = ktF c := by
      unfold nextF
      rw [hn]
      unfold ktF kt
      by_cases q : signKind c = 9
      · rw [if_pos q, if_pos q]; exact ⟨(by decide : (9 : Int) ≠ 0), rfl, rfl⟩
      · rw [if_neg q, if_neg q]
        refine ⟨?_, rfl, rfl⟩
        show signKind c ≠ 0
        unfold signKind
        repeat' split
        all_goals decide
    obtain ⟨ts, e1, e2⟩ := seg_all l cs f (behindF l j + 1) (acc ++ [nextF l j]) h4 (by simp at hf; omega)
    refine ⟨nextF l j :: ts, ?_, ?_⟩
    · rw [allGo, if_neg hk.1, hk.2.1, e1]; simp
    · rw [List.map_cons, e2, hk.2.2]; rfl
theorem behind_stop {l : List Int} {j : Nat} (h : chA l j ≠ 47) : behindF l j = j := behindF_stop (by unfold openB; rw [show isB l j 47 = false from decide_eq_false h]; rfl)
theorem chA_drop {l : List Int} {j k : Nat} {xs : List Int} (h : l.drop j = xs) (hk : k < xs.length) : chA l (j + k) = xs[k] ∧ j + k < l.length := by
  have hl : (l.drop j).length = xs.length := by rw [h]
  rw [List.length_drop] at hl
  refine ⟨?_, by omega⟩
  unfold chA
  have : (l.drop j)[k]? = xs[k]? := by rw [h]
  rw [List.getElem?_drop] at this
  rw [this, List.getElem?_eq_getElem hk]; rfl
theorem sg_not47 {c : Int} (h : sgB c = true) : c ≠ 47 := by
  have := of_decide_eq_true h; omega
theorem seg_plain (l : List Int) : ∀ (cs : List Int) (j : Nat), l.drop j = cs → j ≤ l.length → (∀ c ∈ cs, sgB c = true) → Seg l cs j
  | [], j, h, hj, _ => by
    have : l.length - j = 0 := by rw [← List.length_drop, h]; rfl
    have hj2 : j = l.length := by omega
    subst hj2
    exact behind_stop (by rw [chA_end l _ (Nat.le_refl _)]; decide)
  | c :: cs, j, h, hj, hs => by
    have hc := hs c (List.mem_cons_self ..)
    obtain ⟨h1, h2⟩ := chA_drop (k := 0) h (by simp)
    rw [Nat.add_zero] at h1 h2
    have h1 : chA l j = c := h1
    have hb : behindF l j = j := behind_stop (by rw [h1]; exact sg_not47 hc)
    refine ⟨by rw [hb]; exact h2, by rw [hb]; exact h1, hc, ?_⟩
    rw [hb]
    refine seg_plain l cs (j + 1) ?_ h2 (fun x hx => hs x (List.mem_cons_of_mem _ hx))
    rw [← List.drop_drop, h]; rfl

theorem skip_ins (l : List Int) : ∀ (ins : List Int) (k : Nat) (rest : List Int), l.drop k = ins ++ (42 :: 47 :: rest) → (∀ c ∈ ins, 97 ≤ c ∧ c ≤ 122) → skipF l k = k + ins.length + 2
  | [], k, rest, h, _ => by
    obtain ⟨h1, h2⟩ := chA_drop (k := 0) h (by simp)
    obtain ⟨h3, h4⟩ := chA_drop (k := 1) h (by simp)
    have h1 : chA l k = 42 := h1
    have h3 : chA l (k + 1) = 47 := h3
    rw [skipF_hit (by omega) (by unfold isB; rw [h1, h3]; rfl)]
    simp; omega
  | c :: ins, k, rest, h, hi => by
    have hc := hi c (List.mem_cons_self ..)
    obtain ⟨h1, h2⟩ := chA_drop (k := 0) h (by simp)
    have h1 : chA l k = c := h1
    rw [skipF_step (by omega) (by rw [show isB l k 42 = false from by unfold isB; rw [h1]; exact decide_eq_false (by omega)]; rfl)]
    rw [skip_ins l ins (k + 1) rest (by rw [← List.drop_drop, h]; rfl) (fun x hx => hi x (List.mem_cons_of_mem _ hx))]
    simp; omega
def comF (ins : List Int) : List Int := 47 :: 42 :: (ins ++ [42, 47])
theorem pass_com {l : List Int} {j : Nat} {ins rest : List Int} (h : l.drop j = comF ins ++ rest) (hi : ∀ c ∈ ins, 97 ≤ c ∧ c ≤ 122) : behindF l j = behindF l (j + (comF ins).length) := by
  have h' : l.drop j = 47 :: 42 :: (ins ++ (42 :: 47 :: rest)) := by rw [h]; unfold comF; simp
  obtain ⟨h1, h2⟩ := chA_drop (k := 0) h' (by simp)
  obtain ⟨h3, h4⟩ := chA_drop (k := 1) h' (by simp)
  have h1 : chA l j = 47 := h1
  have h3 : chA l (j + 1) = 42 := h3
  rw [behindF_step (by unfold openB isB; rw [h1, h3]; rfl), skip_ins l ins (j + 2) rest (by rw [← List.drop_drop, h']; rfl) hi]
  congr 1
  unfold comF
  simp; omega
theorem seg_congr {l : List Int} {j j' : Nat} (h : behindF l j = behindF l j') : ∀ cs, Seg l cs j' → Seg l cs j
  | [], hs => by show behindF l j = _; rw [h]; exact hs
  | c :: cs, hs => by
    show behindF l j < l.length ∧ chA l (behindF l j) = c ∧ sgB c = true ∧ Seg l cs (behindF l j + 1)
    rw [h]; exact hs
theorem seg_coms (l ins : List Int) (hi : ∀ c ∈ ins, 97 ≤ c ∧ c ≤ 122) : ∀ (cs : List Int) (j : Nat), l.drop j = cs.flatMap (fun c => c :: comF ins) → j ≤ l.length → (∀ c ∈ cs, sgB c = true) → Seg l cs j
  | [], j, h, hj, _ => seg_plain l [] j h hj (fun c hc => by cases hc)
  | c :: cs, j, h, hj, hs => by
    have hc := hs c (List.mem_cons_self ..)
    rw [List.flatMap_cons] at h
    have h' : l.drop j = c :: (comF ins ++ cs.flatMap (fun c => c :: comF ins)) := h
    obtain ⟨h1, h2⟩ := chA_drop (k := 0) h' (by simp)
    rw [Nat.add_zero] at h1 h2
    have h1 : chA l j = c := h1
    have hb : behindF l j = j := behind_stop (by rw [h1]; exact sg_not47 hc)
    refine ⟨by rw [hb]; exact h2, by rw [hb]; exact h1, hc, ?_⟩
    rw [hb]
    have h2' : l.drop (j + 1) = comF ins ++ cs.flatMap (fun c => c :: comF ins) := by rw [← List.drop_drop, h']; rfl
    have hlen : (l.drop (j + 1)).length = (comF ins).length + (cs.flatMap (fun c => c :: comF ins)).length := by rw [h2', List.length_append]
    rw [List.length_drop] at hlen
    have h3 : l.drop (j + 1 + (comF ins).length) = cs.flatMap (fun c => c :: comF ins) := by rw [← List.drop_drop, h2', List.drop_left]
    exact seg_congr (pass_com h2' hi) cs (seg_coms l ins hi cs _ h3 (by omega) (fun x hx => hs x (List.mem_cons_of_mem _ hx)))
theorem sg_asc {cs : List Int} (h : ∀ c ∈ cs, sgB c = true) : Asc1 cs := fun c hc => by have := of_decide_eq_true (h c hc); omega
theorem com_asc {ins : List Int} (hi : ∀ c ∈ ins, 97 ≤ c ∧ c ≤ 122) : ∀ {cs : List Int}, (∀ c ∈ cs, sgB c = true) → Asc1 (cs.flatMap (fun c => c :: comF ins)) := fun {cs} h x hx => by
  obtain ⟨c, hc, hx⟩ := List.mem_flatMap.1 hx
  rcases List.mem_cons.1 hx with rfl | hx
  · exact sg_asc h _ hc
  · unfold comF at hx
    rcases List.mem_cons.1 hx with rfl | hx
    · decide
    · rcases List.mem_cons.1 hx with rfl | hx
      · decide
      · rcases List.mem_append.1 hx with hx | hx
        · have := hi _ hx; omega
        · simp at hx; omega
/-- What the statement holds side by side. -/
theorem toks_signs {cs ins : List Int} (h : ∀ c ∈ cs, sgB c = true) (hi : ∀ c ∈ ins, 97 ≤ c ∧ c ≤ 122) :
    (toksF cs).map kt = cs.map ktF ++ [(0, [])] ∧ (toksF (cs.flatMap (fun c => c :: comF ins))).map kt = cs.map ktF ++ [(0, [])] := by
  rw [asc_toks (sg_asc h), asc_toks (com_asc hi h)]
  have hl : cs.length ≤ (cs.flatMap (fun c => c :: comF ins)).length := by
    clear h
    induction cs with
    | nil => simp
    | cons c cs ih => rw [List.flatMap_cons, List.length_append, List.length_cons, List.length_cons]; omega
  have hs2 := seg_coms (cs.flatMap (fun c => c :: comF ins)) ins hi cs 0 rfl (Nat.zero_le _) h
  generalize cs.flatMap (fun c => c :: comF ins) = B at *
  constructor
  · obtain ⟨ts, e1, e2⟩ := seg_all cs cs (cs.length + 1) 0 [] (seg_plain cs cs 0 rfl (Nat.zero_le _) h) (by omega)
    unfold allF
    rw [e1, List.nil_append, e2]
  · obtain ⟨ts, e1, e2⟩ := seg_all B cs (B.length + 1) 0 [] hs2 (by omega)
    unfold allF
    rw [e1, List.nil_append, e2]
end Go.Proofs.YtoepldjjoeidoaaDoor
