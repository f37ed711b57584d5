/- The executor's laws: what is known of a region's order. -/
import Derived.Test.YtmpadjlplgajcaaE4H
import Derived.LoopN
namespace Go.Proofs.Ytmpadjlplgajcaa
open Go.RowKit
section
theorem ancOf_spec {acc : List Nat} {o : Oper} {k : Nat} (h : (ancOf acc o).testBit k = true) : ∃ e ∈ o.after, Region.binds .any e = true ∧ (k = e.on ∨ (acc.getD e.on 0).testBit k = true) := by
  unfold ancOf at h
  have key : ∀ (l : List Edge) (s : Nat), (l.foldl (fun s e => if Region.binds .any e then s ||| (2 ^ e.on ||| acc.getD e.on 0) else s) s).testBit k = true → s.testBit k = true ∨ ∃ e ∈ l, Region.binds .any e = true ∧ (k = e.on ∨ (acc.getD e.on 0).testBit k = true) := by
    intro l
    induction l with
    | nil => intro s h; exact .inl h
    | cons e l ih =>
      intro s h
      rw [List.foldl_cons] at h
      rcases ih _ h with h1 | ⟨e', he', h1⟩
      · split at h1
        · rename_i hb
          rw [Nat.testBit_or, Nat.testBit_or, Bool.or_eq_true, Bool.or_eq_true] at h1
          rcases h1 with h1 | h1 | h1
          · exact .inl h1
          · refine .inr ⟨e, List.mem_cons_self .., hb, .inl ?_⟩
            rw [Nat.testBit_two_pow] at h1
            exact (of_decide_eq_true h1).symm
          · exact .inr ⟨e, List.mem_cons_self .., hb, .inr h1⟩
        · exact .inl h1
      · exact .inr ⟨e', List.mem_cons_of_mem _ he', h1⟩
  rcases key _ _ h with h1 | ⟨e, he, h1⟩
  · simp at h1
  · exact ⟨e, Array.mem_toList_iff.1 he, h1⟩
theorem ancs_len : ∀ (l : List Oper) (acc : List Nat), (ancs l acc).length = acc.length + l.length
  | [], acc => by simp [ancs]
  | o :: l, acc => by rw [ancs, ancs_len]; simp; omega
theorem ancs_pre : ∀ (l : List Oper) (acc : List Nat) (i : Nat), i < acc.length → (ancs l acc).getD i 0 = acc.getD i 0
  | [], acc, i, _ => rfl
  | o :: l, acc, i, h => by
    rw [ancs, ancs_pre l _ i (by simp; omega)]
    simp only [List.getD_eq_getElem?_getD, List.getElem?_append_left h]
theorem ancs_at (l : List Oper) : ∀ (acc : List Nat) (i : Nat) (o : Oper), l[i]? = some o → ∃ acc' : List Nat, acc'.length = acc.length + i ∧ (∀ j, j < acc'.length → acc'.getD j 0 = (ancs l acc).getD j 0) ∧ (ancs l acc).getD (acc.length + i) 0 = ancOf acc' o := by
  induction l with
  | nil => intro acc i o h; simp at h
  | cons o l ih =>
    intro acc i o' h
    cases i with
    | zero =>
      rw [List.getElem?_cons_zero] at h
      cases h
      refine ⟨acc, rfl, fun j hj => (ancs_pre (o :: l) acc j hj).symm, ?_⟩
      rw [ancs, ancs_pre l _ _ (by rw [List.length_append, List.length_singleton]; omega), Nat.add_zero, List.getD_eq_getElem?_getD, List.getElem?_append_right (Nat.le_refl _), Nat.sub_self]
      rfl
    | succ i =>
      rw [List.getElem?_cons_succ] at h
      obtain ⟨acc', h1, h2, h3⟩ := ih (acc ++ [ancOf acc o]) i o' h
      rw [List.length_append, List.length_singleton] at h1 h3
      refine ⟨acc', by omega, fun j hj => by rw [h2 j hj, ancs], ?_⟩
      rw [ancs, ← h3]
      congr 1
      omega
theorem clear1_spec {ops : Array Oper} {m : Nat} {x : Oper × Rr} : ∀ {pre : List (Oper × Rr)} {k : Nat}, clear1 ops m x pre k = true → ∀ j y, pre[j]? = some y → m.testBit (k + j) = true ∨ clash ops y x = false
  | [], _, _, j, y, hj => by simp at hj
  | z :: r, k, h, 0, y, hj => by
    simp at hj
    subst hj
    simp only [clear1, Bool.and_eq_true, Bool.or_eq_true, Bool.not_eq_true'] at h
    exact h.1
  | z :: r, k, h, j + 1, y, hj => by
    rw [List.getElem?_cons_succ] at hj
    simp only [clear1, Bool.and_eq_true] at h
    have := clear1_spec h.2 j y hj
    rwa [show k + 1 + j = k + (j + 1) by omega] at this
theorem toldBy_spec {m id : Nat} : ∀ {pre : List (Oper × Rr)} {k : Nat}, toldBy m id pre k = true → ∃ j y, pre[j]? = some y ∧ m.testBit (k + j) = true ∧ Rg y.2.n0 y.2.n id
  | [], _, h => by simp [toldBy] at h
  | z :: r, k, h => by
    simp only [toldBy, Bool.or_eq_true, Bool.and_eq_true, Nat.ble_eq, Nat.blt_eq] at h
    rcases h with ⟨⟨h1, h2⟩, h3⟩ | h
    · exact ⟨0, z, rfl, h1, h2, h3⟩
    · obtain ⟨j, y, q1, q2, q3⟩ := toldBy_spec h
      exact ⟨j + 1, y, by simpa using q1, by rwa [show k + (j + 1) = k + 1 + j by omega], q3⟩
theorem clearAll_spec {ops : Array Oper} {base : Nat} : ∀ {l pre : List (Oper × Rr)} {ms : List Nat} {i : Nat}, clearAll ops base pre l ms i = true → pre.length = i → ∀ j x, l[j]? = some x → ∃ m, ms[j]? = some m ∧
    (∀ k y, (pre ++ l)[k]? = some y → k < i + j → m.testBit k = true ∨ clash ops y x = false) ∧ (∀ id ∈ x.2.v.ids ++ x.2.f.ids, id < base ∨ Rg x.2.n0 x.2.n id ∨ ∃ k y, (pre ++ l)[k]? = some y ∧ k < i + j ∧ m.testBit k = true ∧ Rg y.2.n0 y.2.n id) ∧
    (∀ e ∈ x.1.after, Region.binds .any e = true → e.on < i + j)
  | [], _, _, _, _, _, j, x, hj => by simp at hj
  | z :: l, pre, [], i, h, _, j, x, hj => by simp [clearAll] at h
  | z :: l, pre, m :: ms, i, h, hp, j, x, hj => by
    simp only [clearAll, Bool.and_eq_true] at h
    obtain ⟨⟨⟨h1, h2⟩, h3⟩, h4⟩ := h
    rw [List.all_eq_true] at h2 h3
    cases j with
    | zero =>
      simp at hj
      subst hj
      refine ⟨m, rfl, fun k y hk hlt => ?_, fun id hid => ?_, fun e he hb => ?_⟩
      · rw [List.getElem?_append_left (by omega)] at hk
        have := clear1_spec h1 k y hk
        simpa using this
      · have := h2 id hid
        simp only [Bool.or_eq_true, Nat.blt_eq, Bool.and_eq_true, Nat.ble_eq] at this
        rcases this with (h | h) | h
        · exact .inl h
        · exact .inr (.inl h)
        · obtain ⟨k, y, q1, q2, q3⟩ := toldBy_spec h
          have hk : k < pre.length := (List.getElem?_eq_some_iff.1 q1).1
          exact .inr (.inr ⟨k, y, by rw [List.getElem?_append_left hk]; exact q1, by omega, by simpa using q2, q3⟩)
      · have := h3 e (Array.mem_toList_iff.2 he)
        simp only [hb, Bool.not_true, Bool.false_or, Nat.blt_eq] at this
        omega
    | succ j =>
      rw [List.getElem?_cons_succ] at hj
      obtain ⟨m', q1, q2, q3, q5⟩ := clearAll_spec h4 (by simp [hp]) j x hj
      refine ⟨m', by simpa using q1, fun k y hk hlt => q2 k y (by simpa using hk) (by omega), fun id hid => ?_, fun e he hb => by have := q5 e he hb; omega⟩
      rcases q3 id hid with h | h | ⟨k, y, p1, p2, p3⟩
      · exact .inl h
      · exact .inr (.inl h)
      · exact .inr (.inr ⟨k, y, by simpa using p1, by omega, p3⟩)
theorem anyOk_spec {ops : Array Oper} {base : Nat} {rs : List Rr} (h : anyOk ops base rs = true) : rs.length = ops.size ∧ AnyOk ops base ops.size (fun i => ops.getD i default) (fun i => rs.getD i default) (fun i => (ancs ops.toList []).getD i 0) := by
  simp only [anyOk, Bool.and_eq_true] at h
  have hl := Nat.eq_of_beq_eq_true h.1
  refine ⟨hl, ?_⟩
  have hz : ∀ i, i < ops.size → (ops.toList.zip rs)[i]? = some (ops.getD i default, rs.getD i default) := by
    intro i hi
    rw [List.getElem?_zip_eq_some]
    refine ⟨?_, ?_⟩
    · simp [Array.getD_eq_getD_getElem?, hi]
    · simp [hl ▸ hi]
  have hz2 : ∀ k y, (ops.toList.zip rs)[k]? = some y → y.2 = rs.getD k default := by
    intro k y hk
    rw [List.getElem?_zip_eq_some] at hk
    simp [hk.2]
  have hm : ∀ i m, (ancs ops.toList [])[i]? = some m → (ancs ops.toList []).getD i 0 = m := by
    intro i m hm; simp [hm]
  have sp := fun i hi => clearAll_spec h.2 rfl i _ (hz i hi)
  refine ⟨fun i k hi hk => ?_, fun i hi id hid => ?_, fun i hi e he hb => ?_, fun i k hi hk => ?_⟩
  · obtain ⟨m, q1, q2, _⟩ := sp i hi
    rw [hm i m q1]
    rcases q2 k _ (by rw [List.nil_append]; exact hz k (by omega)) (by omega) with h1 | h1
    · exact .inl h1
    · exact .inr (noClash h1)
  · obtain ⟨m, q1, _, q3, _⟩ := sp i hi
    rw [hm i m q1]
    rcases q3 id hid with h1 | h1 | ⟨k, y, p1, p2, p3, p4⟩
    · exact .inl h1
    · exact .inr (.inl h1)
    · rw [List.nil_append] at p1
      rw [hz2 k y p1] at p4
      exact .inr (.inr ⟨k, by omega, p3, p4⟩)
  · obtain ⟨m, _, _, _, q5⟩ := sp i hi
    simpa using q5 e he hb
  · obtain ⟨m, _, _, _, q5⟩ := sp i hi
    have ho : ops.toList[i]? = some (ops.getD i default) := by simp [Array.getD_eq_getD_getElem?, hi]
    obtain ⟨acc', a1, a2, a3⟩ := ancs_at ops.toList [] i _ ho
    simp only [List.length_nil, Nat.zero_add] at a1 a3
    rw [a3] at hk
    obtain ⟨e, he, hb, h1⟩ := ancOf_spec hk
    refine ⟨e, he, hb, ?_⟩
    rcases h1 with h1 | h1
    · exact .inl h1
    · have hlt := q5 e he hb
      simp only [Nat.zero_add] at hlt
      exact .inr (by rw [← a2 e.on (by omega)]; exact h1)
end
end Go.Proofs.Ytmpadjlplgajcaa
