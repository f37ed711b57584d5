/- The reference's count of common points, where one segment lies on one side of the other's line. -/
import Derived.Test.YtiehbakloldkcaaVecU
import Derived.Deep.RegionHeld3
namespace Go.Proofs.Ytiehbakloldkcaa
open Go.RowKit
attribute [local go_sem ↓] Go.wp_at_zero Go.wp_at_succ
set_option maxHeartbeats 12000000 in
set_option maxRecDepth 100000 in
theorem rMeet_off1n (a b c d : P2) (ha : inP a = true) (hb : inP b = true) (hc : inP c = true) (hd : inP d = true) (h1 : a ≠ b) (h2 : c ≠ d) (h3 : trn a b c ≠ 0) (p1 : ¬ trn a b c * trn a b d ≤ 0) (w : World) : Calls Try.prog 35 #[.agg #[.int .i64 a.1, .int .i64 a.2], .agg #[.int .i64 b.1, .int .i64 b.2], .agg #[.int .i64 c.1, .int .i64 c.2], .agg #[.int .i64 d.1, .int .i64 d.2]] w fun e w' => e = .returned (.int .i64 (meetR a b c d)) ∧ Below w.heap.size w w' := by
  have hno : ¬(a ≠ b ∧ c ≠ d ∧ trn a b c = 0 ∧ trn a b d = 0) := fun h => h3 h.2.2.1
  have hea : decide (a = b) = false := by simpa using h1
  have hec : decide (c = d) = false := by simpa using h2
  have e1 : (trn a b c == 0) = false := by simpa using h3
  clear h1 h2 h3
  have EA := fun w => eqPt a b w
  have EC := fun w => eqPt c d w
  have O1 : Hid (∀ w, Calls Try.prog 33 #[.agg #[.int .i64 c.1, .int .i64 c.2], .agg #[.int .i64 d.1, .int .i64 d.2], .agg #[.int .i64 a.1, .int .i64 a.2]] w fun e w' => e = .returned (.bool (onR c d a)) ∧ Below w.heap.size w w') := Lib.hid fun w => rOn_any c d a hc hd ha w
  have O2 : Hid (∀ w, Calls Try.prog 33 #[.agg #[.int .i64 a.1, .int .i64 a.2], .agg #[.int .i64 b.1, .int .i64 b.2], .agg #[.int .i64 c.1, .int .i64 c.2]] w fun e w' => e = .returned (.bool (onR a b c)) ∧ Below w.heap.size w w') := Lib.hid fun w => rOn_any a b c ha hb hc w
  have T1 : Hid (∀ w, Calls Try.prog 32 #[.agg #[.int .i64 a.1, .int .i64 a.2], .agg #[.int .i64 b.1, .int .i64 b.2], .agg #[.int .i64 c.1, .int .i64 c.2]] w fun e w' => e = .returned (.int .i64 (trn a b c)) ∧ Below w.heap.size w w') := Lib.hid fun w => rTurn_any a b c ha hb hc w
  have T2 : Hid (∀ w, Calls Try.prog 32 #[.agg #[.int .i64 a.1, .int .i64 a.2], .agg #[.int .i64 b.1, .int .i64 b.2], .agg #[.int .i64 d.1, .int .i64 d.2]] w fun e w' => e = .returned (.int .i64 (trn a b d)) ∧ Below w.heap.size w w') := Lib.hid fun w => rTurn_any a b d ha hb hd w
  have T3 : Hid (∀ w, Calls Try.prog 32 #[.agg #[.int .i64 c.1, .int .i64 c.2], .agg #[.int .i64 d.1, .int .i64 d.2], .agg #[.int .i64 a.1, .int .i64 a.2]] w fun e w' => e = .returned (.int .i64 (trn c d a)) ∧ Below w.heap.size w w') := Lib.hid fun w => rTurn_any c d a hc hd ha w
  have T4 : Hid (∀ w, Calls Try.prog 32 #[.agg #[.int .i64 c.1, .int .i64 c.2], .agg #[.int .i64 d.1, .int .i64 d.2], .agg #[.int .i64 b.1, .int .i64 b.2]] w fun e w' => e = .returned (.int .i64 (trn c d b)) ∧ Below w.heap.size w w') := Lib.hid fun w => rTurn_any c d b hc hd hb w
  have s1 := trn_bd a b c
  have s2 := trn_bd a b d
  have s3 := trn_bd c d a
  have s4 := trn_bd c d b
  have HV : Hid (meetR a b c d = if decide (a = b) = true ∨ decide (c = d) = true then (if (decide (a = b) = true ∧ onR c d a = true) ∨ (decide (c = d) = true ∧ onR a b c = true) then 1 else 0) else if trn a b c * trn a b d ≤ 0 ∧ trn c d a * trn c d b ≤ 0 then 1 else 0) := Lib.hid (by
    unfold meetR
    by_cases h : a = b ∨ c = d
    · have h' : decide (a = b) = true ∨ decide (c = d) = true := by simpa using h
      rw [if_pos h, if_pos h']
      by_cases h2 : (a = b ∧ onR c d a = true) ∨ (c = d ∧ onR a b c = true)
      · have h2' : (decide (a = b) = true ∧ onR c d a = true) ∨ (decide (c = d) = true ∧ onR a b c = true) := by simpa using h2
        rw [if_pos h2, if_pos h2']
      · have h2' : ¬((decide (a = b) = true ∧ onR c d a = true) ∨ (decide (c = d) = true ∧ onR a b c = true)) := by simpa using h2
        rw [if_neg h2, if_neg h2']
    · have h' : ¬(decide (a = b) = true ∨ decide (c = d) = true) := by simpa using h
      rw [if_neg h, if_neg h', if_neg (fun e => hno ⟨fun x => h (.inl x), fun x => h (.inr x), e⟩)])
  have hno' : ¬(decide (a = b) = false ∧ decide (c = d) = false ∧ trn a b c = 0 ∧ trn a b d = 0) := fun ⟨h1, h2, h3⟩ => hno ⟨by simpa using h1, by simpa using h2, h3⟩
  generalize meetR a b c d = k at *
  generalize decide (a = b) = ea at *
  generalize decide (c = d) = ec at *
  generalize onR c d a = o1 at *
  generalize onR a b c = o2 at *
  generalize trn a b c = t1 at *
  generalize trn a b d = t2 at *
  generalize trn c d a = t3 at *
  generalize trn c d b = t4 at *
  obtain ⟨m1, m2⟩ := mul11 s1 s2
  obtain ⟨m3, m4⟩ := mul11 s3 s4
  clear ha hb hc hd hno s1 s2 s3 s4
  subst hea
  subst hec
  have HK : Hid (k = if t1 * t2 ≤ 0 ∧ t3 * t4 ≤ 0 then 1 else 0) := Lib.hid (by rw [HV.out]; simp)
  have w12 : IntKind.i64.wrap (t1 * t2) = t1 * t2 := wrap_in (by omega) (by omega)
  have w34 : IntKind.i64.wrap (t3 * t4) = t3 * t4 := wrap_in (by omega) (by omega)
  clear HV hno'
  go_enter Try.func35, Try.ntmps35
  go_wp2_with fail
  (with_reducible refine (T1.out _).mono ?_)
  rintro e W59 ⟨rfl, hb⟩
  have H60 := Lib.hid (((((At2.new w 46 a).old _).old _).old _).below hb)
  have H61 := Lib.hid ((((At2.new2 w _ 46 b).old _).old _).below hb)
  have H62 := Lib.hid (((At2.new3 w _ _ 46 c).old _).below hb)
  have H63 := Lib.hid ((At2.new4 w _ _ _ 46 d).below hb)
  have B64 := bcall (bnew (bnew (bnew (bnew (Below.refl _ w) _) _) _) _) hb
  clear hb
  obtain ⟨q65, q66⟩ := H60.out
  have l67 := H60.out.lt
  obtain ⟨q68, q69⟩ := H61.out
  have l70 := H61.out.lt
  obtain ⟨q71, q72⟩ := H62.out
  have l73 := H62.out.lt
  obtain ⟨q74, q75⟩ := H63.out
  have l76 := H63.out.lt
  have d1 : decide (t1 * t2 ≤ 0) = false := by simpa using p1
  have dw1 : 0 < IntKind.i64.wrap (t1 * t2) := by rw [w12]; omega
  have HK2 : Hid (k = 0) := Lib.hid (by rw [HK.out, if_neg (fun e => by have h := e.1; omega)])
  clear p1 HK w12 w34
  go_wp2_with fail
  obtain ⟨w3, rfl⟩ : ∃ w3 : World, w3 = W59 := ⟨_, rfl⟩
  have HH77 := Lib.hid (⟨H60.out, H61.out, H62.out, H63.out⟩ : _ ∧ _ ∧ _ ∧ _)
  refine wp_region_held_drew (S := (fun w' => w'.cell? ⟨(w.heap.size), 0, none⟩ = some (.int .i64 a.1) ∧ w'.cell? ⟨(w.heap.size), 1, none⟩ = some (.int .i64 a.2) ∧ w'.cell? ⟨(w.heap.size + 1), 0, none⟩ = some (.int .i64 b.1) ∧ w'.cell? ⟨(w.heap.size + 1), 1, none⟩ = some (.int .i64 b.2) ∧ w'.cell? ⟨(w.heap.size + 1 + 1), 0, none⟩ = some (.int .i64 c.1) ∧ w'.cell? ⟨(w.heap.size + 1 + 1), 1, none⟩ = some (.int .i64 c.2) ∧ w'.cell? ⟨(w.heap.size + 1 + 1 + 1), 0, none⟩ = some (.int .i64 d.1) ∧ w'.cell? ⟨(w.heap.size + 1 + 1 + 1), 1, none⟩ = some (.int .i64 d.2) ∧ Below w3.heap.size w3 w')) (by kernel_rfl) ?_ (fun hHeld => ?_)
  · (try dsimp only)
    (refine mkf4 HH77 ?_; repeat' first | (with_reducible assumption) | (with_reducible exact Below.refl _ _) | (with_reducible refine Below.drew ?_))
  refine wpAnyH_take (i := 0) (oi := _) (v := ?_) rfl (by kernel_rfl) (by kernel_rfl) (by kernel_rfl) (fun _ _ _ h => h) (Or.inl ⟨by rfl, ?_⟩) (by assumption) ?_
  rotate_left
  · intro w hSw
    (try dsimp only at hSw)
    go_simp
    try (with_reducible rfl)
  try simp only [Act.put, List.getElem_toArray, List.getElem_cons_zero, List.setIfInBounds_toArray, List.set_cons_zero, List.set_cons_succ]
  refine wpAnyH_take (i := 1) (oi := _) (v := ?_) rfl (by kernel_rfl) (by kernel_rfl) (by kernel_rfl) (fun _ _ _ h => h) (Or.inl ⟨by rfl, ?_⟩) (by assumption) ?_
  rotate_left
  · intro w hSw
    (try dsimp only at hSw)
    go_simp
    try (with_reducible rfl)
  try simp only [Act.put, List.getElem_toArray, List.getElem_cons_succ, List.getElem_cons_zero, List.setIfInBounds_toArray, List.set_cons_zero, List.set_cons_succ]
  refine wpAnyH_take (i := 2) (oi := _) (v := ?_) rfl (by kernel_rfl) (by kernel_rfl) (by kernel_rfl) (fun _ _ _ h => h) (Or.inl ⟨by rfl, ?_⟩) (by assumption) ?_
  rotate_left
  · intro w hSw
    (try dsimp only at hSw)
    go_simp
    try (with_reducible rfl)
  try simp only [Act.put, List.getElem_toArray, List.getElem_cons_succ, List.getElem_cons_zero, List.setIfInBounds_toArray, List.set_cons_zero, List.set_cons_succ]
  refine wpAnyH_take (i := 4) (oi := _) (v := ?_) rfl (by kernel_rfl) (by kernel_rfl) (by kernel_rfl) (fun _ _ _ h => h) (Or.inl ⟨by rfl, ?_⟩) (by assumption) ?_
  rotate_left
  · intro w hSw
    (try dsimp only at hSw)
    go_simp
    try (with_reducible rfl)
  try simp only [Act.put, List.getElem_toArray, List.getElem_cons_succ, List.getElem_cons_zero, List.setIfInBounds_toArray, List.set_cons_zero, List.set_cons_succ]
  refine wpAnyH_take (i := 5) (oi := _) (v := ?_) rfl (by kernel_rfl) (by kernel_rfl) (by kernel_rfl) (fun _ _ _ h => h) (Or.inl ⟨by rfl, ?_⟩) (by assumption) ?_
  rotate_left
  · intro w hSw
    (try dsimp only at hSw)
    go_simp
    try (with_reducible rfl)
  try simp only [Act.put, List.getElem_toArray, List.getElem_cons_succ, List.getElem_cons_zero, List.setIfInBounds_toArray, List.set_cons_zero, List.set_cons_succ]
  refine wpAnyH_take (i := 6) (oi := _) (v := ?_) rfl (by kernel_rfl) (by kernel_rfl) (by kernel_rfl) (fun _ _ _ h => h) (Or.inl ⟨by rfl, ?_⟩) (by assumption) ?_
  rotate_left
  · intro w hSw
    (try dsimp only at hSw)
    go_simp
    try (with_reducible rfl)
  try simp only [Act.put, List.getElem_toArray, List.getElem_cons_succ, List.getElem_cons_zero, List.setIfInBounds_toArray, List.set_cons_zero, List.set_cons_succ]
  refine wpAnyH_ready (rs := [3]) (by kernel_rfl) (by simp) ?_
  refine AllReadyH.cons (o := _) rfl (fun K hK => ?_) AllReadyH.nil
  go_simp
  (with_reducible refine (T1.out _).mono ?_)
  rintro e w5 ⟨rfl, hb⟩
  have hbb := bcf4 hHeld hb
  clear hb
  go_wp2_with fail
  refine hK.out _ _ ?_ (fun hHeld => ?_)
  · (try dsimp only)
    (refine mkf4 HH77 ?_; repeat' first | (with_reducible assumption) | (with_reducible exact Below.refl _ _) | (with_reducible refine Below.drew ?_))
  clear hK K
  try simp only [Act.put, List.getElem_toArray, List.getElem_cons_succ, List.getElem_cons_zero, List.setIfInBounds_toArray, List.set_cons_zero, List.set_cons_succ]
  refine wpAnyH_ready (rs := [7]) (by kernel_rfl) (by simp) ?_
  refine AllReadyH.cons (o := _) rfl (fun K hK => ?_) AllReadyH.nil
  go_simp
  (with_reducible refine (T2.out _).mono ?_)
  rintro e w5 ⟨rfl, hb⟩
  have hbb := bcf4 hHeld hb
  clear hb
  go_wp2_with fail
  refine hK.out _ _ ?_ (fun hHeld => ?_)
  · (try dsimp only)
    (refine mkf4 HH77 ?_; repeat' first | (with_reducible assumption) | (with_reducible exact Below.refl _ _) | (with_reducible refine Below.drew ?_))
  clear hK K
  try simp only [Act.put, List.getElem_toArray, List.getElem_cons_succ, List.getElem_cons_zero, List.setIfInBounds_toArray, List.set_cons_zero, List.set_cons_succ]
  refine wpAnyH_take (i := 8) (oi := _) (v := ?_) rfl (by kernel_rfl) (by kernel_rfl) (by kernel_rfl) (fun _ _ _ h => h) (Or.inl ⟨by rfl, ?_⟩) (by assumption) ?_
  rotate_left
  · intro w hSw
    (try dsimp only at hSw)
    go_simp
    try (with_reducible rfl)
  try simp only [Act.put, List.getElem_toArray, List.getElem_cons_succ, List.getElem_cons_zero, List.setIfInBounds_toArray, List.set_cons_zero, List.set_cons_succ]
  refine wpAnyH_take (i := 9) (oi := _) (v := .bool false) rfl (by kernel_rfl) (by kernel_rfl) (by kernel_rfl) (fun _ _ _ h => h) (Or.inl ⟨by rfl, ?_⟩) (by assumption) ?_
  · intro w hSw
    (try dsimp only at hSw)
    go_simp
    try assumption
  try simp only [Act.put, List.getElem_toArray, List.getElem_cons_succ, List.getElem_cons_zero, List.setIfInBounds_toArray, List.set_cons_zero, List.set_cons_succ]
  refine wpAnyH_take (i := 10) (oi := _) (v := ?_) rfl (by kernel_rfl) (by kernel_rfl) (by kernel_rfl) (fun _ _ _ h => h) (Or.inl ⟨by rfl, ?_⟩) (by assumption) ?_
  rotate_left
  · intro w hSw
    (try dsimp only at hSw)
    go_simp
    try (with_reducible rfl)
  try simp only [Act.put, List.getElem_toArray, List.getElem_cons_succ, List.getElem_cons_zero, List.setIfInBounds_toArray, List.set_cons_zero, List.set_cons_succ]
  refine wpAnyH_take (i := 11) (oi := _) (v := undef) rfl (by kernel_rfl) (by kernel_rfl) (by kernel_rfl) (fun _ _ _ h => h) (Or.inr ⟨by rfl, rfl⟩) (by assumption) ?_
  try simp only [Act.put, List.getElem_toArray, List.getElem_cons_succ, List.getElem_cons_zero, List.setIfInBounds_toArray, List.set_cons_zero, List.set_cons_succ]
  refine wpAnyH_take (i := 12) (oi := _) (v := undef) rfl (by kernel_rfl) (by kernel_rfl) (by kernel_rfl) (fun _ _ _ h => h) (Or.inr ⟨by rfl, rfl⟩) (by assumption) ?_
  try simp only [Act.put, List.getElem_toArray, List.getElem_cons_succ, List.getElem_cons_zero, List.setIfInBounds_toArray, List.set_cons_zero, List.set_cons_succ]
  refine wpAnyH_take (i := 13) (oi := _) (v := undef) rfl (by kernel_rfl) (by kernel_rfl) (by kernel_rfl) (fun _ _ _ h => h) (Or.inr ⟨by rfl, rfl⟩) (by assumption) ?_
  try simp only [Act.put, List.getElem_toArray, List.getElem_cons_succ, List.getElem_cons_zero, List.setIfInBounds_toArray, List.set_cons_zero, List.set_cons_succ]
  refine wpAnyH_take (i := 15) (oi := _) (v := undef) rfl (by kernel_rfl) (by kernel_rfl) (by kernel_rfl) (fun _ _ _ h => h) (Or.inr ⟨by rfl, rfl⟩) (by assumption) ?_
  try simp only [Act.put, List.getElem_toArray, List.getElem_cons_succ, List.getElem_cons_zero, List.setIfInBounds_toArray, List.set_cons_zero, List.set_cons_succ]
  refine wpAnyH_take (i := 16) (oi := _) (v := undef) rfl (by kernel_rfl) (by kernel_rfl) (by kernel_rfl) (fun _ _ _ h => h) (Or.inr ⟨by rfl, rfl⟩) (by assumption) ?_
  try simp only [Act.put, List.getElem_toArray, List.getElem_cons_succ, List.getElem_cons_zero, List.setIfInBounds_toArray, List.set_cons_zero, List.set_cons_succ]
  refine wpAnyH_take (i := 17) (oi := _) (v := undef) rfl (by kernel_rfl) (by kernel_rfl) (by kernel_rfl) (fun _ _ _ h => h) (Or.inr ⟨by rfl, rfl⟩) (by assumption) ?_
  try simp only [Act.put, List.getElem_toArray, List.getElem_cons_succ, List.getElem_cons_zero, List.setIfInBounds_toArray, List.set_cons_zero, List.set_cons_succ]
  refine wpAnyH_take (i := 14) (oi := _) (v := undef) rfl (by kernel_rfl) (by kernel_rfl) (by kernel_rfl) (fun _ _ _ h => h) (Or.inr ⟨by rfl, rfl⟩) (by assumption) ?_
  try simp only [Act.put, List.getElem_toArray, List.getElem_cons_succ, List.getElem_cons_zero, List.setIfInBounds_toArray, List.set_cons_zero, List.set_cons_succ]
  refine wpAnyH_take (i := 18) (oi := _) (v := undef) rfl (by kernel_rfl) (by kernel_rfl) (by kernel_rfl) (fun _ _ _ h => h) (Or.inr ⟨by rfl, rfl⟩) (by assumption) ?_
  try simp only [Act.put, List.getElem_toArray, List.getElem_cons_succ, List.getElem_cons_zero, List.setIfInBounds_toArray, List.set_cons_zero, List.set_cons_succ]
  refine wpAnyH_take (i := 19) (oi := _) (v := undef) rfl (by kernel_rfl) (by kernel_rfl) (by kernel_rfl) (fun _ _ _ h => h) (Or.inr ⟨by rfl, rfl⟩) (by assumption) ?_
  try simp only [Act.put, List.getElem_toArray, List.getElem_cons_succ, List.getElem_cons_zero, List.setIfInBounds_toArray, List.set_cons_zero, List.set_cons_succ]
  refine wpAnyH_take (i := 20) (oi := _) (v := undef) rfl (by kernel_rfl) (by kernel_rfl) (by kernel_rfl) (fun _ _ _ h => h) (Or.inr ⟨by rfl, rfl⟩) (by assumption) ?_
  try simp only [Act.put, List.getElem_toArray, List.getElem_cons_succ, List.getElem_cons_zero, List.setIfInBounds_toArray, List.set_cons_zero, List.set_cons_succ]
  refine wpAnyH_take (i := 21) (oi := _) (v := ?_) rfl (by kernel_rfl) (by kernel_rfl) (by kernel_rfl) (fun _ _ _ h => h) (Or.inl ⟨by rfl, ?_⟩) (by assumption) ?_
  rotate_left
  · intro w hSw
    (try dsimp only at hSw)
    go_simp
    try (with_reducible rfl)
  try simp only [Act.put, List.getElem_toArray, List.getElem_cons_succ, List.getElem_cons_zero, List.setIfInBounds_toArray, List.set_cons_zero, List.set_cons_succ]
  refine wpAnyH_done (by kernel_rfl) ?_ _
  have hbb := bcf4 hHeld (Below.refl _ _)
  clear hHeld
  go_wp2_with fail
  go_ret
  exact ⟨ret_int HK2.out.symm, bcall B64 hbb⟩
end Go.Proofs.Ytiehbakloldkcaa
