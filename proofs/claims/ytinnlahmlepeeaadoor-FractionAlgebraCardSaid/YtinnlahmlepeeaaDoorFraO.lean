/- The chapter's examples of fraction. -/
import Derived.Test.YtinnlahmlepeeaaDoorFraR
namespace Go.Proofs.YtinnlahmlepeeaaDoor
open Go.RowKit
theorem of_any (n d : Int) (w : World) : Calls Tryd.prog 47 #[.int .i64 n, .int .i64 d] w fun e w' => e = .returned (.agg #[.int .i64 n, .int .i64 d]) ∧ Below w.heap.size w w' := by
  go_enter Tryd.func47, Tryd.ntmps47
  go_wp2_with fail
  refine bodyPost_ret (v := .agg #[.int .i64 n, .int .i64 d]) ?_ rfl ⟨rfl, ?_⟩
  · simp [results, Tryd.results47, go_sem, go_sem]
  · have hBB := (bnew (Below.refl _ w) (.cells #[.int .i64 n, .int .i64 d] 23))
    repeat' first | (with_reducible assumption) | (with_reducible exact Nat.le_refl _) | (with_reducible refine setB ?_ ?_) | (with_reducible refine Below.drew ?_) | (with_reducible refine bnew ?_ _) | omega
theorem v_new : newR 6 (-4) = ((-3, 2), 0) := by decide +kernel
theorem v_add : addR (1, 3) (1, 6) = ((1, 2), 0) := by decide +kernel
theorem v_div : divR (1, 3) (2, 3) = ((1, 2), 0) := by decide +kernel
theorem v_pow : powR (2, 3) 3 = ((8, 27), 0) := by decide +kernel
theorem v_sim1 : simR (3, 10) (2, 5) = ((1, 3), 0) := by decide +kernel
theorem v_sim2 : simR (-7, 2) (-3, 2) = ((-2, 1), 0) := by decide +kernel
theorem v_floor : floorR (-3, 2) = -2 := by decide +kernel
theorem v_round1 : roundR (-3, 2) = -2 := by decide +kernel
theorem v_round2 : roundR (5, 2) = 3 := by decide +kernel
theorem v_text : textR (-3, 2) = (⟨#[45, 51, 47, 50]⟩, 0) := by
  have h : validF (-3, 2) = true := by decide +kernel
  have e1 : Lib.itoa (-3) = [45, 51] := by unfold Lib.itoa; rw [Lib.decDigits]; decide
  have e2 : Lib.itoa 2 = [50] := by
    unfold Lib.itoa
    rw [if_neg (by decide)]
    show Lib.decDigits 2 = [50]
    rw [Lib.decDigits]
    decide
  have e3 : textR (-3, 2) = (textB (-3, 2), 0) := by unfold textR; rw [h]; rfl
  have e4 : textB (-3, 2) = ⟨(Lib.itoa (-3)).toArray⟩ ++ (⟨#[47]⟩ ++ ⟨(Lib.itoa 2).toArray⟩) := by unfold textB; rw [if_neg (show ¬ (2 : Int) = 1 by decide)]
  rw [e3, e4, e1, e2]
  rfl
abbrev S6F (w3 : World) (n1 n2 n3 n4 n5 n6 : Nat) (a b c d e f a' b' c' d' e' f' : Value) (w' : World) : Prop :=
  w'.cell? ⟨n1, 0, none⟩ = some a ∧ w'.cell? ⟨n1, 1, none⟩ = some a' ∧ w'.cell? ⟨n2, 0, none⟩ = some b ∧ w'.cell? ⟨n2, 1, none⟩ = some b' ∧ w'.cell? ⟨n3, 0, none⟩ = some c ∧ w'.cell? ⟨n3, 1, none⟩ = some c' ∧
  w'.cell? ⟨n4, 0, none⟩ = some d ∧ w'.cell? ⟨n4, 1, none⟩ = some d' ∧ w'.cell? ⟨n5, 0, none⟩ = some e ∧ w'.cell? ⟨n5, 1, none⟩ = some e' ∧ w'.cell? ⟨n6, 0, none⟩ = some f ∧ w'.cell? ⟨n6, 1, none⟩ = some f' ∧ Below w3.heap.size w3 w'
theorem mk6F {w3 w' : World} {n1 n2 n3 n4 n5 n6 : Nat} {a b c d e f a' b' c' d' e' f' : Value} (h1 : Hid (OwnC w3 n1 #[a, a'])) (h2 : Hid (OwnC w3 n2 #[b, b'])) (h3 : Hid (OwnC w3 n3 #[c, c'])) (h4 : Hid (OwnC w3 n4 #[d, d'])) (h5 : Hid (OwnC w3 n5 #[e, e'])) (h6 : Hid (OwnC w3 n6 #[f, f']))
    (hb : Below w3.heap.size w3 w') : S6F w3 n1 n2 n3 n4 n5 n6 a b c d e f a' b' c' d' e' f' w' :=
  have g1 := (h1.out.below hb).two
  have g2 := (h2.out.below hb).two
  have g3 := (h3.out.below hb).two
  have g4 := (h4.out.below hb).two
  have g5 := (h5.out.below hb).two
  have g6 := (h6.out.below hb).two
  ⟨g1.1.1, g1.1.2, g2.1.1, g2.1.2, g3.1.1, g3.1.2, g4.1.1, g4.1.2, g5.1.1, g5.1.2, g6.1.1, g6.1.2, hb⟩
theorem get6F {w3 w' : World} {n1 n2 n3 n4 n5 n6 : Nat} {a b c d e f a' b' c' d' e' f' : Value} (h : S6F w3 n1 n2 n3 n4 n5 n6 a b c d e f a' b' c' d' e' f' w') : Below w3.heap.size w3 w' := h.2.2.2.2.2.2.2.2.2.2.2.2
theorem num_small : (numS (1, 3) (1, 6)).natAbs = 3 := by decide +kernel
set_option maxHeartbeats 2000000 in
set_option maxRecDepth 100000 in
theorem awake_any (w : World) (he : Env w) : Calls Tryd.prog 13 #[] w fun e w' => e = .returned (.bool true) ∧ Below w.heap.size w w' := by
  have O : Hid (∀ n d : Int, ∀ w, Calls Tryd.prog 47 #[.int .i64 n, .int .i64 d] w fun e w' => e = .returned (.agg #[.int .i64 n, .int .i64 d]) ∧ Below w.heap.size w w') := Lib.hid fun n d w => of_any n d w
  have C1 : Hid (∀ w, Calls Tryd.prog 11 #[.int .i64 6, .int .i64 (-4)] w fun e w' => e = .returned (.tuple #[.agg #[.int .i64 (-3), .int .i64 2], .int .i64 0]) ∧ Below w.heap.size w w') := Lib.hid fun w => by have := new_any 6 (-4) ⟨by decide, by decide⟩ ⟨by decide, by decide⟩ w; rwa [v_new] at this
  have C2 : Hid (∀ w, Calls Tryd.prog 16 #[.agg #[.int .i64 1, .int .i64 3], .agg #[.int .i64 1, .int .i64 6]] w fun e w' => e = .returned (.tuple #[.agg #[.int .i64 1, .int .i64 2], .int .i64 0]) ∧ Below w.heap.size w w') := Lib.hid fun w => by have := add_of (1, 3) (1, 6) ⟨⟨by decide, by decide⟩, by decide, by decide⟩ ⟨⟨by decide, by decide⟩, by decide, by decide⟩ (fun _ _ d h0 h1 => by rw [num_small]; exact divAt_low (by decide) (by decide) h0 (by omega)) w; rwa [v_add] at this
  have C3 : Hid (∀ w, Calls Tryd.prog 19 #[.agg #[.int .i64 1, .int .i64 3], .agg #[.int .i64 2, .int .i64 3]] w fun e w' => e = .returned (.tuple #[.agg #[.int .i64 1, .int .i64 2], .int .i64 0]) ∧ Below w.heap.size w w') := Lib.hid fun w => by have := div_any (1, 3) (2, 3) ⟨⟨by decide, by decide⟩, by decide, by decide⟩ ⟨⟨by decide, by decide⟩, by decide, by decide⟩ w; rwa [v_div] at this
  have C4 : Hid (∀ w, Calls Tryd.prog 25 #[.agg #[.int .i64 2, .int .i64 3], .int .i64 3] w fun e w' => e = .returned (.tuple #[.agg #[.int .i64 8, .int .i64 27], .int .i64 0]) ∧ Below w.heap.size w w') := Lib.hid fun w => by have := power_any (2, 3) 3 ⟨⟨by decide, by decide⟩, by decide, by decide⟩ w; rwa [v_pow] at this
  have C5 : Hid (∀ w, Calls Tryd.prog 33 #[.agg #[.int .i64 3, .int .i64 10], .agg #[.int .i64 2, .int .i64 5]] w fun e w' => e = .returned (.tuple #[.agg #[.int .i64 1, .int .i64 3], .int .i64 0]) ∧ Below w.heap.size w w') := Lib.hid fun w => by have := sim_any (3, 10) (2, 5) ⟨⟨by decide, by decide⟩, by decide, by decide⟩ ⟨⟨by decide, by decide⟩, by decide, by decide⟩ w; rwa [v_sim1] at this
  have C6 : Hid (∀ w, Calls Tryd.prog 33 #[.agg #[.int .i64 (-7), .int .i64 2], .agg #[.int .i64 (-3), .int .i64 2]] w fun e w' => e = .returned (.tuple #[.agg #[.int .i64 (-2), .int .i64 1], .int .i64 0]) ∧ Below w.heap.size w w') := Lib.hid fun w => by have := sim_any (-7, 2) (-3, 2) ⟨⟨by decide, by decide⟩, by decide, by decide⟩ ⟨⟨by decide, by decide⟩, by decide, by decide⟩ w; rwa [v_sim2] at this
  have C7 : Hid (∀ w, Env w → Calls Tryd.prog 37 #[.agg #[.int .i64 (-3), .int .i64 2]] w fun e w' => e = .returned (.tuple #[.string ⟨#[45, 51, 47, 50]⟩, .int .i64 0]) ∧ Below w.heap.size w w') := Lib.hid fun w he => by have := text_any (-3, 2) ⟨⟨by decide, by decide⟩, by decide, by decide⟩ w he; rwa [v_text] at this
  have C8 := Lib.hid parse24
  have CF : Hid (∀ w, Calls Tryd.prog 29 #[.agg #[.int .i64 (-3), .int .i64 2]] w fun e w' => e = .returned (.int .i64 (-2)) ∧ Below w.heap.size w w') := Lib.hid fun w => by have := floor_any (-3, 2) ⟨⟨by decide, by decide⟩, by decide, by decide⟩ w; rwa [v_floor] at this
  have CR1 : Hid (∀ w, Calls Tryd.prog 30 #[.agg #[.int .i64 (-3), .int .i64 2]] w fun e w' => e = .returned (.int .i64 (-2)) ∧ Below w.heap.size w w') := Lib.hid fun w => by have := round_any (-3, 2) ⟨⟨by decide, by decide⟩, by decide, by decide⟩ w; rwa [v_round1] at this
  have CR2 : Hid (∀ w, Calls Tryd.prog 30 #[.agg #[.int .i64 5, .int .i64 2]] w fun e w' => e = .returned (.int .i64 3) ∧ Below w.heap.size w w') := Lib.hid fun w => by have := round_any (5, 2) ⟨⟨by decide, by decide⟩, by decide, by decide⟩ w; rwa [v_round2] at this
  have e0 : ∀ w, (binOp .eql 23 (.agg #[.int .i64 (-3), .int .i64 2]) (.agg #[.int .i64 (-3), .int .i64 2])).run Tryd.prog w = .ok (.bool true) w := fun w => eqF (-3, 2) (-3, 2) w
  have e1 : ∀ w, (binOp .eql 23 (.agg #[.int .i64 1, .int .i64 2]) (.agg #[.int .i64 1, .int .i64 2])).run Tryd.prog w = .ok (.bool true) w := fun w => eqF (1, 2) (1, 2) w
  have e2 : ∀ w, (binOp .eql 23 (.agg #[.int .i64 8, .int .i64 27]) (.agg #[.int .i64 8, .int .i64 27])).run Tryd.prog w = .ok (.bool true) w := fun w => eqF (8, 27) (8, 27) w
  have e3 : ∀ w, (binOp .eql 23 (.agg #[.int .i64 1, .int .i64 3]) (.agg #[.int .i64 1, .int .i64 3])).run Tryd.prog w = .ok (.bool true) w := fun w => eqF (1, 3) (1, 3) w
  have e4 : ∀ w, (binOp .eql 23 (.agg #[.int .i64 (-2), .int .i64 1]) (.agg #[.int .i64 (-2), .int .i64 1])).run Tryd.prog w = .ok (.bool true) w := fun w => eqF (-2, 1) (-2, 1) w
  have EV := Lib.hid he
  clear he
  go_enter Tryd.func13, Tryd.ntmps13
  go_wp2_with fail
  (with_reducible refine (C1.out _).mono ?_)
  rintro e w1 ⟨rfl, hb⟩
  have hb2 := bcall (Below.refl _ w) hb
  clear hb
  go_wp2_with fail
  (with_reducible refine (O.out 1 3 _).mono ?_)
  rintro e w3 ⟨rfl, hb⟩
  have H4 := Lib.hid ((OwnC.new w1 #[.int .i64 (-3), .int .i64 2] 23).below hb)
  have hb5 := bcall (bnew hb2 (.cells #[.int .i64 (-3), .int .i64 2] 23)) hb
  clear hb hb2
  go_wp2_with fail
  (with_reducible refine (O.out 1 6 _).mono ?_)
  rintro e w6 ⟨rfl, hb⟩
  have H7 := Lib.hid ((H4.out).below hb)
  have hb8 := bcall hb5 hb
  clear hb hb5 H4
  go_wp2_with fail
  (with_reducible refine (C2.out _).mono ?_)
  rintro e w9 ⟨rfl, hb⟩
  have H10 := Lib.hid ((H7.out).below hb)
  have hb11 := bcall hb8 hb
  clear hb hb8 H7
  go_wp2_with fail
  (with_reducible refine (O.out 1 3 _).mono ?_)
  rintro e w12 ⟨rfl, hb⟩
  have H13 := Lib.hid (((H10.out).old (.cells #[.int .i64 1, .int .i64 2] 23)).below hb)
  have H14 := Lib.hid ((OwnC.new w9 #[.int .i64 1, .int .i64 2] 23).below hb)
  have hb15 := bcall (bnew hb11 (.cells #[.int .i64 1, .int .i64 2] 23)) hb
  clear hb hb11 H10
  go_wp2_with fail
  (with_reducible refine (O.out 2 3 _).mono ?_)
  rintro e w16 ⟨rfl, hb⟩
  have H17 := Lib.hid ((H13.out).below hb)
  have H18 := Lib.hid ((H14.out).below hb)
  have hb19 := bcall hb15 hb
  clear hb hb15 H13 H14
  go_wp2_with fail
  (with_reducible refine (C3.out _).mono ?_)
  rintro e w20 ⟨rfl, hb⟩
  have H21 := Lib.hid ((H17.out).below hb)
  have H22 := Lib.hid ((H18.out).below hb)
  have hb23 := bcall hb19 hb
  clear hb hb19 H17 H18
  go_wp2_with fail
  (with_reducible refine (O.out 2 3 _).mono ?_)
  rintro e w24 ⟨rfl, hb⟩
  have H25 := Lib.hid (((H21.out).old (.cells #[.int .i64 1, .int .i64 2] 23)).below hb)
  have H26 := Lib.hid (((H22.out).old (.cells #[.int .i64 1, .int .i64 2] 23)).below hb)
  have H27 := Lib.hid ((OwnC.new w20 #[.int .i64 1, .int .i64 2] 23).below hb)
  have hb28 := bcall (bnew hb23 (.cells #[.int .i64 1, .int .i64 2] 23)) hb
  clear hb hb23 H21 H22
  go_wp2_with fail
  (with_reducible refine (C4.out _).mono ?_)
  rintro e w29 ⟨rfl, hb⟩
  have H30 := Lib.hid ((H25.out).below hb)
  have H31 := Lib.hid ((H26.out).below hb)
  have H32 := Lib.hid ((H27.out).below hb)
  have hb33 := bcall hb28 hb
  clear hb hb28 H25 H26 H27
  go_wp2_with fail
  (with_reducible refine (O.out 3 10 _).mono ?_)
  rintro e w34 ⟨rfl, hb⟩
  have H35 := Lib.hid (((H30.out).old (.cells #[.int .i64 8, .int .i64 27] 23)).below hb)
  have H36 := Lib.hid (((H31.out).old (.cells #[.int .i64 8, .int .i64 27] 23)).below hb)
  have H37 := Lib.hid (((H32.out).old (.cells #[.int .i64 8, .int .i64 27] 23)).below hb)
  have H38 := Lib.hid ((OwnC.new w29 #[.int .i64 8, .int .i64 27] 23).below hb)
  have hb39 := bcall (bnew hb33 (.cells #[.int .i64 8, .int .i64 27] 23)) hb
  clear hb hb33 H30 H31 H32
  go_wp2_with fail
  (with_reducible refine (O.out 2 5 _).mono ?_)
  rintro e w40 ⟨rfl, hb⟩
  have H41 := Lib.hid ((H35.out).below hb)
  have H42 := Lib.hid ((H36.out).below hb)
  have H43 := Lib.hid ((H37.out).below hb)
  have H44 := Lib.hid ((H38.out).below hb)
  have hb45 := bcall hb39 hb
  clear hb hb39 H35 H36 H37 H38
  go_wp2_with fail
  (with_reducible refine (C5.out _).mono ?_)
  rintro e w46 ⟨rfl, hb⟩
  have H47 := Lib.hid ((H41.out).below hb)
  have H48 := Lib.hid ((H42.out).below hb)
  have H49 := Lib.hid ((H43.out).below hb)
  have H50 := Lib.hid ((H44.out).below hb)
  have hb51 := bcall hb45 hb
  clear hb hb45 H41 H42 H43 H44
  go_wp2_with fail
  (with_reducible refine (O.out (-7) 2 _).mono ?_)
  rintro e w52 ⟨rfl, hb⟩
  have H53 := Lib.hid (((H47.out).old (.cells #[.int .i64 1, .int .i64 3] 23)).below hb)
  have H54 := Lib.hid (((H48.out).old (.cells #[.int .i64 1, .int .i64 3] 23)).below hb)
  have H55 := Lib.hid (((H49.out).old (.cells #[.int .i64 1, .int .i64 3] 23)).below hb)
  have H56 := Lib.hid (((H50.out).old (.cells #[.int .i64 1, .int .i64 3] 23)).below hb)
  have H57 := Lib.hid ((OwnC.new w46 #[.int .i64 1, .int .i64 3] 23).below hb)
  have hb58 := bcall (bnew hb51 (.cells #[.int .i64 1, .int .i64 3] 23)) hb
  clear hb hb51 H47 H48 H49 H50
  go_wp2_with fail
  (with_reducible refine (O.out (-3) 2 _).mono ?_)
  rintro e w59 ⟨rfl, hb⟩
  have H60 := Lib.hid ((H53.out).below hb)
  have H61 := Lib.hid ((H54.out).below hb)
  have H62 := Lib.hid ((H55.out).below hb)
  have H63 := Lib.hid ((H56.out).below hb)
  have H64 := Lib.hid ((H57.out).below hb)
  have hb65 := bcall hb58 hb
  clear hb hb58 H53 H54 H55 H56 H57
  go_wp2_with fail
  (with_reducible refine (C6.out _).mono ?_)
  rintro e w66 ⟨rfl, hb⟩
  have H67 := Lib.hid ((H60.out).below hb)
  have H68 := Lib.hid ((H61.out).below hb)
  have H69 := Lib.hid ((H62.out).below hb)
  have H70 := Lib.hid ((H63.out).below hb)
  have H71 := Lib.hid ((H64.out).below hb)
  have hb72 := bcall hb65 hb
  clear hb hb65 H60 H61 H62 H63 H64
  go_wp2_with fail
  (with_reducible refine (O.out (-3) 2 _).mono ?_)
  rintro e w73 ⟨rfl, hb⟩
  have H74 := Lib.hid (((H67.out).old (.cells #[.int .i64 (-2), .int .i64 1] 23)).below hb)
  have H75 := Lib.hid (((H68.out).old (.cells #[.int .i64 (-2), .int .i64 1] 23)).below hb)
  have H76 := Lib.hid (((H69.out).old (.cells #[.int .i64 (-2), .int .i64 1] 23)).below hb)
  have H77 := Lib.hid (((H70.out).old (.cells #[.int .i64 (-2), .int .i64 1] 23)).below hb)
  have H78 := Lib.hid (((H71.out).old (.cells #[.int .i64 (-2), .int .i64 1] 23)).below hb)
  have H79 := Lib.hid ((OwnC.new w66 #[.int .i64 (-2), .int .i64 1] 23).below hb)
  have hb80 := bcall (bnew hb72 (.cells #[.int .i64 (-2), .int .i64 1] 23)) hb
  clear hb hb72 H67 H68 H69 H70 H71
  go_wp2_with fail
  have EVn := Lib.hid (EV.out.below hb80)
  (with_reducible refine (C7.out _ EVn.out).mono ?_)
  rintro e w81 ⟨rfl, hb⟩
  have H82 := Lib.hid ((H74.out).below hb)
  have H83 := Lib.hid ((H75.out).below hb)
  have H84 := Lib.hid ((H76.out).below hb)
  have H85 := Lib.hid ((H77.out).below hb)
  have H86 := Lib.hid ((H78.out).below hb)
  have H87 := Lib.hid ((H79.out).below hb)
  have hb88 := bcall hb80 hb
  clear hb hb80 H74 H75 H76 H77 H78 H79
  clear EVn
  go_wp2_with fail
  have EVn := Lib.hid (EV.out.below hb88)
  (with_reducible refine (C8.out _ EVn.out).mono ?_)
  rintro e w89 ⟨rfl, hb⟩
  have H90 := Lib.hid ((H82.out).below hb)
  have H91 := Lib.hid ((H83.out).below hb)
  have H92 := Lib.hid ((H84.out).below hb)
  have H93 := Lib.hid ((H85.out).below hb)
  have H94 := Lib.hid ((H86.out).below hb)
  have H95 := Lib.hid ((H87.out).below hb)
  have hb96 := bcall hb88 hb
  clear hb hb88 H82 H83 H84 H85 H86 H87
  clear EVn
  go_upto_region 9 with fail
  simp only [List.append]
  have KA := Lib.hid (H90.out.old (.cells #[.int .i64 0, .int .i64 0] 23))
  have KB := Lib.hid (H91.out.old (.cells #[.int .i64 0, .int .i64 0] 23))
  have KC := Lib.hid (H92.out.old (.cells #[.int .i64 0, .int .i64 0] 23))
  have KD := Lib.hid (H93.out.old (.cells #[.int .i64 0, .int .i64 0] 23))
  have KF := Lib.hid (H94.out.old (.cells #[.int .i64 0, .int .i64 0] 23))
  have KG := Lib.hid (H95.out.old (.cells #[.int .i64 0, .int .i64 0] 23))
  have HW := bnew hb96 (.cells #[.int .i64 0, .int .i64 0] 23)
  generalize (w89.alloc (.cells #[.int .i64 0, .int .i64 0] 23)) = w3 at *
  clear H90 H91 H92 H93 H94 H95
  go_region_held3 (fun w' => w'.cell? ⟨w1.heap.size, 0, none⟩ = some (.int .i64 (-3)) ∧ w'.cell? ⟨w1.heap.size, 1, none⟩ = some (.int .i64 2) ∧ w'.cell? ⟨w9.heap.size, 0, none⟩ = some (.int .i64 1) ∧ w'.cell? ⟨w9.heap.size, 1, none⟩ = some (.int .i64 2) ∧ w'.cell? ⟨w20.heap.size, 0, none⟩ = some (.int .i64 1) ∧ w'.cell? ⟨w20.heap.size, 1, none⟩ = some (.int .i64 2) ∧ w'.cell? ⟨w29.heap.size, 0, none⟩ = some (.int .i64 8) ∧ w'.cell? ⟨w29.heap.size, 1, none⟩ = some (.int .i64 27) ∧ w'.cell? ⟨w46.heap.size, 0, none⟩ = some (.int .i64 1) ∧ w'.cell? ⟨w46.heap.size, 1, none⟩ = some (.int .i64 3) ∧ w'.cell? ⟨w66.heap.size, 0, none⟩ = some (.int .i64 (-2)) ∧ w'.cell? ⟨w66.heap.size, 1, none⟩ = some (.int .i64 1) ∧ Below w3.heap.size w3 w')
    ((refine mk6F KA KB KC KD KF KG ?_; repeat' first | (with_reducible assumption) | (with_reducible exact Below.refl _ _) | (with_reducible refine Below.drew ?_)))
    ((first | (go_at_call 47; (with_reducible refine (O.out _ _ _).mono ?_); rintro e w' ⟨rfl, hb⟩; have hx := bcall (get6F (by assumption)) hb; clear hb) | (go_at_call 29; (with_reducible refine (CF.out _).mono ?_); rintro e w' ⟨rfl, hb⟩; have hx := bcall (get6F (by assumption)) hb; clear hb) | (go_at_call 30; (with_reducible refine (CR1.out _).mono ?_); rintro e w' ⟨rfl, hb⟩; have hx := bcall (get6F (by assumption)) hb; clear hb) | (go_at_call 30; (with_reducible refine (CR2.out _).mono ?_); rintro e w' ⟨rfl, hb⟩; have hx := bcall (get6F (by assumption)) hb; clear hb)))
  all_goals go_wp2_with fail
  all_goals go_ret
  all_goals exact ⟨rfl, bcall HW hx⟩
end Go.Proofs.YtinnlahmlepeeaaDoor
