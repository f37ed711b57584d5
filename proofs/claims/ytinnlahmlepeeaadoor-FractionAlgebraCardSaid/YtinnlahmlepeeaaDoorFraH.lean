/- Contracts: the quotient, the floor, rounding. -/
import Derived.Test.YtinnlahmlepeeaaDoorFraG
namespace Go.Proofs.YtinnlahmlepeeaaDoor
open Go.RowKit
theorem whole_any (n : Int) (w : World) : Calls Tryd.prog 56 #[.int .i64 n] w fun e w' => e = .returned (.agg #[.int .i64 n, .int .i64 1]) ∧ Below w.heap.size w w' := by
  go_enter Tryd.func56, Tryd.ntmps56
  go_wp2_with fail
  refine bodyPost_ret (v := .agg #[.int .i64 n, .int .i64 1]) ?_ rfl ⟨rfl, ?_⟩
  · simp [results, Tryd.results56, go_sem, go_sem]
  · have hBB := (bnew (Below.refl _ w) (.cells #[.int .i64 n, .int .i64 1] 23))
    repeat' first | (with_reducible assumption) | (with_reducible exact Nat.le_refl _) | (with_reducible refine setB ?_ ?_) | (with_reducible refine Below.drew ?_) | (with_reducible refine bnew ?_ _) | omega
theorem negated_any (a : F2) (h : -9223372036854775808 < a.1) (h' : a.1 < 9223372036854775808) (w : World) : Calls Tryd.prog 52 #[.agg #[.int .i64 a.1, .int .i64 a.2]] w fun e w' => e = .returned (.agg #[.int .i64 (-a.1), .int .i64 a.2]) ∧ Below w.heap.size w w' := by
  have e1 : wrap64 (-a.1) = -a.1 := by unfold wrap64; omega
  obtain ⟨a1, a2⟩ := a
  dsimp only at *
  go_enter Tryd.func52, Tryd.ntmps52
  go_wp2_with fail
  refine bodyPost_ret (v := .agg #[.int .i64 (-a1), .int .i64 a2]) ?_ rfl ⟨rfl, ?_⟩
  · simp [results, Tryd.results52, go_sem, go_sem]
  · have hBB := (bnew (bnew (Below.refl _ w) (.cells #[.int .i64 a1, .int .i64 a2] 23)) (.cells #[.int .i64 (-a1), .int .i64 a2] 23))
    repeat' first | (with_reducible assumption) | (with_reducible exact Nat.le_refl _) | (with_reducible refine setB ?_ ?_) | (with_reducible refine Below.drew ?_) | (with_reducible refine bnew ?_ _) | omega
def divR (a b : F2) : F2 × Int := if validF b && !(b.1 == 0) then mulR a (if b.1 < 0 then (-b.2, -b.1) else (b.2, b.1)) else ((0, 0), 1)
set_option maxHeartbeats 1000000 in
theorem div_any (a b : F2) (ha : In64 a.1 ∧ In64 a.2) (hb : In64 b.1 ∧ In64 b.2) (w : World) : Calls Tryd.prog 19 #[.agg #[.int .i64 a.1, .int .i64 a.2], .agg #[.int .i64 b.1, .int .i64 b.2]] w fun e w' =>
    e = .returned (.tuple #[.agg #[.int .i64 (divR a b).1.1, .int .i64 (divR a b).1.2], .int .i64 (divR a b).2]) ∧ Below w.heap.size w w' := by
  have VB : Hid (∀ w, Calls Tryd.prog 14 #[.agg #[.int .i64 b.1, .int .i64 b.2]] w fun e w' => e = .returned (.bool (validF b)) ∧ Below w.heap.size w w') := Lib.hid fun w => valid_any b hb.1 hb.2 w
  rcases h2 : validF b with _ | _
  · rw [show divR a b = ((0, 0), 1) by unfold divR; rw [h2]; rfl]
    rw [h2] at VB
    clear h2 ha hb
    obtain ⟨a1, a2⟩ := a
    obtain ⟨b1, b2⟩ := b
    dsimp only at *
    go_enter Tryd.func19, Tryd.ntmps19
    go_wp2_with fail
    (with_reducible refine (VB.out _).mono ?_)
    rintro e w1 ⟨rfl, hb⟩
    have H2 := Lib.hid ((((OwnC.new w #[.int .i64 a1, .int .i64 a2] 23).old (.cells #[.int .i64 b1, .int .i64 b2] 23)).old (.cells #[.int .i64 0, .int .i64 0] 23)).below hb)
    have H3 := Lib.hid (((OwnC.new2 w (.cells #[.int .i64 a1, .int .i64 a2] 23) #[.int .i64 b1, .int .i64 b2] 23).old (.cells #[.int .i64 0, .int .i64 0] 23)).below hb)
    have H4 := Lib.hid ((OwnC.new3 w (.cells #[.int .i64 a1, .int .i64 a2] 23) (.cells #[.int .i64 b1, .int .i64 b2] 23) #[.int .i64 0, .int .i64 0] 23).below hb)
    have hb5 := bcall (bnew (bnew (bnew (Below.refl _ w) (.cells #[.int .i64 a1, .int .i64 a2] 23)) (.cells #[.int .i64 b1, .int .i64 b2] 23)) (.cells #[.int .i64 0, .int .i64 0] 23)) hb
    clear hb
    obtain ⟨⟨c6, c7⟩, ⟨c8, c9⟩, c10⟩ := H4.out.two
    go_wp2_with fail
    refine bodyPost_ret (v := .tuple #[.agg #[.int .i64 0, .int .i64 0], .int .i64 1]) ?_ rfl ⟨rfl, ?_⟩
    · simp [results, Tryd.results19, go_sem, *]
    · have hBB := hb5
      clear c6 c7 c8 c9 c10
      repeat' first | (with_reducible assumption) | (with_reducible exact Nat.le_refl _) | (with_reducible refine setB ?_ ?_) | (with_reducible refine Below.drew ?_) | (with_reducible refine bnew ?_ _) | omega
  · obtain ⟨b3, b4, b5, b6, b7⟩ := (validF_iff b).1 h2
    rcases h3 : (b.1 == 0) with _ | _
    · by_cases h4 : b.1 < 0
      · have hd : divR a b = mulR a (-b.2, -b.1) := by unfold divR; rw [h2, h3, if_pos h4]; rfl
        rw [hd]
        rw [h2] at VB
        have d4 : decide (b.1 < 0) = true := by simpa using h4
        have CM : Hid (∀ w, Calls Tryd.prog 18 #[.agg #[.int .i64 a.1, .int .i64 a.2], .agg #[.int .i64 (-b.2), .int .i64 (-b.1)]] w fun e w' => e = .returned (.tuple #[.agg #[.int .i64 (mulR a (-b.2, -b.1)).1.1, .int .i64 (mulR a (-b.2, -b.1)).1.2], .int .i64 (mulR a (-b.2, -b.1)).2]) ∧ Below w.heap.size w w') := Lib.hid fun w => mul_any a (-b.2, -b.1) ha (by constructor <;> (show In64 _) <;> (unfold In64; dsimp only; omega)) w
        have e1 : wrap64 (-b.1) = -b.1 := by unfold wrap64; omega
        have e2 : wrap64 (-b.2) = -b.2 := by unfold wrap64; omega
        generalize mulR a (-b.2, -b.1) = q at *
        clear hd h2 h4 ha hb b3 b4 b5 b6 b7
        obtain ⟨a1, a2⟩ := a
        obtain ⟨b1, b2⟩ := b
        dsimp only at *
        go_enter Tryd.func19, Tryd.ntmps19
        go_wp2_with fail
        (with_reducible refine (VB.out _).mono ?_)
        rintro e w26 ⟨rfl, hb⟩
        have H27 := Lib.hid ((((OwnC.new w #[.int .i64 a1, .int .i64 a2] 23).old (.cells #[.int .i64 b1, .int .i64 b2] 23)).old (.cells #[.int .i64 0, .int .i64 0] 23)).below hb)
        have H28 := Lib.hid (((OwnC.new2 w (.cells #[.int .i64 a1, .int .i64 a2] 23) #[.int .i64 b1, .int .i64 b2] 23).old (.cells #[.int .i64 0, .int .i64 0] 23)).below hb)
        have H29 := Lib.hid ((OwnC.new3 w (.cells #[.int .i64 a1, .int .i64 a2] 23) (.cells #[.int .i64 b1, .int .i64 b2] 23) #[.int .i64 0, .int .i64 0] 23).below hb)
        have hb30 := bcall (bnew (bnew (bnew (Below.refl _ w) (.cells #[.int .i64 a1, .int .i64 a2] 23)) (.cells #[.int .i64 b1, .int .i64 b2] 23)) (.cells #[.int .i64 0, .int .i64 0] 23)) hb
        clear hb
        obtain ⟨⟨c31, c32⟩, ⟨c33, c34⟩, c35⟩ := H27.out.two
        obtain ⟨⟨c36, c37⟩, ⟨c38, c39⟩, c40⟩ := H28.out.two
        go_wp2_with fail
        (with_reducible refine (CM.out _).mono ?_)
        rintro e w41 ⟨rfl, hb⟩
        have H42 := Lib.hid ((H27.out).below hb)
        have H43 := Lib.hid ((H28.out).below hb)
        have H44 := Lib.hid ((H29.out).below hb)
        have hb45 := bcall hb30 hb
        clear hb hb30 H27 H28 H29 c31 c32 c33 c34 c35 c36 c37 c38 c39 c40
        obtain ⟨⟨c46, c47⟩, ⟨c48, c49⟩, c50⟩ := H44.out.two
        go_wp2_with fail
        refine bodyPost_ret (v := .tuple #[.agg #[.int .i64 q.1.1, .int .i64 q.1.2], .int .i64 q.2]) ?_ rfl ⟨rfl, ?_⟩
        · simp [results, Tryd.results19, go_sem, *]
        · have hBB := hb45
          clear c46 c47 c48 c49 c50
          repeat' first | (with_reducible assumption) | (with_reducible exact Nat.le_refl _) | (with_reducible refine setB ?_ ?_) | (with_reducible refine Below.drew ?_) | (with_reducible refine bnew ?_ _) | omega
      · have hd : divR a b = mulR a (b.2, b.1) := by unfold divR; rw [h2, h3, if_neg h4]; rfl
        rw [hd]
        rw [h2] at VB
        have d4 : decide (b.1 < 0) = false := by simpa using h4
        have CM : Hid (∀ w, Calls Tryd.prog 18 #[.agg #[.int .i64 a.1, .int .i64 a.2], .agg #[.int .i64 b.2, .int .i64 b.1]] w fun e w' => e = .returned (.tuple #[.agg #[.int .i64 (mulR a (b.2, b.1)).1.1, .int .i64 (mulR a (b.2, b.1)).1.2], .int .i64 (mulR a (b.2, b.1)).2]) ∧ Below w.heap.size w w') := Lib.hid fun w => mul_any a (b.2, b.1) ha (by constructor <;> (show In64 _) <;> (unfold In64; dsimp only; omega)) w
        generalize mulR a (b.2, b.1) = q at *
        clear hd h2 h4 ha hb b3 b4 b5 b6 b7
        obtain ⟨a1, a2⟩ := a
        obtain ⟨b1, b2⟩ := b
        dsimp only at *
        go_enter Tryd.func19, Tryd.ntmps19
        go_wp2_with fail
        (with_reducible refine (VB.out _).mono ?_)
        rintro e w51 ⟨rfl, hb⟩
        have H52 := Lib.hid ((((OwnC.new w #[.int .i64 a1, .int .i64 a2] 23).old (.cells #[.int .i64 b1, .int .i64 b2] 23)).old (.cells #[.int .i64 0, .int .i64 0] 23)).below hb)
        have H53 := Lib.hid (((OwnC.new2 w (.cells #[.int .i64 a1, .int .i64 a2] 23) #[.int .i64 b1, .int .i64 b2] 23).old (.cells #[.int .i64 0, .int .i64 0] 23)).below hb)
        have H54 := Lib.hid ((OwnC.new3 w (.cells #[.int .i64 a1, .int .i64 a2] 23) (.cells #[.int .i64 b1, .int .i64 b2] 23) #[.int .i64 0, .int .i64 0] 23).below hb)
        have hb55 := bcall (bnew (bnew (bnew (Below.refl _ w) (.cells #[.int .i64 a1, .int .i64 a2] 23)) (.cells #[.int .i64 b1, .int .i64 b2] 23)) (.cells #[.int .i64 0, .int .i64 0] 23)) hb
        clear hb
        obtain ⟨⟨c56, c57⟩, ⟨c58, c59⟩, c60⟩ := H52.out.two
        obtain ⟨⟨c61, c62⟩, ⟨c63, c64⟩, c65⟩ := H53.out.two
        go_wp2_with fail
        (with_reducible refine (CM.out _).mono ?_)
        rintro e w66 ⟨rfl, hb⟩
        have H67 := Lib.hid ((H52.out).below hb)
        have H68 := Lib.hid ((H53.out).below hb)
        have H69 := Lib.hid ((H54.out).below hb)
        have hb70 := bcall hb55 hb
        clear hb hb55 H52 H53 H54 c56 c57 c58 c59 c60 c61 c62 c63 c64 c65
        obtain ⟨⟨c71, c72⟩, ⟨c73, c74⟩, c75⟩ := H69.out.two
        go_wp2_with fail
        refine bodyPost_ret (v := .tuple #[.agg #[.int .i64 q.1.1, .int .i64 q.1.2], .int .i64 q.2]) ?_ rfl ⟨rfl, ?_⟩
        · simp [results, Tryd.results19, go_sem, *]
        · have hBB := hb70
          clear c71 c72 c73 c74 c75
          repeat' first | (with_reducible assumption) | (with_reducible exact Nat.le_refl _) | (with_reducible refine setB ?_ ?_) | (with_reducible refine Below.drew ?_) | (with_reducible refine bnew ?_ _) | omega
    · rw [show divR a b = ((0, 0), 1) by unfold divR; rw [h2, h3]; rfl]
      rw [h2] at VB
      clear h2 ha hb b3 b4 b5 b6 b7
      obtain ⟨a1, a2⟩ := a
      obtain ⟨b1, b2⟩ := b
      dsimp only at *
      go_enter Tryd.func19, Tryd.ntmps19
      go_wp2_with fail
      (with_reducible refine (VB.out _).mono ?_)
      rintro e w11 ⟨rfl, hb⟩
      have H12 := Lib.hid ((((OwnC.new w #[.int .i64 a1, .int .i64 a2] 23).old (.cells #[.int .i64 b1, .int .i64 b2] 23)).old (.cells #[.int .i64 0, .int .i64 0] 23)).below hb)
      have H13 := Lib.hid (((OwnC.new2 w (.cells #[.int .i64 a1, .int .i64 a2] 23) #[.int .i64 b1, .int .i64 b2] 23).old (.cells #[.int .i64 0, .int .i64 0] 23)).below hb)
      have H14 := Lib.hid ((OwnC.new3 w (.cells #[.int .i64 a1, .int .i64 a2] 23) (.cells #[.int .i64 b1, .int .i64 b2] 23) #[.int .i64 0, .int .i64 0] 23).below hb)
      have hb15 := bcall (bnew (bnew (bnew (Below.refl _ w) (.cells #[.int .i64 a1, .int .i64 a2] 23)) (.cells #[.int .i64 b1, .int .i64 b2] 23)) (.cells #[.int .i64 0, .int .i64 0] 23)) hb
      clear hb
      obtain ⟨⟨c16, c17⟩, ⟨c18, c19⟩, c20⟩ := H13.out.two
      obtain ⟨⟨c21, c22⟩, ⟨c23, c24⟩, c25⟩ := H14.out.two
      go_wp2_with fail
      refine bodyPost_ret (v := .tuple #[.agg #[.int .i64 0, .int .i64 0], .int .i64 1]) ?_ rfl ⟨rfl, ?_⟩
      · simp [results, Tryd.results19, go_sem, *]
      · have hBB := hb15
        clear c16 c17 c18 c19 c20 c21 c22 c23 c24 c25
        repeat' first | (with_reducible assumption) | (with_reducible exact Nat.le_refl _) | (with_reducible refine setB ?_ ?_) | (with_reducible refine Below.drew ?_) | (with_reducible refine bnew ?_ _) | omega
def floorR (a : F2) : Int := if validF a then a.1 / a.2 else 0
theorem floor_of {n d : Int} (hd : 0 < d) : (n.tmod d < 0 → n.tdiv d - 1 = n / d) ∧ (¬ n.tmod d < 0 → n.tdiv d = n / d) := by
  have h1 := Int.tdiv_mul_add_tmod n d
  have h2 := Int.ediv_mul_add_emod n d
  have h3 := Int.emod_nonneg n (show d ≠ 0 by omega)
  have h4 := Int.emod_lt_of_pos n hd
  have h5 := Int.tmod_lt_of_pos n hd
  have h6 : -d < n.tmod d := by
    have e : (n.tmod d).natAbs = n.natAbs % d.natAbs := Int.natAbs_tmod n d
    have := Nat.mod_lt n.natAbs (show 0 < d.natAbs by omega)
    omega
  constructor
  · intro h
    have : d * (n.tdiv d - 1 - n / d) = n % d - n.tmod d - d := by grind
    have hk : n.tdiv d - 1 - n / d = 0 := by
      rcases Int.lt_trichotomy (n.tdiv d - 1 - n / d) 0 with hx | hx | hx
      · have := Int.mul_le_mul_of_nonneg_left (show n.tdiv d - 1 - n / d ≤ -1 by omega) (Int.le_of_lt hd); omega
      · exact hx
      · have := Int.mul_le_mul_of_nonneg_left (show 1 ≤ n.tdiv d - 1 - n / d by omega) (Int.le_of_lt hd); omega
    omega
  · intro h
    have : d * (n.tdiv d - n / d) = n % d - n.tmod d := by grind
    have hk : n.tdiv d - n / d = 0 := by
      rcases Int.lt_trichotomy (n.tdiv d - n / d) 0 with hx | hx | hx
      · have := Int.mul_le_mul_of_nonneg_left (show n.tdiv d - n / d ≤ -1 by omega) (Int.le_of_lt hd); omega
      · exact hx
      · have := Int.mul_le_mul_of_nonneg_left (show 1 ≤ n.tdiv d - n / d by omega) (Int.le_of_lt hd); omega
    omega
theorem floor_any (a : F2) (ha : In64 a.1 ∧ In64 a.2) (w : World) : Calls Tryd.prog 29 #[.agg #[.int .i64 a.1, .int .i64 a.2]] w fun e w' => e = .returned (.int .i64 (floorR a)) ∧ Below w.heap.size w w' := by
  have VA : Hid (∀ w, Calls Tryd.prog 14 #[.agg #[.int .i64 a.1, .int .i64 a.2]] w fun e w' => e = .returned (.bool (validF a)) ∧ Below w.heap.size w w') := Lib.hid fun w => valid_any a ha.1 ha.2 w
  rcases h1 : validF a with _ | _
  · rw [show floorR a = 0 by unfold floorR; rw [h1]; rfl]
    rw [h1] at VA
    clear h1 ha
    obtain ⟨a1, a2⟩ := a
    dsimp only at *
    go_enter Tryd.func29, Tryd.ntmps29
    go_wp2_with fail
    (with_reducible refine (VA.out _).mono ?_)
    rintro e w76 ⟨rfl, hb⟩
    have H77 := Lib.hid ((OwnC.new w #[.int .i64 a1, .int .i64 a2] 23).below hb)
    have hb78 := bcall (bnew (Below.refl _ w) (.cells #[.int .i64 a1, .int .i64 a2] 23)) hb
    clear hb
    go_wp2_with fail
    go_ret
    exact ⟨rfl, hb78⟩
  · rw [show floorR a = a.1 / a.2 by unfold floorR; rw [h1]; rfl]
    rw [h1] at VA
    obtain ⟨a3, a4, a5, a6, a7⟩ := (validF_iff a).1 h1
    obtain ⟨a1, a2⟩ := a
    dsimp only at *
    have K := floor_of (n := a1) (d := a2) (by omega)
    have hq : (a1.tdiv a2).natAbs ≤ a1.natAbs := by rw [Int.natAbs_tdiv]; exact Nat.div_le_self _ _
    have w1 : IntKind.i64.wrap (a1.tdiv a2) = a1.tdiv a2 := by rw [IntKind.wrap_i64]; omega
    have w2 : IntKind.i64.wrap (a1.tdiv a2 - 1) = a1.tdiv a2 - 1 := by rw [IntKind.wrap_i64]; omega
    have dz : a2 ≠ 0 := by omega
    have dm : a2 ≠ -1 := by omega
    generalize a1 / a2 = fl at *
    have KK := Lib.hid K
    clear K hq a7 h1 a3 a4 a5 a6 ha
    by_cases hm : a1.tmod a2 < 0
    · have dd : decide (a1.tmod a2 < 0) = true := by simpa using hm
      have HE := Lib.hid (KK.out.1 hm)
      clear hm
      go_enter Tryd.func29, Tryd.ntmps29
      go_wp2_with fail
      (with_reducible refine (VA.out _).mono ?_)
      rintro e w79 ⟨rfl, hb⟩
      have H80 := Lib.hid ((OwnC.new w #[.int .i64 a1, .int .i64 a2] 23).below hb)
      have hb81 := bcall (bnew (Below.refl _ w) (.cells #[.int .i64 a1, .int .i64 a2] 23)) hb
      clear hb
      obtain ⟨⟨c82, c83⟩, ⟨c84, c85⟩, c86⟩ := H80.out.two
      go_wp2_with fail
      go_ret
      exact ⟨ret_int HE.out, hb81⟩
    · have dd : decide (a1.tmod a2 < 0) = false := by simpa using hm
      have HE := Lib.hid (KK.out.2 hm)
      have hm' : 0 ≤ a1.tmod a2 := by omega
      clear hm
      go_enter Tryd.func29, Tryd.ntmps29
      go_wp2_with fail
      (with_reducible refine (VA.out _).mono ?_)
      rintro e w87 ⟨rfl, hb⟩
      have H88 := Lib.hid ((OwnC.new w #[.int .i64 a1, .int .i64 a2] 23).below hb)
      have hb89 := bcall (bnew (Below.refl _ w) (.cells #[.int .i64 a1, .int .i64 a2] 23)) hb
      clear hb
      obtain ⟨⟨c90, c91⟩, ⟨c92, c93⟩, c94⟩ := H88.out.two
      go_wp2_with fail
      go_ret
      exact ⟨ret_int HE.out, hb89⟩
end Go.Proofs.YtinnlahmlepeeaaDoor
