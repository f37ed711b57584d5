/- The walk of FractionOperates. -/
import Derived.Test.YtinnlahmlepeeaaDoorFraDr
import Derived.Test.YtinnlahmlepeeaaDoorFraCw
import Derived.RegionTactic
namespace Go.Proofs.YtinnlahmlepeeaaDoor
open Go.RowKit
set_option maxHeartbeats 8000000 in
set_option maxRecDepth 100000 in
theorem fop_walk (a b : F2) (ha : In64 a.1 ∧ In64 a.2) (hb : In64 b.1 ∧ In64 b.2) (w : World) (he : Env w) :
    Calls Tryd.prog 4 #[.agg #[.int .i64 a.1, .int .i64 a.2], .agg #[.int .i64 b.1, .int .i64 b.2]] w fun e w' => e = .returned (.bool true) ∧ Below w.heap.size w w' := by
  have CA : Hid (∀ w, Calls Tryd.prog 16 #[.agg #[.int .i64 a.1, .int .i64 a.2], .agg #[.int .i64 b.1, .int .i64 b.2]] w fun e w' => e = .returned (.tuple #[.agg #[.int .i64 (addR a b).1.1, .int .i64 (addR a b).1.2], .int .i64 (addR a b).2]) ∧ Below w.heap.size w w') := Lib.hid fun w => add_any a b ha hb w
  have CS : Hid (∀ w, Calls Tryd.prog 17 #[.agg #[.int .i64 a.1, .int .i64 a.2], .agg #[.int .i64 b.1, .int .i64 b.2]] w fun e w' => e = .returned (.tuple #[.agg #[.int .i64 (subR a b).1.1, .int .i64 (subR a b).1.2], .int .i64 (subR a b).2]) ∧ Below w.heap.size w w') := Lib.hid fun w => sub_any a b ha hb w
  have CM : Hid (∀ w, Calls Tryd.prog 18 #[.agg #[.int .i64 a.1, .int .i64 a.2], .agg #[.int .i64 b.1, .int .i64 b.2]] w fun e w' => e = .returned (.tuple #[.agg #[.int .i64 (mulR a b).1.1, .int .i64 (mulR a b).1.2], .int .i64 (mulR a b).2]) ∧ Below w.heap.size w w') := Lib.hid fun w => mul_any a b ha hb w
  have CD : Hid (∀ w, Calls Tryd.prog 19 #[.agg #[.int .i64 a.1, .int .i64 a.2], .agg #[.int .i64 b.1, .int .i64 b.2]] w fun e w' => e = .returned (.tuple #[.agg #[.int .i64 (divR a b).1.1, .int .i64 (divR a b).1.2], .int .i64 (divR a b).2]) ∧ Below w.heap.size w w') := Lib.hid fun w => div_any a b ha hb w
  have TW : Hid (∀ w, Calls Tryd.prog 20 #[.agg #[.int .i64 a.1, .int .i64 a.2], .agg #[.int .i64 b.1, .int .i64 b.2]] w fun e w' => e = .returned (.bool (validF a && validF b)) ∧ Below w.heap.size w w') := Lib.hid fun w => two_any a b ha hb w
  have CE : Hid (∀ w, Env w → Calls Tryd.prog 13 #[] w fun e w' => e = .returned (.bool true) ∧ Below w.heap.size w w') := Lib.hid fun w he => awake_any w he
  have EV := Lib.hid he
  have eq : ∀ (x y : Int) w, (binOp .eql 23 (.agg #[.int .i64 x, .int .i64 y]) (.agg #[.int .i64 x, .int .i64 y])).run Tryd.prog w = .ok (.bool true) w := fun x y w => by have := eqF (x, y) (x, y) w; rwa [decide_eq_true rfl] at this
  rcases hv : (validF a && validF b) with _ | _
  · rw [hv] at TW
    rw [show addR a b = ((0, 0), 1) by unfold addR; rw [hv]; rfl] at CA
    rw [show subR a b = ((0, 0), 1) by unfold subR; rw [hv]; rfl] at CS
    rw [show mulR a b = ((0, 0), 1) by unfold mulR; rw [hv]; rfl] at CM
    rw [show divR a b = ((0, 0), 1) by
      unfold divR
      by_cases hc : (validF b && !(b.1 == 0)) = true
      · rw [if_pos hc]
        have h2 : validF b = true := by simp at hc; exact hc.1
        have h1 : validF a = false := by rw [h2, Bool.and_true] at hv; exact hv
        unfold mulR
        rw [h1]; rfl
      · rw [if_neg hc]] at CD
    clear hv ha hb
    have e0 := eq 0 0
    clear eq
    obtain ⟨a1, a2⟩ := a
    obtain ⟨b1, b2⟩ := b
    dsimp only at *
    go_enter Tryd.func4, Tryd.ntmps4
    go_wp2_with fail
    (with_reducible refine (CA.out _).mono ?_)
    rintro e w1 ⟨rfl, hb⟩
    have H2 := Lib.hid (((OwnC.new w #[.int .i64 a1, .int .i64 a2] 23).old (.cells #[.int .i64 b1, .int .i64 b2] 23)).below hb)
    have H3 := Lib.hid ((OwnC.new2 w (.cells #[.int .i64 a1, .int .i64 a2] 23) #[.int .i64 b1, .int .i64 b2] 23).below hb)
    have hb4 := bcall (bnew (bnew (Below.refl _ w) (.cells #[.int .i64 a1, .int .i64 a2] 23)) (.cells #[.int .i64 b1, .int .i64 b2] 23)) hb
    clear hb
    obtain ⟨⟨c5, c6⟩, ⟨c7, c8⟩, c9⟩ := H2.out.two
    obtain ⟨⟨c10, c11⟩, ⟨c12, c13⟩, c14⟩ := H3.out.two
    go_wp2_with fail
    (with_reducible refine (CS.out _).mono ?_)
    rintro e w15 ⟨rfl, hb⟩
    have H16 := Lib.hid (((H2.out).old (.cells #[.int .i64 0, .int .i64 0] 23)).below hb)
    have H17 := Lib.hid (((H3.out).old (.cells #[.int .i64 0, .int .i64 0] 23)).below hb)
    have H18 := Lib.hid ((OwnC.new w1 #[.int .i64 0, .int .i64 0] 23).below hb)
    have hb19 := bcall (bnew hb4 (.cells #[.int .i64 0, .int .i64 0] 23)) hb
    clear hb hb4 H2 H3 c5 c6 c7 c8 c9 c10 c11 c12 c13 c14
    obtain ⟨⟨c20, c21⟩, ⟨c22, c23⟩, c24⟩ := H16.out.two
    obtain ⟨⟨c25, c26⟩, ⟨c27, c28⟩, c29⟩ := H17.out.two
    go_wp2_with fail
    (with_reducible refine (CM.out _).mono ?_)
    rintro e w30 ⟨rfl, hb⟩
    have H31 := Lib.hid (((H16.out).old (.cells #[.int .i64 0, .int .i64 0] 23)).below hb)
    have H32 := Lib.hid (((H17.out).old (.cells #[.int .i64 0, .int .i64 0] 23)).below hb)
    have H33 := Lib.hid (((H18.out).old (.cells #[.int .i64 0, .int .i64 0] 23)).below hb)
    have H34 := Lib.hid ((OwnC.new w15 #[.int .i64 0, .int .i64 0] 23).below hb)
    have hb35 := bcall (bnew hb19 (.cells #[.int .i64 0, .int .i64 0] 23)) hb
    clear hb hb19 H16 H17 H18 c20 c21 c22 c23 c24 c25 c26 c27 c28 c29
    obtain ⟨⟨c36, c37⟩, ⟨c38, c39⟩, c40⟩ := H31.out.two
    obtain ⟨⟨c41, c42⟩, ⟨c43, c44⟩, c45⟩ := H32.out.two
    go_wp2_with fail
    (with_reducible refine (CD.out _).mono ?_)
    rintro e w46 ⟨rfl, hb⟩
    have H47 := Lib.hid (((H31.out).old (.cells #[.int .i64 0, .int .i64 0] 23)).below hb)
    have H48 := Lib.hid (((H32.out).old (.cells #[.int .i64 0, .int .i64 0] 23)).below hb)
    have H49 := Lib.hid (((H33.out).old (.cells #[.int .i64 0, .int .i64 0] 23)).below hb)
    have H50 := Lib.hid (((H34.out).old (.cells #[.int .i64 0, .int .i64 0] 23)).below hb)
    have H51 := Lib.hid ((OwnC.new w30 #[.int .i64 0, .int .i64 0] 23).below hb)
    have hb52 := bcall (bnew hb35 (.cells #[.int .i64 0, .int .i64 0] 23)) hb
    clear hb hb35 H31 H32 H33 H34 c36 c37 c38 c39 c40 c41 c42 c43 c44 c45
    obtain ⟨⟨c53, c54⟩, ⟨c55, c56⟩, c57⟩ := H47.out.two
    obtain ⟨⟨c58, c59⟩, ⟨c60, c61⟩, c62⟩ := H48.out.two
    go_wp2_with fail
    (with_reducible refine (TW.out _).mono ?_)
    rintro e w63 ⟨rfl, hb⟩
    have H64 := Lib.hid ((((H47.out).old (.cells #[.int .i64 0, .int .i64 0] 23)).old (.cells #[.int .i64 0, .int .i64 0] 23)).below hb)
    have H65 := Lib.hid ((((H48.out).old (.cells #[.int .i64 0, .int .i64 0] 23)).old (.cells #[.int .i64 0, .int .i64 0] 23)).below hb)
    have H66 := Lib.hid ((((H49.out).old (.cells #[.int .i64 0, .int .i64 0] 23)).old (.cells #[.int .i64 0, .int .i64 0] 23)).below hb)
    have H67 := Lib.hid ((((H50.out).old (.cells #[.int .i64 0, .int .i64 0] 23)).old (.cells #[.int .i64 0, .int .i64 0] 23)).below hb)
    have H68 := Lib.hid ((((H51.out).old (.cells #[.int .i64 0, .int .i64 0] 23)).old (.cells #[.int .i64 0, .int .i64 0] 23)).below hb)
    have H69 := Lib.hid (((OwnC.new w46 #[.int .i64 0, .int .i64 0] 23).old (.cells #[.int .i64 0, .int .i64 0] 23)).below hb)
    have H70 := Lib.hid ((OwnC.new2 w46 (.cells #[.int .i64 0, .int .i64 0] 23) #[.int .i64 0, .int .i64 0] 23).below hb)
    have hb71 := bcall (bnew (bnew hb52 (.cells #[.int .i64 0, .int .i64 0] 23)) (.cells #[.int .i64 0, .int .i64 0] 23)) hb
    clear hb hb52 H47 H48 H49 H50 H51 c53 c54 c55 c56 c57 c58 c59 c60 c61 c62
    go_wp2_with fail
    have EVn := Lib.hid (EV.out.below hb71)
    (with_reducible refine (CE.out _ EVn.out).mono ?_)
    rintro e w72 ⟨rfl, hb⟩
    have H73 := Lib.hid ((H64.out).below hb)
    have H74 := Lib.hid ((H65.out).below hb)
    have H75 := Lib.hid ((H66.out).below hb)
    have H76 := Lib.hid ((H67.out).below hb)
    have H77 := Lib.hid ((H68.out).below hb)
    have H78 := Lib.hid ((H69.out).below hb)
    have H79 := Lib.hid ((H70.out).below hb)
    have hb80 := bcall hb71 hb
    clear hb hb71 H64 H65 H66 H67 H68 H69 H70
    clear EVn
    obtain ⟨⟨c81, c82⟩, ⟨c83, c84⟩, c85⟩ := H75.out.two
    obtain ⟨⟨c86, c87⟩, ⟨c88, c89⟩, c90⟩ := H76.out.two
    obtain ⟨⟨c91, c92⟩, ⟨c93, c94⟩, c95⟩ := H77.out.two
    obtain ⟨⟨c96, c97⟩, ⟨c98, c99⟩, c100⟩ := H78.out.two
    obtain ⟨⟨c101, c102⟩, ⟨c103, c104⟩, c105⟩ := H79.out.two
    go_wp2_with fail
    go_ret
    exact ⟨rfl, hb80⟩
  · have h1 : validF a = true := by simp at hv; exact hv.1
    have h2 : validF b = true := by simp at hv; exact hv.2
    rw [hv] at TW
    have RA : Hid (∀ w, Calls Tryd.prog 21 #[.agg #[.int .i64 a.1, .int .i64 a.2], .agg #[.int .i64 b.1, .int .i64 b.2]] w fun e w' => e = .returned (.tuple #[.agg #[.int .i64 (addR a b).1.1, .int .i64 (addR a b).1.2], .int .i64 (addR a b).2]) ∧ Below w.heap.size w w') := Lib.hid fun w => radd_any a b h1 h2 w
    have RS : Hid (∀ w, Calls Tryd.prog 22 #[.agg #[.int .i64 a.1, .int .i64 a.2], .agg #[.int .i64 b.1, .int .i64 b.2]] w fun e w' => e = .returned (.tuple #[.agg #[.int .i64 (subR a b).1.1, .int .i64 (subR a b).1.2], .int .i64 (subR a b).2]) ∧ Below w.heap.size w w') := Lib.hid fun w => rsub_any a b h1 h2 w
    have RM : Hid (∀ w, Calls Tryd.prog 23 #[.agg #[.int .i64 a.1, .int .i64 a.2], .agg #[.int .i64 b.1, .int .i64 b.2]] w fun e w' => e = .returned (.tuple #[.agg #[.int .i64 (mulR a b).1.1, .int .i64 (mulR a b).1.2], .int .i64 (mulR a b).2]) ∧ Below w.heap.size w w') := Lib.hid fun w => rmul_any a b h1 h2 w
    have RD : Hid (b.1 ≠ 0 → ∀ w, Calls Tryd.prog 24 #[.agg #[.int .i64 a.1, .int .i64 a.2], .agg #[.int .i64 b.1, .int .i64 b.2]] w fun e w' => e = .returned (.tuple #[.agg #[.int .i64 (divR a b).1.1, .int .i64 (divR a b).1.2], .int .i64 (divR a b).2]) ∧ Below w.heap.size w w') := Lib.hid fun h0 w => rdiv_any a b h1 h2 h0 w
    have HZ : Hid (b.1 = 0 → divR a b = ((0, 0), 1)) := Lib.hid fun h => by unfold divR; rw [h]; simp
    clear hv ha hb h1 h2
    obtain ⟨⟨⟨r1, r2⟩, r3⟩, hR⟩ : ∃ R : F2 × Int, addR a b = R := ⟨_, rfl⟩
    rw [hR] at CA RA
    obtain ⟨⟨⟨s1, s2⟩, s3⟩, hS⟩ : ∃ R : F2 × Int, subR a b = R := ⟨_, rfl⟩
    rw [hS] at CS RS
    obtain ⟨⟨⟨m1, m2⟩, m3⟩, hM⟩ : ∃ R : F2 × Int, mulR a b = R := ⟨_, rfl⟩
    rw [hM] at CM RM
    have e1 := eq r1 r2
    have e2 := eq s1 s2
    have e3 := eq m1 m2
    clear hR hS hM
    by_cases hb0 : b.1 = 0
    · rw [HZ.out hb0] at CD
      have dz : (b.1 == 0) = true := by simpa using hb0
      have e4 := eq 0 0
      clear HZ RD eq hb0
      obtain ⟨a1, a2⟩ := a
      obtain ⟨b1, b2⟩ := b
      dsimp only at *
      go_enter Tryd.func4, Tryd.ntmps4
      go_wp2_with fail
      (with_reducible refine (CA.out _).mono ?_)
      rintro e w106 ⟨rfl, hb⟩
      have H107 := Lib.hid (((OwnC.new w #[.int .i64 a1, .int .i64 a2] 23).old (.cells #[.int .i64 b1, .int .i64 b2] 23)).below hb)
      have H108 := Lib.hid ((OwnC.new2 w (.cells #[.int .i64 a1, .int .i64 a2] 23) #[.int .i64 b1, .int .i64 b2] 23).below hb)
      have hb109 := bcall (bnew (bnew (Below.refl _ w) (.cells #[.int .i64 a1, .int .i64 a2] 23)) (.cells #[.int .i64 b1, .int .i64 b2] 23)) hb
      clear hb
      obtain ⟨⟨c110, c111⟩, ⟨c112, c113⟩, c114⟩ := H107.out.two
      obtain ⟨⟨c115, c116⟩, ⟨c117, c118⟩, c119⟩ := H108.out.two
      go_wp2_with fail
      (with_reducible refine (CS.out _).mono ?_)
      rintro e w120 ⟨rfl, hb⟩
      have H121 := Lib.hid (((H107.out).old (.cells #[.int .i64 r1, .int .i64 r2] 23)).below hb)
      have H122 := Lib.hid (((H108.out).old (.cells #[.int .i64 r1, .int .i64 r2] 23)).below hb)
      have H123 := Lib.hid ((OwnC.new w106 #[.int .i64 r1, .int .i64 r2] 23).below hb)
      have hb124 := bcall (bnew hb109 (.cells #[.int .i64 r1, .int .i64 r2] 23)) hb
      clear hb hb109 H107 H108 c110 c111 c112 c113 c114 c115 c116 c117 c118 c119
      obtain ⟨⟨c125, c126⟩, ⟨c127, c128⟩, c129⟩ := H121.out.two
      obtain ⟨⟨c130, c131⟩, ⟨c132, c133⟩, c134⟩ := H122.out.two
      go_wp2_with fail
      (with_reducible refine (CM.out _).mono ?_)
      rintro e w135 ⟨rfl, hb⟩
      have H136 := Lib.hid (((H121.out).old (.cells #[.int .i64 s1, .int .i64 s2] 23)).below hb)
      have H137 := Lib.hid (((H122.out).old (.cells #[.int .i64 s1, .int .i64 s2] 23)).below hb)
      have H138 := Lib.hid (((H123.out).old (.cells #[.int .i64 s1, .int .i64 s2] 23)).below hb)
      have H139 := Lib.hid ((OwnC.new w120 #[.int .i64 s1, .int .i64 s2] 23).below hb)
      have hb140 := bcall (bnew hb124 (.cells #[.int .i64 s1, .int .i64 s2] 23)) hb
      clear hb hb124 H121 H122 H123 c125 c126 c127 c128 c129 c130 c131 c132 c133 c134
      obtain ⟨⟨c141, c142⟩, ⟨c143, c144⟩, c145⟩ := H136.out.two
      obtain ⟨⟨c146, c147⟩, ⟨c148, c149⟩, c150⟩ := H137.out.two
      go_wp2_with fail
      (with_reducible refine (CD.out _).mono ?_)
      rintro e w151 ⟨rfl, hb⟩
      have H152 := Lib.hid (((H136.out).old (.cells #[.int .i64 m1, .int .i64 m2] 23)).below hb)
      have H153 := Lib.hid (((H137.out).old (.cells #[.int .i64 m1, .int .i64 m2] 23)).below hb)
      have H154 := Lib.hid (((H138.out).old (.cells #[.int .i64 m1, .int .i64 m2] 23)).below hb)
      have H155 := Lib.hid (((H139.out).old (.cells #[.int .i64 m1, .int .i64 m2] 23)).below hb)
      have H156 := Lib.hid ((OwnC.new w135 #[.int .i64 m1, .int .i64 m2] 23).below hb)
      have hb157 := bcall (bnew hb140 (.cells #[.int .i64 m1, .int .i64 m2] 23)) hb
      clear hb hb140 H136 H137 H138 H139 c141 c142 c143 c144 c145 c146 c147 c148 c149 c150
      obtain ⟨⟨c158, c159⟩, ⟨c160, c161⟩, c162⟩ := H152.out.two
      obtain ⟨⟨c163, c164⟩, ⟨c165, c166⟩, c167⟩ := H153.out.two
      go_wp2_with fail
      (with_reducible refine (TW.out _).mono ?_)
      rintro e w168 ⟨rfl, hb⟩
      have H169 := Lib.hid ((((H152.out).old (.cells #[.int .i64 0, .int .i64 0] 23)).old (.cells #[.int .i64 0, .int .i64 0] 23)).below hb)
      have H170 := Lib.hid ((((H153.out).old (.cells #[.int .i64 0, .int .i64 0] 23)).old (.cells #[.int .i64 0, .int .i64 0] 23)).below hb)
      have H171 := Lib.hid ((((H154.out).old (.cells #[.int .i64 0, .int .i64 0] 23)).old (.cells #[.int .i64 0, .int .i64 0] 23)).below hb)
      have H172 := Lib.hid ((((H155.out).old (.cells #[.int .i64 0, .int .i64 0] 23)).old (.cells #[.int .i64 0, .int .i64 0] 23)).below hb)
      have H173 := Lib.hid ((((H156.out).old (.cells #[.int .i64 0, .int .i64 0] 23)).old (.cells #[.int .i64 0, .int .i64 0] 23)).below hb)
      have H174 := Lib.hid (((OwnC.new w151 #[.int .i64 0, .int .i64 0] 23).old (.cells #[.int .i64 0, .int .i64 0] 23)).below hb)
      have H175 := Lib.hid ((OwnC.new2 w151 (.cells #[.int .i64 0, .int .i64 0] 23) #[.int .i64 0, .int .i64 0] 23).below hb)
      have hb176 := bcall (bnew (bnew hb157 (.cells #[.int .i64 0, .int .i64 0] 23)) (.cells #[.int .i64 0, .int .i64 0] 23)) hb
      clear hb hb157 H152 H153 H154 H155 H156 c158 c159 c160 c161 c162 c163 c164 c165 c166 c167
      obtain ⟨⟨c177, c178⟩, ⟨c179, c180⟩, c181⟩ := H169.out.two
      obtain ⟨⟨c182, c183⟩, ⟨c184, c185⟩, c186⟩ := H170.out.two
      go_wp2_with fail
      (with_reducible refine (RA.out _).mono ?_)
      rintro e w187 ⟨rfl, hb⟩
      have H188 := Lib.hid ((H169.out).below hb)
      have H189 := Lib.hid ((H170.out).below hb)
      have H190 := Lib.hid ((H171.out).below hb)
      have H191 := Lib.hid ((H172.out).below hb)
      have H192 := Lib.hid ((H173.out).below hb)
      have H193 := Lib.hid ((H174.out).below hb)
      have H194 := Lib.hid ((H175.out).below hb)
      have hb195 := bcall hb176 hb
      clear hb hb176 H169 H170 H171 H172 H173 H174 H175 c177 c178 c179 c180 c181 c182 c183 c184 c185 c186
      obtain ⟨⟨c196, c197⟩, ⟨c198, c199⟩, c200⟩ := H188.out.two
      obtain ⟨⟨c201, c202⟩, ⟨c203, c204⟩, c205⟩ := H189.out.two
      go_wp2_with fail
      (with_reducible refine (RS.out _).mono ?_)
      rintro e w206 ⟨rfl, hb⟩
      have H207 := Lib.hid (((H188.out).old (.cells #[.int .i64 r1, .int .i64 r2] 23)).below hb)
      have H208 := Lib.hid (((H189.out).old (.cells #[.int .i64 r1, .int .i64 r2] 23)).below hb)
      have H209 := Lib.hid (((H190.out).old (.cells #[.int .i64 r1, .int .i64 r2] 23)).below hb)
      have H210 := Lib.hid (((H191.out).old (.cells #[.int .i64 r1, .int .i64 r2] 23)).below hb)
      have H211 := Lib.hid (((H192.out).old (.cells #[.int .i64 r1, .int .i64 r2] 23)).below hb)
      have H212 := Lib.hid (((H193.out).old (.cells #[.int .i64 r1, .int .i64 r2] 23)).below hb)
      have H213 := Lib.hid (((H194.out).old (.cells #[.int .i64 r1, .int .i64 r2] 23)).below hb)
      have H214 := Lib.hid ((OwnC.new w187 #[.int .i64 r1, .int .i64 r2] 23).below hb)
      have hb215 := bcall (bnew hb195 (.cells #[.int .i64 r1, .int .i64 r2] 23)) hb
      clear hb hb195 H188 H189 H190 H191 H192 H193 H194 c196 c197 c198 c199 c200 c201 c202 c203 c204 c205
      obtain ⟨⟨c216, c217⟩, ⟨c218, c219⟩, c220⟩ := H207.out.two
      obtain ⟨⟨c221, c222⟩, ⟨c223, c224⟩, c225⟩ := H208.out.two
      go_wp2_with fail
      (with_reducible refine (RM.out _).mono ?_)
      rintro e w226 ⟨rfl, hb⟩
      have H227 := Lib.hid (((H207.out).old (.cells #[.int .i64 s1, .int .i64 s2] 23)).below hb)
      have H228 := Lib.hid (((H208.out).old (.cells #[.int .i64 s1, .int .i64 s2] 23)).below hb)
      have H229 := Lib.hid (((H209.out).old (.cells #[.int .i64 s1, .int .i64 s2] 23)).below hb)
      have H230 := Lib.hid (((H210.out).old (.cells #[.int .i64 s1, .int .i64 s2] 23)).below hb)
      have H231 := Lib.hid (((H211.out).old (.cells #[.int .i64 s1, .int .i64 s2] 23)).below hb)
      have H232 := Lib.hid (((H212.out).old (.cells #[.int .i64 s1, .int .i64 s2] 23)).below hb)
      have H233 := Lib.hid (((H213.out).old (.cells #[.int .i64 s1, .int .i64 s2] 23)).below hb)
      have H234 := Lib.hid (((H214.out).old (.cells #[.int .i64 s1, .int .i64 s2] 23)).below hb)
      have H235 := Lib.hid ((OwnC.new w206 #[.int .i64 s1, .int .i64 s2] 23).below hb)
      have hb236 := bcall (bnew hb215 (.cells #[.int .i64 s1, .int .i64 s2] 23)) hb
      clear hb hb215 H207 H208 H209 H210 H211 H212 H213 H214 c216 c217 c218 c219 c220 c221 c222 c223 c224 c225
      obtain ⟨⟨c237, c238⟩, ⟨c239, c240⟩, c241⟩ := H227.out.two
      obtain ⟨⟨c242, c243⟩, ⟨c244, c245⟩, c246⟩ := H228.out.two
      go_wp2_with fail
      have EVn := Lib.hid (EV.out.below (bnew hb236 (.cells #[.int .i64 m1, .int .i64 m2] 23)))
      (with_reducible refine (CE.out _ EVn.out).mono ?_)
      rintro e w247 ⟨rfl, hb⟩
      have H248 := Lib.hid (((H227.out).old (.cells #[.int .i64 m1, .int .i64 m2] 23)).below hb)
      have H249 := Lib.hid (((H228.out).old (.cells #[.int .i64 m1, .int .i64 m2] 23)).below hb)
      have H250 := Lib.hid (((H229.out).old (.cells #[.int .i64 m1, .int .i64 m2] 23)).below hb)
      have H251 := Lib.hid (((H230.out).old (.cells #[.int .i64 m1, .int .i64 m2] 23)).below hb)
      have H252 := Lib.hid (((H231.out).old (.cells #[.int .i64 m1, .int .i64 m2] 23)).below hb)
      have H253 := Lib.hid (((H232.out).old (.cells #[.int .i64 m1, .int .i64 m2] 23)).below hb)
      have H254 := Lib.hid (((H233.out).old (.cells #[.int .i64 m1, .int .i64 m2] 23)).below hb)
      have H255 := Lib.hid (((H234.out).old (.cells #[.int .i64 m1, .int .i64 m2] 23)).below hb)
      have H256 := Lib.hid (((H235.out).old (.cells #[.int .i64 m1, .int .i64 m2] 23)).below hb)
      have H257 := Lib.hid ((OwnC.new w226 #[.int .i64 m1, .int .i64 m2] 23).below hb)
      have hb258 := bcall (bnew hb236 (.cells #[.int .i64 m1, .int .i64 m2] 23)) hb
      clear hb hb236 H227 H228 H229 H230 H231 H232 H233 H234 H235 c237 c238 c239 c240 c241 c242 c243 c244 c245 c246
      clear EVn
      obtain ⟨⟨c259, c260⟩, ⟨c261, c262⟩, c263⟩ := H250.out.two
      obtain ⟨⟨c264, c265⟩, ⟨c266, c267⟩, c268⟩ := H251.out.two
      obtain ⟨⟨c269, c270⟩, ⟨c271, c272⟩, c273⟩ := H252.out.two
      obtain ⟨⟨c274, c275⟩, ⟨c276, c277⟩, c278⟩ := H253.out.two
      obtain ⟨⟨c279, c280⟩, ⟨c281, c282⟩, c283⟩ := H254.out.two
      obtain ⟨⟨c284, c285⟩, ⟨c286, c287⟩, c288⟩ := H255.out.two
      obtain ⟨⟨c289, c290⟩, ⟨c291, c292⟩, c293⟩ := H256.out.two
      obtain ⟨⟨c294, c295⟩, ⟨c296, c297⟩, c298⟩ := H257.out.two
      go_wp2_with fail
      go_ret
      exact ⟨rfl, hb258⟩
    · have CDr := Lib.hid (RD.out hb0)
      have dz : (b.1 == 0) = false := by simpa using hb0
      clear HZ RD hb0
      obtain ⟨⟨⟨d1, d2⟩, d3⟩, hD⟩ : ∃ R : F2 × Int, divR a b = R := ⟨_, rfl⟩
      rw [hD] at CD CDr
      have e4 := eq d1 d2
      clear hD eq
      obtain ⟨a1, a2⟩ := a
      obtain ⟨b1, b2⟩ := b
      dsimp only at *
      go_enter Tryd.func4, Tryd.ntmps4
      go_wp2_with fail
      (with_reducible refine (CA.out _).mono ?_)
      rintro e w299 ⟨rfl, hb⟩
      have H300 := Lib.hid (((OwnC.new w #[.int .i64 a1, .int .i64 a2] 23).old (.cells #[.int .i64 b1, .int .i64 b2] 23)).below hb)
      have H301 := Lib.hid ((OwnC.new2 w (.cells #[.int .i64 a1, .int .i64 a2] 23) #[.int .i64 b1, .int .i64 b2] 23).below hb)
      have hb302 := bcall (bnew (bnew (Below.refl _ w) (.cells #[.int .i64 a1, .int .i64 a2] 23)) (.cells #[.int .i64 b1, .int .i64 b2] 23)) hb
      clear hb
      obtain ⟨⟨c303, c304⟩, ⟨c305, c306⟩, c307⟩ := H300.out.two
      obtain ⟨⟨c308, c309⟩, ⟨c310, c311⟩, c312⟩ := H301.out.two
      go_wp2_with fail
      (with_reducible refine (CS.out _).mono ?_)
      rintro e w313 ⟨rfl, hb⟩
      have H314 := Lib.hid (((H300.out).old (.cells #[.int .i64 r1, .int .i64 r2] 23)).below hb)
      have H315 := Lib.hid (((H301.out).old (.cells #[.int .i64 r1, .int .i64 r2] 23)).below hb)
      have H316 := Lib.hid ((OwnC.new w299 #[.int .i64 r1, .int .i64 r2] 23).below hb)
      have hb317 := bcall (bnew hb302 (.cells #[.int .i64 r1, .int .i64 r2] 23)) hb
      clear hb hb302 H300 H301 c303 c304 c305 c306 c307 c308 c309 c310 c311 c312
      obtain ⟨⟨c318, c319⟩, ⟨c320, c321⟩, c322⟩ := H314.out.two
      obtain ⟨⟨c323, c324⟩, ⟨c325, c326⟩, c327⟩ := H315.out.two
      go_wp2_with fail
      (with_reducible refine (CM.out _).mono ?_)
      rintro e w328 ⟨rfl, hb⟩
      have H329 := Lib.hid (((H314.out).old (.cells #[.int .i64 s1, .int .i64 s2] 23)).below hb)
      have H330 := Lib.hid (((H315.out).old (.cells #[.int .i64 s1, .int .i64 s2] 23)).below hb)
      have H331 := Lib.hid (((H316.out).old (.cells #[.int .i64 s1, .int .i64 s2] 23)).below hb)
      have H332 := Lib.hid ((OwnC.new w313 #[.int .i64 s1, .int .i64 s2] 23).below hb)
      have hb333 := bcall (bnew hb317 (.cells #[.int .i64 s1, .int .i64 s2] 23)) hb
      clear hb hb317 H314 H315 H316 c318 c319 c320 c321 c322 c323 c324 c325 c326 c327
      obtain ⟨⟨c334, c335⟩, ⟨c336, c337⟩, c338⟩ := H329.out.two
      obtain ⟨⟨c339, c340⟩, ⟨c341, c342⟩, c343⟩ := H330.out.two
      go_wp2_with fail
      (with_reducible refine (CD.out _).mono ?_)
      rintro e w344 ⟨rfl, hb⟩
      have H345 := Lib.hid (((H329.out).old (.cells #[.int .i64 m1, .int .i64 m2] 23)).below hb)
      have H346 := Lib.hid (((H330.out).old (.cells #[.int .i64 m1, .int .i64 m2] 23)).below hb)
      have H347 := Lib.hid (((H331.out).old (.cells #[.int .i64 m1, .int .i64 m2] 23)).below hb)
      have H348 := Lib.hid (((H332.out).old (.cells #[.int .i64 m1, .int .i64 m2] 23)).below hb)
      have H349 := Lib.hid ((OwnC.new w328 #[.int .i64 m1, .int .i64 m2] 23).below hb)
      have hb350 := bcall (bnew hb333 (.cells #[.int .i64 m1, .int .i64 m2] 23)) hb
      clear hb hb333 H329 H330 H331 H332 c334 c335 c336 c337 c338 c339 c340 c341 c342 c343
      obtain ⟨⟨c351, c352⟩, ⟨c353, c354⟩, c355⟩ := H345.out.two
      obtain ⟨⟨c356, c357⟩, ⟨c358, c359⟩, c360⟩ := H346.out.two
      go_wp2_with fail
      (with_reducible refine (TW.out _).mono ?_)
      rintro e w361 ⟨rfl, hb⟩
      have H362 := Lib.hid ((((H345.out).old (.cells #[.int .i64 d1, .int .i64 d2] 23)).old (.cells #[.int .i64 0, .int .i64 0] 23)).below hb)
      have H363 := Lib.hid ((((H346.out).old (.cells #[.int .i64 d1, .int .i64 d2] 23)).old (.cells #[.int .i64 0, .int .i64 0] 23)).below hb)
      have H364 := Lib.hid ((((H347.out).old (.cells #[.int .i64 d1, .int .i64 d2] 23)).old (.cells #[.int .i64 0, .int .i64 0] 23)).below hb)
      have H365 := Lib.hid ((((H348.out).old (.cells #[.int .i64 d1, .int .i64 d2] 23)).old (.cells #[.int .i64 0, .int .i64 0] 23)).below hb)
      have H366 := Lib.hid ((((H349.out).old (.cells #[.int .i64 d1, .int .i64 d2] 23)).old (.cells #[.int .i64 0, .int .i64 0] 23)).below hb)
      have H367 := Lib.hid (((OwnC.new w344 #[.int .i64 d1, .int .i64 d2] 23).old (.cells #[.int .i64 0, .int .i64 0] 23)).below hb)
      have H368 := Lib.hid ((OwnC.new2 w344 (.cells #[.int .i64 d1, .int .i64 d2] 23) #[.int .i64 0, .int .i64 0] 23).below hb)
      have hb369 := bcall (bnew (bnew hb350 (.cells #[.int .i64 d1, .int .i64 d2] 23)) (.cells #[.int .i64 0, .int .i64 0] 23)) hb
      clear hb hb350 H345 H346 H347 H348 H349 c351 c352 c353 c354 c355 c356 c357 c358 c359 c360
      obtain ⟨⟨c370, c371⟩, ⟨c372, c373⟩, c374⟩ := H362.out.two
      obtain ⟨⟨c375, c376⟩, ⟨c377, c378⟩, c379⟩ := H363.out.two
      go_wp2_with fail
      (with_reducible refine (RA.out _).mono ?_)
      rintro e w380 ⟨rfl, hb⟩
      have H381 := Lib.hid ((H362.out).below hb)
      have H382 := Lib.hid ((H363.out).below hb)
      have H383 := Lib.hid ((H364.out).below hb)
      have H384 := Lib.hid ((H365.out).below hb)
      have H385 := Lib.hid ((H366.out).below hb)
      have H386 := Lib.hid ((H367.out).below hb)
      have H387 := Lib.hid ((H368.out).below hb)
      have hb388 := bcall hb369 hb
      clear hb hb369 H362 H363 H364 H365 H366 H367 H368 c370 c371 c372 c373 c374 c375 c376 c377 c378 c379
      obtain ⟨⟨c389, c390⟩, ⟨c391, c392⟩, c393⟩ := H381.out.two
      obtain ⟨⟨c394, c395⟩, ⟨c396, c397⟩, c398⟩ := H382.out.two
      go_wp2_with fail
      (with_reducible refine (RS.out _).mono ?_)
      rintro e w399 ⟨rfl, hb⟩
      have H400 := Lib.hid (((H381.out).old (.cells #[.int .i64 r1, .int .i64 r2] 23)).below hb)
      have H401 := Lib.hid (((H382.out).old (.cells #[.int .i64 r1, .int .i64 r2] 23)).below hb)
      have H402 := Lib.hid (((H383.out).old (.cells #[.int .i64 r1, .int .i64 r2] 23)).below hb)
      have H403 := Lib.hid (((H384.out).old (.cells #[.int .i64 r1, .int .i64 r2] 23)).below hb)
      have H404 := Lib.hid (((H385.out).old (.cells #[.int .i64 r1, .int .i64 r2] 23)).below hb)
      have H405 := Lib.hid (((H386.out).old (.cells #[.int .i64 r1, .int .i64 r2] 23)).below hb)
      have H406 := Lib.hid (((H387.out).old (.cells #[.int .i64 r1, .int .i64 r2] 23)).below hb)
      have H407 := Lib.hid ((OwnC.new w380 #[.int .i64 r1, .int .i64 r2] 23).below hb)
      have hb408 := bcall (bnew hb388 (.cells #[.int .i64 r1, .int .i64 r2] 23)) hb
      clear hb hb388 H381 H382 H383 H384 H385 H386 H387 c389 c390 c391 c392 c393 c394 c395 c396 c397 c398
      obtain ⟨⟨c409, c410⟩, ⟨c411, c412⟩, c413⟩ := H400.out.two
      obtain ⟨⟨c414, c415⟩, ⟨c416, c417⟩, c418⟩ := H401.out.two
      go_wp2_with fail
      (with_reducible refine (RM.out _).mono ?_)
      rintro e w419 ⟨rfl, hb⟩
      have H420 := Lib.hid (((H400.out).old (.cells #[.int .i64 s1, .int .i64 s2] 23)).below hb)
      have H421 := Lib.hid (((H401.out).old (.cells #[.int .i64 s1, .int .i64 s2] 23)).below hb)
      have H422 := Lib.hid (((H402.out).old (.cells #[.int .i64 s1, .int .i64 s2] 23)).below hb)
      have H423 := Lib.hid (((H403.out).old (.cells #[.int .i64 s1, .int .i64 s2] 23)).below hb)
      have H424 := Lib.hid (((H404.out).old (.cells #[.int .i64 s1, .int .i64 s2] 23)).below hb)
      have H425 := Lib.hid (((H405.out).old (.cells #[.int .i64 s1, .int .i64 s2] 23)).below hb)
      have H426 := Lib.hid (((H406.out).old (.cells #[.int .i64 s1, .int .i64 s2] 23)).below hb)
      have H427 := Lib.hid (((H407.out).old (.cells #[.int .i64 s1, .int .i64 s2] 23)).below hb)
      have H428 := Lib.hid ((OwnC.new w399 #[.int .i64 s1, .int .i64 s2] 23).below hb)
      have hb429 := bcall (bnew hb408 (.cells #[.int .i64 s1, .int .i64 s2] 23)) hb
      clear hb hb408 H400 H401 H402 H403 H404 H405 H406 H407 c409 c410 c411 c412 c413 c414 c415 c416 c417 c418
      obtain ⟨⟨c430, c431⟩, ⟨c432, c433⟩, c434⟩ := H420.out.two
      obtain ⟨⟨c435, c436⟩, ⟨c437, c438⟩, c439⟩ := H421.out.two
      go_wp2_with fail
      (with_reducible refine (CDr.out _).mono ?_)
      rintro e w440 ⟨rfl, hb⟩
      have H441 := Lib.hid (((H420.out).old (.cells #[.int .i64 m1, .int .i64 m2] 23)).below hb)
      have H442 := Lib.hid (((H421.out).old (.cells #[.int .i64 m1, .int .i64 m2] 23)).below hb)
      have H443 := Lib.hid (((H422.out).old (.cells #[.int .i64 m1, .int .i64 m2] 23)).below hb)
      have H444 := Lib.hid (((H423.out).old (.cells #[.int .i64 m1, .int .i64 m2] 23)).below hb)
      have H445 := Lib.hid (((H424.out).old (.cells #[.int .i64 m1, .int .i64 m2] 23)).below hb)
      have H446 := Lib.hid (((H425.out).old (.cells #[.int .i64 m1, .int .i64 m2] 23)).below hb)
      have H447 := Lib.hid (((H426.out).old (.cells #[.int .i64 m1, .int .i64 m2] 23)).below hb)
      have H448 := Lib.hid (((H427.out).old (.cells #[.int .i64 m1, .int .i64 m2] 23)).below hb)
      have H449 := Lib.hid (((H428.out).old (.cells #[.int .i64 m1, .int .i64 m2] 23)).below hb)
      have H450 := Lib.hid ((OwnC.new w419 #[.int .i64 m1, .int .i64 m2] 23).below hb)
      have hb451 := bcall (bnew hb429 (.cells #[.int .i64 m1, .int .i64 m2] 23)) hb
      clear hb hb429 H420 H421 H422 H423 H424 H425 H426 H427 H428 c430 c431 c432 c433 c434 c435 c436 c437 c438 c439
      go_wp2_with fail
      have EVn := Lib.hid (EV.out.below (bnew hb451 (.cells #[.int .i64 d1, .int .i64 d2] 23)))
      (with_reducible refine (CE.out _ EVn.out).mono ?_)
      rintro e w452 ⟨rfl, hb⟩
      have H453 := Lib.hid (((H441.out).old (.cells #[.int .i64 d1, .int .i64 d2] 23)).below hb)
      have H454 := Lib.hid (((H442.out).old (.cells #[.int .i64 d1, .int .i64 d2] 23)).below hb)
      have H455 := Lib.hid (((H443.out).old (.cells #[.int .i64 d1, .int .i64 d2] 23)).below hb)
      have H456 := Lib.hid (((H444.out).old (.cells #[.int .i64 d1, .int .i64 d2] 23)).below hb)
      have H457 := Lib.hid (((H445.out).old (.cells #[.int .i64 d1, .int .i64 d2] 23)).below hb)
      have H458 := Lib.hid (((H446.out).old (.cells #[.int .i64 d1, .int .i64 d2] 23)).below hb)
      have H459 := Lib.hid (((H447.out).old (.cells #[.int .i64 d1, .int .i64 d2] 23)).below hb)
      have H460 := Lib.hid (((H448.out).old (.cells #[.int .i64 d1, .int .i64 d2] 23)).below hb)
      have H461 := Lib.hid (((H449.out).old (.cells #[.int .i64 d1, .int .i64 d2] 23)).below hb)
      have H462 := Lib.hid (((H450.out).old (.cells #[.int .i64 d1, .int .i64 d2] 23)).below hb)
      have H463 := Lib.hid ((OwnC.new w440 #[.int .i64 d1, .int .i64 d2] 23).below hb)
      have hb464 := bcall (bnew hb451 (.cells #[.int .i64 d1, .int .i64 d2] 23)) hb
      clear hb hb451 H441 H442 H443 H444 H445 H446 H447 H448 H449 H450
      clear EVn
      obtain ⟨⟨c465, c466⟩, ⟨c467, c468⟩, c469⟩ := H455.out.two
      obtain ⟨⟨c470, c471⟩, ⟨c472, c473⟩, c474⟩ := H456.out.two
      obtain ⟨⟨c475, c476⟩, ⟨c477, c478⟩, c479⟩ := H457.out.two
      obtain ⟨⟨c480, c481⟩, ⟨c482, c483⟩, c484⟩ := H458.out.two
      obtain ⟨⟨c485, c486⟩, ⟨c487, c488⟩, c489⟩ := H460.out.two
      obtain ⟨⟨c490, c491⟩, ⟨c492, c493⟩, c494⟩ := H461.out.two
      obtain ⟨⟨c495, c496⟩, ⟨c497, c498⟩, c499⟩ := H462.out.two
      obtain ⟨⟨c500, c501⟩, ⟨c502, c503⟩, c504⟩ := H463.out.two
      go_wp2_with fail
      go_ret
      exact ⟨rfl, hb464⟩
end Go.Proofs.YtinnlahmlepeeaaDoor
