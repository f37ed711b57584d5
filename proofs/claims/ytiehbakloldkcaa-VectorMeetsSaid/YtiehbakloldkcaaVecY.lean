/- The reference's count of common points, but for two segments of one line. -/
import Derived.Test.YtiehbakloldkcaaVecYn
import Derived.Test.YtiehbakloldkcaaVecYm
import Derived.Deep.RegionHeld3
namespace Go.Proofs.Ytiehbakloldkcaa
open Go.RowKit
attribute [local go_sem ↓] Go.wp_at_zero Go.wp_at_succ
set_option maxHeartbeats 4000000 in
set_option maxRecDepth 100000 in
theorem rMeet_offT (a b c d : P2) (ha : inP a = true) (hb : inP b = true) (hc : inP c = true) (hd : inP d = true) (h1 : a = b ∨ c = d) (w : World) : Calls Try.prog 35 #[.agg #[.int .i64 a.1, .int .i64 a.2], .agg #[.int .i64 b.1, .int .i64 b.2], .agg #[.int .i64 c.1, .int .i64 c.2], .agg #[.int .i64 d.1, .int .i64 d.2]] w fun e w' => e = .returned (.int .i64 (meetR a b c d)) ∧ Below w.heap.size w w' := by
  have hno : ¬(a ≠ b ∧ c ≠ d ∧ trn a b c = 0 ∧ trn a b d = 0) := by rintro ⟨h2, h3, _⟩; rcases h1 with h | h <;> contradiction
  have hdd : ¬(decide (a = b) = false ∧ decide (c = d) = false) := by simp only [decide_eq_false_iff_not]; rintro ⟨h2, h3⟩; rcases h1 with h | h <;> contradiction
  clear h1
  have EA := fun w => eqPt a b w
  have EC := fun w => eqPt c d w
  have O1 : Hid (∀ w, Calls Try.prog 33 #[.agg #[.int .i64 c.1, .int .i64 c.2], .agg #[.int .i64 d.1, .int .i64 d.2], .agg #[.int .i64 a.1, .int .i64 a.2]] w fun e w' => e = .returned (.bool (onR c d a)) ∧ Below w.heap.size w w') := Lib.hid fun w => rOn_any c d a hc hd ha w
  have O2 : Hid (∀ w, Calls Try.prog 33 #[.agg #[.int .i64 a.1, .int .i64 a.2], .agg #[.int .i64 b.1, .int .i64 b.2], .agg #[.int .i64 c.1, .int .i64 c.2]] w fun e w' => e = .returned (.bool (onR a b c)) ∧ Below w.heap.size w w') := Lib.hid fun w => rOn_any a b c ha hb hc w
  have T1 : Hid (∀ w, Calls Try.prog 32 #[.agg #[.int .i64 a.1, .int .i64 a.2], .agg #[.int .i64 b.1, .int .i64 b.2], .agg #[.int .i64 c.1, .int .i64 c.2]] w fun e w' => e = .returned (.int .i64 (trn a b c)) ∧ Below w.heap.size w w') := Lib.hid fun w => rTurn_any a b c ha hb hc w
  have T2 : Hid (∀ w, Calls Try.prog 32 #[.agg #[.int .i64 a.1, .int .i64 a.2], .agg #[.int .i64 b.1, .int .i64 b.2], .agg #[.int .i64 d.1, .int .i64 d.2]] w fun e w' => e = .returned (.int .i64 (trn a b d)) ∧ Below w.heap.size w w') := Lib.hid fun w => rTurn_any a b d ha hb hd w
  have T3 : Hid (∀ w, Calls Try.prog 32 #[.agg #[.int .i64 c.1, .int .i64 c.2], .agg #[.int .i64 d.1, .int .i64 d.2], .agg #[.int .i64 a.1, .int .i64 a.2]] w fun e w' => e = .returned (.int .i64 (trn c d a)) ∧ Below w.heap.size w w') := Lib.hid fun w => rTurn_any c d a hc hd ha w
  have T4 : Hid (∀ w, Calls Try.prog 32 #[.agg #[.int .i64 c.1, .int .i64 c.2], .agg #[.int .i64 d.1, .int .i64 d.2], .agg #[.int .i64 b.1, .int .i64 b.2]] w fun e w' => e = .returned (.int .i64 (trn c d b)) ∧ Below w.heap.size w w') := Lib.hid fun w => rTurn_any c d b hc hd hb w
  have s1 := trn_bd a b c
  have s2 := trn_bd a b d
  have s3 := trn_bd c d a
  have s4 := trn_bd c d b
  have HV : Hid (meetR a b c d = if decide (a = b) = true ∨ decide (c = d) = true then (if (decide (a = b) = true ∧ onR c d a = true) ∨ (decide (c = d) = true ∧ onR a b c = true) then 1 else 0) else if trn a b c * trn a b d ≤ 0 ∧ trn c d a * trn c d b ≤ 0 then 1 else 0) := Lib.hid (by
    unfold meetR
    by_cases h : a = b ∨ c = d
    · have h' : decide (a = b) = true ∨ decide (c = d) = true := by simpa using h
      rw [if_pos h, if_pos h']
      by_cases h2 : (a = b ∧ onR c d a = true) ∨ (c = d ∧ onR a b c = true)
      · have h2' : (decide (a = b) = true ∧ onR c d a = true) ∨ (decide (c = d) = true ∧ onR a b c = true) := by simpa using h2
        rw [if_pos h2, if_pos h2']
      · have h2' : ¬((decide (a = b) = true ∧ onR c d a = true) ∨ (decide (c = d) = true ∧ onR a b c = true)) := by simpa using h2
        rw [if_neg h2, if_neg h2']
    · have h' : ¬(decide (a = b) = true ∨ decide (c = d) = true) := by simpa using h
      rw [if_neg h, if_neg h', if_neg (fun e => hno ⟨fun x => h (.inl x), fun x => h (.inr x), e⟩)])
  have hno' : ¬(decide (a = b) = false ∧ decide (c = d) = false ∧ trn a b c = 0 ∧ trn a b d = 0) := fun ⟨h1, h2, h3⟩ => hno ⟨by simpa using h1, by simpa using h2, h3⟩
  generalize meetR a b c d = k at *
  generalize decide (a = b) = ea at *
  generalize decide (c = d) = ec at *
  generalize onR c d a = o1 at *
  generalize onR a b c = o2 at *
  generalize trn a b c = t1 at *
  generalize trn a b d = t2 at *
  generalize trn c d a = t3 at *
  generalize trn c d b = t4 at *
  obtain ⟨m1, m2⟩ := mul11 s1 s2
  obtain ⟨m3, m4⟩ := mul11 s3 s4
  clear ha hb hc hd hno s1 s2 s3 s4
  clear hno'
  rcases ea with _ | _
  · rcases ec with _ | _
    · exact absurd ⟨rfl, rfl⟩ hdd
    · rcases o2 with _ | _
      · have HK : Hid (k = 0) := Lib.hid (by rw [HV.out]; simp)
        clear HV
        go_enter Try.func35, Try.ntmps35
        go_wp2_with fail
        (with_reducible refine (O2.out _).mono ?_)
        rintro e W223 ⟨rfl, hb⟩
        have H224 := Lib.hid (((((At2.new w 46 a).old _).old _).old _).below hb)
        have H225 := Lib.hid ((((At2.new2 w _ 46 b).old _).old _).below hb)
        have H226 := Lib.hid (((At2.new3 w _ _ 46 c).old _).below hb)
        have H227 := Lib.hid ((At2.new4 w _ _ _ 46 d).below hb)
        have B228 := bcall (bnew (bnew (bnew (bnew (Below.refl _ w) _) _) _) _) hb
        clear hb
        obtain ⟨q229, q230⟩ := H224.out
        have l231 := H224.out.lt
        obtain ⟨q232, q233⟩ := H225.out
        have l234 := H225.out.lt
        obtain ⟨q235, q236⟩ := H226.out
        have l237 := H226.out.lt
        obtain ⟨q238, q239⟩ := H227.out
        have l240 := H227.out.lt
        go_wp2_with fail
        go_ret
        exact ⟨ret_int HK.out.symm, B228⟩
      · have HK : Hid (k = 1) := Lib.hid (by rw [HV.out]; simp)
        clear HV
        go_enter Try.func35, Try.ntmps35
        go_wp2_with fail
        (with_reducible refine (O2.out _).mono ?_)
        rintro e W241 ⟨rfl, hb⟩
        have H242 := Lib.hid (((((At2.new w 46 a).old _).old _).old _).below hb)
        have H243 := Lib.hid ((((At2.new2 w _ 46 b).old _).old _).below hb)
        have H244 := Lib.hid (((At2.new3 w _ _ 46 c).old _).below hb)
        have H245 := Lib.hid ((At2.new4 w _ _ _ 46 d).below hb)
        have B246 := bcall (bnew (bnew (bnew (bnew (Below.refl _ w) _) _) _) _) hb
        clear hb
        obtain ⟨q247, q248⟩ := H242.out
        have l249 := H242.out.lt
        obtain ⟨q250, q251⟩ := H243.out
        have l252 := H243.out.lt
        obtain ⟨q253, q254⟩ := H244.out
        have l255 := H244.out.lt
        obtain ⟨q256, q257⟩ := H245.out
        have l258 := H245.out.lt
        go_wp2_with fail
        go_ret
        exact ⟨ret_int HK.out.symm, B246⟩
  · rcases o1 with _ | _
    · rcases ec with _ | _
      · have HK : Hid (k = 0) := Lib.hid (by rw [HV.out]; simp)
        clear HV
        go_enter Try.func35, Try.ntmps35
        go_wp2_with fail
        (with_reducible refine (O1.out _).mono ?_)
        rintro e W133 ⟨rfl, hb⟩
        have H134 := Lib.hid (((((At2.new w 46 a).old _).old _).old _).below hb)
        have H135 := Lib.hid ((((At2.new2 w _ 46 b).old _).old _).below hb)
        have H136 := Lib.hid (((At2.new3 w _ _ 46 c).old _).below hb)
        have H137 := Lib.hid ((At2.new4 w _ _ _ 46 d).below hb)
        have B138 := bcall (bnew (bnew (bnew (bnew (Below.refl _ w) _) _) _) _) hb
        clear hb
        obtain ⟨q139, q140⟩ := H134.out
        have l141 := H134.out.lt
        obtain ⟨q142, q143⟩ := H135.out
        have l144 := H135.out.lt
        obtain ⟨q145, q146⟩ := H136.out
        have l147 := H136.out.lt
        obtain ⟨q148, q149⟩ := H137.out
        have l150 := H137.out.lt
        go_wp2_with fail
        go_ret
        exact ⟨ret_int HK.out.symm, B138⟩
      · rcases o2 with _ | _
        · have HK : Hid (k = 0) := Lib.hid (by rw [HV.out]; simp)
          clear HV
          go_enter Try.func35, Try.ntmps35
          go_wp2_with fail
          (with_reducible refine (O1.out _).mono ?_)
          rintro e W151 ⟨rfl, hb⟩
          have H152 := Lib.hid (((((At2.new w 46 a).old _).old _).old _).below hb)
          have H153 := Lib.hid ((((At2.new2 w _ 46 b).old _).old _).below hb)
          have H154 := Lib.hid (((At2.new3 w _ _ 46 c).old _).below hb)
          have H155 := Lib.hid ((At2.new4 w _ _ _ 46 d).below hb)
          have B156 := bcall (bnew (bnew (bnew (bnew (Below.refl _ w) _) _) _) _) hb
          clear hb
          obtain ⟨q157, q158⟩ := H152.out
          have l159 := H152.out.lt
          obtain ⟨q160, q161⟩ := H153.out
          have l162 := H153.out.lt
          obtain ⟨q163, q164⟩ := H154.out
          have l165 := H154.out.lt
          obtain ⟨q166, q167⟩ := H155.out
          have l168 := H155.out.lt
          go_wp2_with fail
          (with_reducible refine (O2.out _).mono ?_)
          rintro e W169 ⟨rfl, hb⟩
          have H170 := Lib.hid ((H152.out).below hb)
          have H171 := Lib.hid ((H153.out).below hb)
          have H172 := Lib.hid ((H154.out).below hb)
          have H173 := Lib.hid ((H155.out).below hb)
          have B174 := bcall B156 hb
          clear hb B156 H152 H153 H154 H155 q157 q158 l159 q160 q161 l162 q163 q164 l165 q166 q167 l168
          obtain ⟨q175, q176⟩ := H170.out
          have l177 := H170.out.lt
          obtain ⟨q178, q179⟩ := H171.out
          have l180 := H171.out.lt
          obtain ⟨q181, q182⟩ := H172.out
          have l183 := H172.out.lt
          obtain ⟨q184, q185⟩ := H173.out
          have l186 := H173.out.lt
          go_wp2_with fail
          go_ret
          exact ⟨ret_int HK.out.symm, B174⟩
        · have HK : Hid (k = 1) := Lib.hid (by rw [HV.out]; simp)
          clear HV
          go_enter Try.func35, Try.ntmps35
          go_wp2_with fail
          (with_reducible refine (O1.out _).mono ?_)
          rintro e W187 ⟨rfl, hb⟩
          have H188 := Lib.hid (((((At2.new w 46 a).old _).old _).old _).below hb)
          have H189 := Lib.hid ((((At2.new2 w _ 46 b).old _).old _).below hb)
          have H190 := Lib.hid (((At2.new3 w _ _ 46 c).old _).below hb)
          have H191 := Lib.hid ((At2.new4 w _ _ _ 46 d).below hb)
          have B192 := bcall (bnew (bnew (bnew (bnew (Below.refl _ w) _) _) _) _) hb
          clear hb
          obtain ⟨q193, q194⟩ := H188.out
          have l195 := H188.out.lt
          obtain ⟨q196, q197⟩ := H189.out
          have l198 := H189.out.lt
          obtain ⟨q199, q200⟩ := H190.out
          have l201 := H190.out.lt
          obtain ⟨q202, q203⟩ := H191.out
          have l204 := H191.out.lt
          go_wp2_with fail
          (with_reducible refine (O2.out _).mono ?_)
          rintro e W205 ⟨rfl, hb⟩
          have H206 := Lib.hid ((H188.out).below hb)
          have H207 := Lib.hid ((H189.out).below hb)
          have H208 := Lib.hid ((H190.out).below hb)
          have H209 := Lib.hid ((H191.out).below hb)
          have B210 := bcall B192 hb
          clear hb B192 H188 H189 H190 H191 q193 q194 l195 q196 q197 l198 q199 q200 l201 q202 q203 l204
          obtain ⟨q211, q212⟩ := H206.out
          have l213 := H206.out.lt
          obtain ⟨q214, q215⟩ := H207.out
          have l216 := H207.out.lt
          obtain ⟨q217, q218⟩ := H208.out
          have l219 := H208.out.lt
          obtain ⟨q220, q221⟩ := H209.out
          have l222 := H209.out.lt
          go_wp2_with fail
          go_ret
          exact ⟨ret_int HK.out.symm, B210⟩
    · have HK : Hid (k = 1) := Lib.hid (by rw [HV.out]; simp)
      clear HV
      go_enter Try.func35, Try.ntmps35
      go_wp2_with fail
      (with_reducible refine (O1.out _).mono ?_)
      rintro e W115 ⟨rfl, hb⟩
      have H116 := Lib.hid (((((At2.new w 46 a).old _).old _).old _).below hb)
      have H117 := Lib.hid ((((At2.new2 w _ 46 b).old _).old _).below hb)
      have H118 := Lib.hid (((At2.new3 w _ _ 46 c).old _).below hb)
      have H119 := Lib.hid ((At2.new4 w _ _ _ 46 d).below hb)
      have B120 := bcall (bnew (bnew (bnew (bnew (Below.refl _ w) _) _) _) _) hb
      clear hb
      obtain ⟨q121, q122⟩ := H116.out
      have l123 := H116.out.lt
      obtain ⟨q124, q125⟩ := H117.out
      have l126 := H117.out.lt
      obtain ⟨q127, q128⟩ := H118.out
      have l129 := H118.out.lt
      obtain ⟨q130, q131⟩ := H119.out
      have l132 := H119.out.lt
      go_wp2_with fail
      go_ret
      exact ⟨ret_int HK.out.symm, B120⟩
set_option maxHeartbeats 4000000 in
set_option maxRecDepth 100000 in
theorem rMeet_off1 (a b c d : P2) (ha : inP a = true) (hb : inP b = true) (hc : inP c = true) (hd : inP d = true) (h1 : a ≠ b) (h2 : c ≠ d) (h3 : trn a b c ≠ 0) (p1 : trn a b c * trn a b d ≤ 0) (w : World) : Calls Try.prog 35 #[.agg #[.int .i64 a.1, .int .i64 a.2], .agg #[.int .i64 b.1, .int .i64 b.2], .agg #[.int .i64 c.1, .int .i64 c.2], .agg #[.int .i64 d.1, .int .i64 d.2]] w fun e w' => e = .returned (.int .i64 (meetR a b c d)) ∧ Below w.heap.size w w' := by
  have hno : ¬(a ≠ b ∧ c ≠ d ∧ trn a b c = 0 ∧ trn a b d = 0) := fun h => h3 h.2.2.1
  have hea : decide (a = b) = false := by simpa using h1
  have hec : decide (c = d) = false := by simpa using h2
  have e1 : (trn a b c == 0) = false := by simpa using h3
  clear h1 h2 h3
  have EA := fun w => eqPt a b w
  have EC := fun w => eqPt c d w
  have O1 : Hid (∀ w, Calls Try.prog 33 #[.agg #[.int .i64 c.1, .int .i64 c.2], .agg #[.int .i64 d.1, .int .i64 d.2], .agg #[.int .i64 a.1, .int .i64 a.2]] w fun e w' => e = .returned (.bool (onR c d a)) ∧ Below w.heap.size w w') := Lib.hid fun w => rOn_any c d a hc hd ha w
  have O2 : Hid (∀ w, Calls Try.prog 33 #[.agg #[.int .i64 a.1, .int .i64 a.2], .agg #[.int .i64 b.1, .int .i64 b.2], .agg #[.int .i64 c.1, .int .i64 c.2]] w fun e w' => e = .returned (.bool (onR a b c)) ∧ Below w.heap.size w w') := Lib.hid fun w => rOn_any a b c ha hb hc w
  have T1 : Hid (∀ w, Calls Try.prog 32 #[.agg #[.int .i64 a.1, .int .i64 a.2], .agg #[.int .i64 b.1, .int .i64 b.2], .agg #[.int .i64 c.1, .int .i64 c.2]] w fun e w' => e = .returned (.int .i64 (trn a b c)) ∧ Below w.heap.size w w') := Lib.hid fun w => rTurn_any a b c ha hb hc w
  have T2 : Hid (∀ w, Calls Try.prog 32 #[.agg #[.int .i64 a.1, .int .i64 a.2], .agg #[.int .i64 b.1, .int .i64 b.2], .agg #[.int .i64 d.1, .int .i64 d.2]] w fun e w' => e = .returned (.int .i64 (trn a b d)) ∧ Below w.heap.size w w') := Lib.hid fun w => rTurn_any a b d ha hb hd w
  have T3 : Hid (∀ w, Calls Try.prog 32 #[.agg #[.int .i64 c.1, .int .i64 c.2], .agg #[.int .i64 d.1, .int .i64 d.2], .agg #[.int .i64 a.1, .int .i64 a.2]] w fun e w' => e = .returned (.int .i64 (trn c d a)) ∧ Below w.heap.size w w') := Lib.hid fun w => rTurn_any c d a hc hd ha w
  have T4 : Hid (∀ w, Calls Try.prog 32 #[.agg #[.int .i64 c.1, .int .i64 c.2], .agg #[.int .i64 d.1, .int .i64 d.2], .agg #[.int .i64 b.1, .int .i64 b.2]] w fun e w' => e = .returned (.int .i64 (trn c d b)) ∧ Below w.heap.size w w') := Lib.hid fun w => rTurn_any c d b hc hd hb w
  have s1 := trn_bd a b c
  have s2 := trn_bd a b d
  have s3 := trn_bd c d a
  have s4 := trn_bd c d b
  have HV : Hid (meetR a b c d = if decide (a = b) = true ∨ decide (c = d) = true then (if (decide (a = b) = true ∧ onR c d a = true) ∨ (decide (c = d) = true ∧ onR a b c = true) then 1 else 0) else if trn a b c * trn a b d ≤ 0 ∧ trn c d a * trn c d b ≤ 0 then 1 else 0) := Lib.hid (by
    unfold meetR
    by_cases h : a = b ∨ c = d
    · have h' : decide (a = b) = true ∨ decide (c = d) = true := by simpa using h
      rw [if_pos h, if_pos h']
      by_cases h2 : (a = b ∧ onR c d a = true) ∨ (c = d ∧ onR a b c = true)
      · have h2' : (decide (a = b) = true ∧ onR c d a = true) ∨ (decide (c = d) = true ∧ onR a b c = true) := by simpa using h2
        rw [if_pos h2, if_pos h2']
      · have h2' : ¬((decide (a = b) = true ∧ onR c d a = true) ∨ (decide (c = d) = true ∧ onR a b c = true)) := by simpa using h2
        rw [if_neg h2, if_neg h2']
    · have h' : ¬(decide (a = b) = true ∨ decide (c = d) = true) := by simpa using h
      rw [if_neg h, if_neg h', if_neg (fun e => hno ⟨fun x => h (.inl x), fun x => h (.inr x), e⟩)])
  have hno' : ¬(decide (a = b) = false ∧ decide (c = d) = false ∧ trn a b c = 0 ∧ trn a b d = 0) := fun ⟨h1, h2, h3⟩ => hno ⟨by simpa using h1, by simpa using h2, h3⟩
  generalize meetR a b c d = k at *
  generalize decide (a = b) = ea at *
  generalize decide (c = d) = ec at *
  generalize onR c d a = o1 at *
  generalize onR a b c = o2 at *
  generalize trn a b c = t1 at *
  generalize trn a b d = t2 at *
  generalize trn c d a = t3 at *
  generalize trn c d b = t4 at *
  obtain ⟨m1, m2⟩ := mul11 s1 s2
  obtain ⟨m3, m4⟩ := mul11 s3 s4
  clear ha hb hc hd hno s1 s2 s3 s4
  subst hea
  subst hec
  have HK : Hid (k = if t1 * t2 ≤ 0 ∧ t3 * t4 ≤ 0 then 1 else 0) := Lib.hid (by rw [HV.out]; simp)
  have w12 : IntKind.i64.wrap (t1 * t2) = t1 * t2 := wrap_in (by omega) (by omega)
  have w34 : IntKind.i64.wrap (t3 * t4) = t3 * t4 := wrap_in (by omega) (by omega)
  clear HV hno'
  go_enter Try.func35, Try.ntmps35
  go_wp2_with fail
  (with_reducible refine (T1.out _).mono ?_)
  rintro e W1 ⟨rfl, hb⟩
  have H2 := Lib.hid (((((At2.new w 46 a).old _).old _).old _).below hb)
  have H3 := Lib.hid ((((At2.new2 w _ 46 b).old _).old _).below hb)
  have H4 := Lib.hid (((At2.new3 w _ _ 46 c).old _).below hb)
  have H5 := Lib.hid ((At2.new4 w _ _ _ 46 d).below hb)
  have B6 := bcall (bnew (bnew (bnew (bnew (Below.refl _ w) _) _) _) _) hb
  clear hb
  obtain ⟨q7, q8⟩ := H2.out
  have l9 := H2.out.lt
  obtain ⟨q10, q11⟩ := H3.out
  have l12 := H3.out.lt
  obtain ⟨q13, q14⟩ := H4.out
  have l15 := H4.out.lt
  obtain ⟨q16, q17⟩ := H5.out
  have l18 := H5.out.lt
  have d1 : decide (t1 * t2 ≤ 0) = true := by simpa using p1
  have dw1 : IntKind.i64.wrap (t1 * t2) ≤ 0 := by rw [w12]; exact p1
  by_cases p2 : t3 * t4 ≤ 0
  · have d2 : decide (t3 * t4 ≤ 0) = true := by simpa using p2
    have dw2 : IntKind.i64.wrap (t3 * t4) ≤ 0 := by rw [w34]; exact p2
    have HK2 : Hid (k = 1) := Lib.hid (by rw [HK.out, if_pos ⟨p1, p2⟩])
    clear p1 p2 HK w12 w34
    go_wp2_with fail
    obtain ⟨w3, rfl⟩ : ∃ w3 : World, w3 = W1 := ⟨_, rfl⟩
    have HH19 := Lib.hid (⟨H2.out, H3.out, H4.out, H5.out⟩ : _ ∧ _ ∧ _ ∧ _)
    go_region_held3 (fun w' => w'.cell? ⟨(w.heap.size), 0, none⟩ = some (.int .i64 a.1) ∧ w'.cell? ⟨(w.heap.size), 1, none⟩ = some (.int .i64 a.2) ∧ w'.cell? ⟨(w.heap.size + 1), 0, none⟩ = some (.int .i64 b.1) ∧ w'.cell? ⟨(w.heap.size + 1), 1, none⟩ = some (.int .i64 b.2) ∧ w'.cell? ⟨(w.heap.size + 1 + 1), 0, none⟩ = some (.int .i64 c.1) ∧ w'.cell? ⟨(w.heap.size + 1 + 1), 1, none⟩ = some (.int .i64 c.2) ∧ w'.cell? ⟨(w.heap.size + 1 + 1 + 1), 0, none⟩ = some (.int .i64 d.1) ∧ w'.cell? ⟨(w.heap.size + 1 + 1 + 1), 1, none⟩ = some (.int .i64 d.2) ∧ Below w3.heap.size w3 w') ((refine mkf4 HH19 ?_; repeat' first | (with_reducible assumption) | (with_reducible exact Below.refl _ _) | (with_reducible refine Below.drew ?_))) ((first | (go_at_call 32; (with_reducible refine (T1.out _).mono ?_); rintro e w' ⟨rfl, hb⟩; have hbb := bcf4 (by assumption) hb; clear hb) | (go_at_call 32; (with_reducible refine (T2.out _).mono ?_); rintro e w' ⟨rfl, hb⟩; have hbb := bcf4 (by assumption) hb; clear hb) | (go_at_call 32; (with_reducible refine (T3.out _).mono ?_); rintro e w' ⟨rfl, hb⟩; have hbb := bcf4 (by assumption) hb; clear hb) | (go_at_call 32; (with_reducible refine (T4.out _).mono ?_); rintro e w' ⟨rfl, hb⟩; have hbb := bcf4 (by assumption) hb; clear hb)))
    all_goals go_wp2_with fail
    all_goals go_ret
    all_goals exact ⟨ret_int HK2.out.symm, bcall B6 hbb⟩
  · have d2 : decide (t3 * t4 ≤ 0) = false := by simpa using p2
    have dw2 : 0 < IntKind.i64.wrap (t3 * t4) := by rw [w34]; omega
    have HK2 : Hid (k = 0) := Lib.hid (by rw [HK.out, if_neg (fun e => p2 e.2)])
    clear p1 p2 HK w12 w34
    go_wp2_with fail
    obtain ⟨w3, rfl⟩ : ∃ w3 : World, w3 = W1 := ⟨_, rfl⟩
    have HH20 := Lib.hid (⟨H2.out, H3.out, H4.out, H5.out⟩ : _ ∧ _ ∧ _ ∧ _)
    go_region_held3 (fun w' => w'.cell? ⟨(w.heap.size), 0, none⟩ = some (.int .i64 a.1) ∧ w'.cell? ⟨(w.heap.size), 1, none⟩ = some (.int .i64 a.2) ∧ w'.cell? ⟨(w.heap.size + 1), 0, none⟩ = some (.int .i64 b.1) ∧ w'.cell? ⟨(w.heap.size + 1), 1, none⟩ = some (.int .i64 b.2) ∧ w'.cell? ⟨(w.heap.size + 1 + 1), 0, none⟩ = some (.int .i64 c.1) ∧ w'.cell? ⟨(w.heap.size + 1 + 1), 1, none⟩ = some (.int .i64 c.2) ∧ w'.cell? ⟨(w.heap.size + 1 + 1 + 1), 0, none⟩ = some (.int .i64 d.1) ∧ w'.cell? ⟨(w.heap.size + 1 + 1 + 1), 1, none⟩ = some (.int .i64 d.2) ∧ Below w3.heap.size w3 w') ((refine mkf4 HH20 ?_; repeat' first | (with_reducible assumption) | (with_reducible exact Below.refl _ _) | (with_reducible refine Below.drew ?_))) ((first | (go_at_call 32; (with_reducible refine (T1.out _).mono ?_); rintro e w' ⟨rfl, hb⟩; have hbb := bcf4 (by assumption) hb; clear hb) | (go_at_call 32; (with_reducible refine (T2.out _).mono ?_); rintro e w' ⟨rfl, hb⟩; have hbb := bcf4 (by assumption) hb; clear hb) | (go_at_call 32; (with_reducible refine (T3.out _).mono ?_); rintro e w' ⟨rfl, hb⟩; have hbb := bcf4 (by assumption) hb; clear hb) | (go_at_call 32; (with_reducible refine (T4.out _).mono ?_); rintro e w' ⟨rfl, hb⟩; have hbb := bcf4 (by assumption) hb; clear hb)))
    all_goals go_wp2_with fail
    all_goals go_ret
    all_goals exact ⟨ret_int HK2.out.symm, bcall B6 hbb⟩
set_option maxHeartbeats 4000000 in
set_option maxRecDepth 100000 in
theorem rMeet_off2 (a b c d : P2) (ha : inP a = true) (hb : inP b = true) (hc : inP c = true) (hd : inP d = true) (h1 : a ≠ b) (h2 : c ≠ d) (h3 : trn a b c = 0) (h4 : trn a b d ≠ 0) (p1 : trn a b c * trn a b d ≤ 0) (w : World) : Calls Try.prog 35 #[.agg #[.int .i64 a.1, .int .i64 a.2], .agg #[.int .i64 b.1, .int .i64 b.2], .agg #[.int .i64 c.1, .int .i64 c.2], .agg #[.int .i64 d.1, .int .i64 d.2]] w fun e w' => e = .returned (.int .i64 (meetR a b c d)) ∧ Below w.heap.size w w' := by
  have hno : ¬(a ≠ b ∧ c ≠ d ∧ trn a b c = 0 ∧ trn a b d = 0) := fun h => h4 h.2.2.2
  have hea : decide (a = b) = false := by simpa using h1
  have hec : decide (c = d) = false := by simpa using h2
  have e1 : (trn a b c == 0) = true := by simpa using h3
  have e2 : (trn a b d == 0) = false := by simpa using h4
  clear h1 h2 h3 h4
  have EA := fun w => eqPt a b w
  have EC := fun w => eqPt c d w
  have O1 : Hid (∀ w, Calls Try.prog 33 #[.agg #[.int .i64 c.1, .int .i64 c.2], .agg #[.int .i64 d.1, .int .i64 d.2], .agg #[.int .i64 a.1, .int .i64 a.2]] w fun e w' => e = .returned (.bool (onR c d a)) ∧ Below w.heap.size w w') := Lib.hid fun w => rOn_any c d a hc hd ha w
  have O2 : Hid (∀ w, Calls Try.prog 33 #[.agg #[.int .i64 a.1, .int .i64 a.2], .agg #[.int .i64 b.1, .int .i64 b.2], .agg #[.int .i64 c.1, .int .i64 c.2]] w fun e w' => e = .returned (.bool (onR a b c)) ∧ Below w.heap.size w w') := Lib.hid fun w => rOn_any a b c ha hb hc w
  have T1 : Hid (∀ w, Calls Try.prog 32 #[.agg #[.int .i64 a.1, .int .i64 a.2], .agg #[.int .i64 b.1, .int .i64 b.2], .agg #[.int .i64 c.1, .int .i64 c.2]] w fun e w' => e = .returned (.int .i64 (trn a b c)) ∧ Below w.heap.size w w') := Lib.hid fun w => rTurn_any a b c ha hb hc w
  have T2 : Hid (∀ w, Calls Try.prog 32 #[.agg #[.int .i64 a.1, .int .i64 a.2], .agg #[.int .i64 b.1, .int .i64 b.2], .agg #[.int .i64 d.1, .int .i64 d.2]] w fun e w' => e = .returned (.int .i64 (trn a b d)) ∧ Below w.heap.size w w') := Lib.hid fun w => rTurn_any a b d ha hb hd w
  have T3 : Hid (∀ w, Calls Try.prog 32 #[.agg #[.int .i64 c.1, .int .i64 c.2], .agg #[.int .i64 d.1, .int .i64 d.2], .agg #[.int .i64 a.1, .int .i64 a.2]] w fun e w' => e = .returned (.int .i64 (trn c d a)) ∧ Below w.heap.size w w') := Lib.hid fun w => rTurn_any c d a hc hd ha w
  have T4 : Hid (∀ w, Calls Try.prog 32 #[.agg #[.int .i64 c.1, .int .i64 c.2], .agg #[.int .i64 d.1, .int .i64 d.2], .agg #[.int .i64 b.1, .int .i64 b.2]] w fun e w' => e = .returned (.int .i64 (trn c d b)) ∧ Below w.heap.size w w') := Lib.hid fun w => rTurn_any c d b hc hd hb w
  have s1 := trn_bd a b c
  have s2 := trn_bd a b d
  have s3 := trn_bd c d a
  have s4 := trn_bd c d b
  have HV : Hid (meetR a b c d = if decide (a = b) = true ∨ decide (c = d) = true then (if (decide (a = b) = true ∧ onR c d a = true) ∨ (decide (c = d) = true ∧ onR a b c = true) then 1 else 0) else if trn a b c * trn a b d ≤ 0 ∧ trn c d a * trn c d b ≤ 0 then 1 else 0) := Lib.hid (by
    unfold meetR
    by_cases h : a = b ∨ c = d
    · have h' : decide (a = b) = true ∨ decide (c = d) = true := by simpa using h
      rw [if_pos h, if_pos h']
      by_cases h2 : (a = b ∧ onR c d a = true) ∨ (c = d ∧ onR a b c = true)
      · have h2' : (decide (a = b) = true ∧ onR c d a = true) ∨ (decide (c = d) = true ∧ onR a b c = true) := by simpa using h2
        rw [if_pos h2, if_pos h2']
      · have h2' : ¬((decide (a = b) = true ∧ onR c d a = true) ∨ (decide (c = d) = true ∧ onR a b c = true)) := by simpa using h2
        rw [if_neg h2, if_neg h2']
    · have h' : ¬(decide (a = b) = true ∨ decide (c = d) = true) := by simpa using h
      rw [if_neg h, if_neg h', if_neg (fun e => hno ⟨fun x => h (.inl x), fun x => h (.inr x), e⟩)])
  have hno' : ¬(decide (a = b) = false ∧ decide (c = d) = false ∧ trn a b c = 0 ∧ trn a b d = 0) := fun ⟨h1, h2, h3⟩ => hno ⟨by simpa using h1, by simpa using h2, h3⟩
  generalize meetR a b c d = k at *
  generalize decide (a = b) = ea at *
  generalize decide (c = d) = ec at *
  generalize onR c d a = o1 at *
  generalize onR a b c = o2 at *
  generalize trn a b c = t1 at *
  generalize trn a b d = t2 at *
  generalize trn c d a = t3 at *
  generalize trn c d b = t4 at *
  obtain ⟨m1, m2⟩ := mul11 s1 s2
  obtain ⟨m3, m4⟩ := mul11 s3 s4
  clear ha hb hc hd hno s1 s2 s3 s4
  subst hea
  subst hec
  have HK : Hid (k = if t1 * t2 ≤ 0 ∧ t3 * t4 ≤ 0 then 1 else 0) := Lib.hid (by rw [HV.out]; simp)
  have w12 : IntKind.i64.wrap (t1 * t2) = t1 * t2 := wrap_in (by omega) (by omega)
  have w34 : IntKind.i64.wrap (t3 * t4) = t3 * t4 := wrap_in (by omega) (by omega)
  clear HV hno'
  go_enter Try.func35, Try.ntmps35
  go_wp2_with fail
  (with_reducible refine (T1.out _).mono ?_)
  rintro e W21 ⟨rfl, hb⟩
  have H22 := Lib.hid (((((At2.new w 46 a).old _).old _).old _).below hb)
  have H23 := Lib.hid ((((At2.new2 w _ 46 b).old _).old _).below hb)
  have H24 := Lib.hid (((At2.new3 w _ _ 46 c).old _).below hb)
  have H25 := Lib.hid ((At2.new4 w _ _ _ 46 d).below hb)
  have B26 := bcall (bnew (bnew (bnew (bnew (Below.refl _ w) _) _) _) _) hb
  clear hb
  obtain ⟨q27, q28⟩ := H22.out
  have l29 := H22.out.lt
  obtain ⟨q30, q31⟩ := H23.out
  have l32 := H23.out.lt
  obtain ⟨q33, q34⟩ := H24.out
  have l35 := H24.out.lt
  obtain ⟨q36, q37⟩ := H25.out
  have l38 := H25.out.lt
  go_wp2_with fail
  (with_reducible refine (T2.out _).mono ?_)
  rintro e W39 ⟨rfl, hb⟩
  have H40 := Lib.hid ((H22.out).below hb)
  have H41 := Lib.hid ((H23.out).below hb)
  have H42 := Lib.hid ((H24.out).below hb)
  have H43 := Lib.hid ((H25.out).below hb)
  have B44 := bcall B26 hb
  clear hb B26 H22 H23 H24 H25 q27 q28 l29 q30 q31 l32 q33 q34 l35 q36 q37 l38
  obtain ⟨q45, q46⟩ := H40.out
  have l47 := H40.out.lt
  obtain ⟨q48, q49⟩ := H41.out
  have l50 := H41.out.lt
  obtain ⟨q51, q52⟩ := H42.out
  have l53 := H42.out.lt
  obtain ⟨q54, q55⟩ := H43.out
  have l56 := H43.out.lt
  have d1 : decide (t1 * t2 ≤ 0) = true := by simpa using p1
  have dw1 : IntKind.i64.wrap (t1 * t2) ≤ 0 := by rw [w12]; exact p1
  by_cases p2 : t3 * t4 ≤ 0
  · have d2 : decide (t3 * t4 ≤ 0) = true := by simpa using p2
    have dw2 : IntKind.i64.wrap (t3 * t4) ≤ 0 := by rw [w34]; exact p2
    have HK2 : Hid (k = 1) := Lib.hid (by rw [HK.out, if_pos ⟨p1, p2⟩])
    clear p1 p2 HK w12 w34
    go_wp2_with fail
    obtain ⟨w3, rfl⟩ : ∃ w3 : World, w3 = W39 := ⟨_, rfl⟩
    have HH57 := Lib.hid (⟨H40.out, H41.out, H42.out, H43.out⟩ : _ ∧ _ ∧ _ ∧ _)
    go_region_held3 (fun w' => w'.cell? ⟨(w.heap.size), 0, none⟩ = some (.int .i64 a.1) ∧ w'.cell? ⟨(w.heap.size), 1, none⟩ = some (.int .i64 a.2) ∧ w'.cell? ⟨(w.heap.size + 1), 0, none⟩ = some (.int .i64 b.1) ∧ w'.cell? ⟨(w.heap.size + 1), 1, none⟩ = some (.int .i64 b.2) ∧ w'.cell? ⟨(w.heap.size + 1 + 1), 0, none⟩ = some (.int .i64 c.1) ∧ w'.cell? ⟨(w.heap.size + 1 + 1), 1, none⟩ = some (.int .i64 c.2) ∧ w'.cell? ⟨(w.heap.size + 1 + 1 + 1), 0, none⟩ = some (.int .i64 d.1) ∧ w'.cell? ⟨(w.heap.size + 1 + 1 + 1), 1, none⟩ = some (.int .i64 d.2) ∧ Below w3.heap.size w3 w') ((refine mkf4 HH57 ?_; repeat' first | (with_reducible assumption) | (with_reducible exact Below.refl _ _) | (with_reducible refine Below.drew ?_))) ((first | (go_at_call 32; (with_reducible refine (T1.out _).mono ?_); rintro e w' ⟨rfl, hb⟩; have hbb := bcf4 (by assumption) hb; clear hb) | (go_at_call 32; (with_reducible refine (T2.out _).mono ?_); rintro e w' ⟨rfl, hb⟩; have hbb := bcf4 (by assumption) hb; clear hb) | (go_at_call 32; (with_reducible refine (T3.out _).mono ?_); rintro e w' ⟨rfl, hb⟩; have hbb := bcf4 (by assumption) hb; clear hb) | (go_at_call 32; (with_reducible refine (T4.out _).mono ?_); rintro e w' ⟨rfl, hb⟩; have hbb := bcf4 (by assumption) hb; clear hb)))
    all_goals go_wp2_with fail
    all_goals go_ret
    all_goals exact ⟨ret_int HK2.out.symm, bcall B44 hbb⟩
  · have d2 : decide (t3 * t4 ≤ 0) = false := by simpa using p2
    have dw2 : 0 < IntKind.i64.wrap (t3 * t4) := by rw [w34]; omega
    have HK2 : Hid (k = 0) := Lib.hid (by rw [HK.out, if_neg (fun e => p2 e.2)])
    clear p1 p2 HK w12 w34
    go_wp2_with fail
    obtain ⟨w3, rfl⟩ : ∃ w3 : World, w3 = W39 := ⟨_, rfl⟩
    have HH58 := Lib.hid (⟨H40.out, H41.out, H42.out, H43.out⟩ : _ ∧ _ ∧ _ ∧ _)
    go_region_held3 (fun w' => w'.cell? ⟨(w.heap.size), 0, none⟩ = some (.int .i64 a.1) ∧ w'.cell? ⟨(w.heap.size), 1, none⟩ = some (.int .i64 a.2) ∧ w'.cell? ⟨(w.heap.size + 1), 0, none⟩ = some (.int .i64 b.1) ∧ w'.cell? ⟨(w.heap.size + 1), 1, none⟩ = some (.int .i64 b.2) ∧ w'.cell? ⟨(w.heap.size + 1 + 1), 0, none⟩ = some (.int .i64 c.1) ∧ w'.cell? ⟨(w.heap.size + 1 + 1), 1, none⟩ = some (.int .i64 c.2) ∧ w'.cell? ⟨(w.heap.size + 1 + 1 + 1), 0, none⟩ = some (.int .i64 d.1) ∧ w'.cell? ⟨(w.heap.size + 1 + 1 + 1), 1, none⟩ = some (.int .i64 d.2) ∧ Below w3.heap.size w3 w') ((refine mkf4 HH58 ?_; repeat' first | (with_reducible assumption) | (with_reducible exact Below.refl _ _) | (with_reducible refine Below.drew ?_))) ((first | (go_at_call 32; (with_reducible refine (T1.out _).mono ?_); rintro e w' ⟨rfl, hb⟩; have hbb := bcf4 (by assumption) hb; clear hb) | (go_at_call 32; (with_reducible refine (T2.out _).mono ?_); rintro e w' ⟨rfl, hb⟩; have hbb := bcf4 (by assumption) hb; clear hb) | (go_at_call 32; (with_reducible refine (T3.out _).mono ?_); rintro e w' ⟨rfl, hb⟩; have hbb := bcf4 (by assumption) hb; clear hb) | (go_at_call 32; (with_reducible refine (T4.out _).mono ?_); rintro e w' ⟨rfl, hb⟩; have hbb := bcf4 (by assumption) hb; clear hb)))
    all_goals go_wp2_with fail
    all_goals go_ret
    all_goals exact ⟨ret_int HK2.out.symm, bcall B44 hbb⟩
theorem rMeet_off (a b c d : P2) (ha : inP a = true) (hb : inP b = true) (hc : inP c = true) (hd : inP d = true) (hno : ¬(a ≠ b ∧ c ≠ d ∧ trn a b c = 0 ∧ trn a b d = 0)) (w : World) : Calls Try.prog 35 #[.agg #[.int .i64 a.1, .int .i64 a.2], .agg #[.int .i64 b.1, .int .i64 b.2], .agg #[.int .i64 c.1, .int .i64 c.2], .agg #[.int .i64 d.1, .int .i64 d.2]] w fun e w' => e = .returned (.int .i64 (meetR a b c d)) ∧ Below w.heap.size w w' := by
  by_cases h : a = b ∨ c = d
  · exact rMeet_offT a b c d ha hb hc hd h w
  · have h1 : a ≠ b := fun e => h (.inl e)
    have h2 : c ≠ d := fun e => h (.inr e)
    by_cases h3 : trn a b c = 0
    · by_cases p1 : trn a b c * trn a b d ≤ 0
      · exact rMeet_off2 a b c d ha hb hc hd h1 h2 h3 (fun e => hno ⟨h1, h2, h3, e⟩) p1 w
      · exact rMeet_off2n a b c d ha hb hc hd h1 h2 h3 (fun e => hno ⟨h1, h2, h3, e⟩) p1 w
    · by_cases p1 : trn a b c * trn a b d ≤ 0
      · exact rMeet_off1 a b c d ha hb hc hd h1 h2 h3 p1 w
      · exact rMeet_off1n a b c d ha hb hc hd h1 h2 h3 p1 w
end Go.Proofs.Ytiehbakloldkcaa
