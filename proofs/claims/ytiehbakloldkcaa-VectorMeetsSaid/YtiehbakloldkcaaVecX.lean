/- The walk of VectorMeets. -/
import Derived.Test.YtiehbakloldkcaaVecY
import Derived.Test.YtiehbakloldkcaaVecZ
namespace Go.Proofs.Ytiehbakloldkcaa
open Go.RowKit
attribute [local go_sem ↓] Go.wp_at_zero Go.wp_at_succ
theorem rMeet_any (a b c d : P2) (ha : inP a = true) (hb : inP b = true) (hc : inP c = true) (hd : inP d = true) (w : World) : Calls Try.prog 35 #[.agg #[.int .i64 a.1, .int .i64 a.2], .agg #[.int .i64 b.1, .int .i64 b.2], .agg #[.int .i64 c.1, .int .i64 c.2], .agg #[.int .i64 d.1, .int .i64 d.2]] w fun e w' => e = .returned (.int .i64 (meetR a b c d)) ∧ Below w.heap.size w w' := by
  by_cases h : a ≠ b ∧ c ≠ d ∧ trn a b c = 0 ∧ trn a b d = 0
  · exact rMeet_on a b c d ha hb hc hd h.1 h.2.1 h.2.2.1 h.2.2.2 w
  · exact rMeet_off a b c d ha hb hc hd h w
set_option maxHeartbeats 4000000 in
set_option maxRecDepth 100000 in
theorem meets_walk (a : P2) (b : P2) (c : P2) (d : P2) (w : World) : Calls Try.prog 7 #[.agg #[.int .i64 a.1, .int .i64 a.2], .agg #[.int .i64 b.1, .int .i64 b.2], .agg #[.int .i64 c.1, .int .i64 c.2], .agg #[.int .i64 d.1, .int .i64 d.2]] w fun e w' => e = .returned (.bool true) ∧ Below w.heap.size w w' := by
  have C1 : Hid (∀ w, Calls Try.prog 34 #[.agg #[.int .i64 a.1, .int .i64 a.2], .agg #[.int .i64 b.1, .int .i64 b.2], .agg #[.int .i64 c.1, .int .i64 c.2], .agg #[.int .i64 d.1, .int .i64 d.2]] w fun e w' => e = .returned (.tuple #[.int .i64 (metR a b c d).1, .int .i64 (metR a b c d).2]) ∧ Below w.heap.size w w') := Lib.hid fun w => vMeet_any a b c d w
  have Ia : Hid (∀ w, Calls Try.prog 31 #[.agg #[.int .i64 a.1, .int .i64 a.2]] w fun e w' => e = .returned (.bool (inP a)) ∧ Below w.heap.size w w') := Lib.hid fun w => rInPoint_any a w
  have Ib : Hid (∀ w, Calls Try.prog 31 #[.agg #[.int .i64 b.1, .int .i64 b.2]] w fun e w' => e = .returned (.bool (inP b)) ∧ Below w.heap.size w w') := Lib.hid fun w => rInPoint_any b w
  have Ic : Hid (∀ w, Calls Try.prog 31 #[.agg #[.int .i64 c.1, .int .i64 c.2]] w fun e w' => e = .returned (.bool (inP c)) ∧ Below w.heap.size w w') := Lib.hid fun w => rInPoint_any c w
  have Id : Hid (∀ w, Calls Try.prog 31 #[.agg #[.int .i64 d.1, .int .i64 d.2]] w fun e w' => e = .returned (.bool (inP d)) ∧ Below w.heap.size w w') := Lib.hid fun w => rInPoint_any d w
  have CT : Hid (inP a = true → inP b = true → inP c = true → inP d = true → ∀ w, Calls Try.prog 35 #[.agg #[.int .i64 a.1, .int .i64 a.2], .agg #[.int .i64 b.1, .int .i64 b.2], .agg #[.int .i64 c.1, .int .i64 c.2], .agg #[.int .i64 d.1, .int .i64 d.2]] w fun e w' => e = .returned (.int .i64 (meetR a b c d)) ∧ Below w.heap.size w w') := Lib.hid fun h1 h2 h3 h4 w => rMeet_any a b c d h1 h2 h3 h4 w
  have K : ((inP a && (inP b && (inP c && inP d))) = false ∧ metR a b c d = (0, 6)) ∨ ((inP a && (inP b && (inP c && inP d))) = true ∧ metR a b c d = (meetR a b c d, 0)) := by
    unfold metR
    rcases h : inP a && (inP b && (inP c && inP d)) with _ | _
    · left; exact ⟨rfl, rfl⟩
    · right; exact ⟨rfl, by rw [if_pos rfl, meet_same]⟩
  generalize metR a b c d = x at *
  generalize meetR a b c d = tt at *
  rcases K with ⟨kin, k1⟩ | ⟨kin, k1⟩
  · subst k1
    clear CT
    rcases ha : inP a with _ | _
    · rw [ha] at Ia
      clear kin ha
      go_enter Try.func7, Try.ntmps7
      go_wp2_with fail
      (with_reducible refine ((awake_any _)).mono ?_)
      rintro e W1 ⟨rfl, hb⟩
      have H2 := Lib.hid (((((At2.new w 46 a).old _).old _).old _).below hb)
      have H3 := Lib.hid ((((At2.new2 w _ 46 b).old _).old _).below hb)
      have H4 := Lib.hid (((At2.new3 w _ _ 46 c).old _).below hb)
      have H5 := Lib.hid ((At2.new4 w _ _ _ 46 d).below hb)
      have B6 := bcall (bnew (bnew (bnew (bnew (Below.refl _ w) _) _) _) _) hb
      clear hb
      obtain ⟨q7, q8⟩ := H2.out
      have l9 := H2.out.lt
      obtain ⟨q10, q11⟩ := H3.out
      have l12 := H3.out.lt
      obtain ⟨q13, q14⟩ := H4.out
      have l15 := H4.out.lt
      obtain ⟨q16, q17⟩ := H5.out
      have l18 := H5.out.lt
      go_wp2_with fail
      (with_reducible refine (C1.out _).mono ?_)
      rintro e W19 ⟨rfl, hb⟩
      have H20 := Lib.hid ((H2.out).below hb)
      have H21 := Lib.hid ((H3.out).below hb)
      have H22 := Lib.hid ((H4.out).below hb)
      have H23 := Lib.hid ((H5.out).below hb)
      have B24 := bcall B6 hb
      clear hb B6 H2 H3 H4 H5 q7 q8 l9 q10 q11 l12 q13 q14 l15 q16 q17 l18
      obtain ⟨q25, q26⟩ := H20.out
      have l27 := H20.out.lt
      obtain ⟨q28, q29⟩ := H21.out
      have l30 := H21.out.lt
      obtain ⟨q31, q32⟩ := H22.out
      have l33 := H22.out.lt
      obtain ⟨q34, q35⟩ := H23.out
      have l36 := H23.out.lt
      go_wp2_with fail
      (with_reducible refine (Ia.out _).mono ?_)
      rintro e W37 ⟨rfl, hb⟩
      have H38 := Lib.hid ((H20.out).below hb)
      have H39 := Lib.hid ((H21.out).below hb)
      have H40 := Lib.hid ((H22.out).below hb)
      have H41 := Lib.hid ((H23.out).below hb)
      have B42 := bcall B24 hb
      clear hb B24 H20 H21 H22 H23 q25 q26 l27 q28 q29 l30 q31 q32 l33 q34 q35 l36
      obtain ⟨q43, q44⟩ := H38.out
      have l45 := H38.out.lt
      obtain ⟨q46, q47⟩ := H39.out
      have l48 := H39.out.lt
      obtain ⟨q49, q50⟩ := H40.out
      have l51 := H40.out.lt
      obtain ⟨q52, q53⟩ := H41.out
      have l54 := H41.out.lt
      go_wp2_with fail
      go_ret
      exact ⟨rfl, B42⟩
    · rcases hb : inP b with _ | _
      · rw [ha] at Ia
        rw [hb] at Ib
        clear kin ha hb
        go_enter Try.func7, Try.ntmps7
        go_wp2_with fail
        (with_reducible refine ((awake_any _)).mono ?_)
        rintro e W55 ⟨rfl, hb⟩
        have H56 := Lib.hid (((((At2.new w 46 a).old _).old _).old _).below hb)
        have H57 := Lib.hid ((((At2.new2 w _ 46 b).old _).old _).below hb)
        have H58 := Lib.hid (((At2.new3 w _ _ 46 c).old _).below hb)
        have H59 := Lib.hid ((At2.new4 w _ _ _ 46 d).below hb)
        have B60 := bcall (bnew (bnew (bnew (bnew (Below.refl _ w) _) _) _) _) hb
        clear hb
        obtain ⟨q61, q62⟩ := H56.out
        have l63 := H56.out.lt
        obtain ⟨q64, q65⟩ := H57.out
        have l66 := H57.out.lt
        obtain ⟨q67, q68⟩ := H58.out
        have l69 := H58.out.lt
        obtain ⟨q70, q71⟩ := H59.out
        have l72 := H59.out.lt
        go_wp2_with fail
        (with_reducible refine (C1.out _).mono ?_)
        rintro e W73 ⟨rfl, hb⟩
        have H74 := Lib.hid ((H56.out).below hb)
        have H75 := Lib.hid ((H57.out).below hb)
        have H76 := Lib.hid ((H58.out).below hb)
        have H77 := Lib.hid ((H59.out).below hb)
        have B78 := bcall B60 hb
        clear hb B60 H56 H57 H58 H59 q61 q62 l63 q64 q65 l66 q67 q68 l69 q70 q71 l72
        obtain ⟨q79, q80⟩ := H74.out
        have l81 := H74.out.lt
        obtain ⟨q82, q83⟩ := H75.out
        have l84 := H75.out.lt
        obtain ⟨q85, q86⟩ := H76.out
        have l87 := H76.out.lt
        obtain ⟨q88, q89⟩ := H77.out
        have l90 := H77.out.lt
        go_wp2_with fail
        (with_reducible refine (Ia.out _).mono ?_)
        rintro e W91 ⟨rfl, hb⟩
        have H92 := Lib.hid ((H74.out).below hb)
        have H93 := Lib.hid ((H75.out).below hb)
        have H94 := Lib.hid ((H76.out).below hb)
        have H95 := Lib.hid ((H77.out).below hb)
        have B96 := bcall B78 hb
        clear hb B78 H74 H75 H76 H77 q79 q80 l81 q82 q83 l84 q85 q86 l87 q88 q89 l90
        obtain ⟨q97, q98⟩ := H92.out
        have l99 := H92.out.lt
        obtain ⟨q100, q101⟩ := H93.out
        have l102 := H93.out.lt
        obtain ⟨q103, q104⟩ := H94.out
        have l105 := H94.out.lt
        obtain ⟨q106, q107⟩ := H95.out
        have l108 := H95.out.lt
        go_wp2_with fail
        (with_reducible refine (Ib.out _).mono ?_)
        rintro e W109 ⟨rfl, hb⟩
        have H110 := Lib.hid ((H92.out).below hb)
        have H111 := Lib.hid ((H93.out).below hb)
        have H112 := Lib.hid ((H94.out).below hb)
        have H113 := Lib.hid ((H95.out).below hb)
        have B114 := bcall B96 hb
        clear hb B96 H92 H93 H94 H95 q97 q98 l99 q100 q101 l102 q103 q104 l105 q106 q107 l108
        obtain ⟨q115, q116⟩ := H110.out
        have l117 := H110.out.lt
        obtain ⟨q118, q119⟩ := H111.out
        have l120 := H111.out.lt
        obtain ⟨q121, q122⟩ := H112.out
        have l123 := H112.out.lt
        obtain ⟨q124, q125⟩ := H113.out
        have l126 := H113.out.lt
        go_wp2_with fail
        go_ret
        exact ⟨rfl, B114⟩
      · rcases hc : inP c with _ | _
        · rw [ha] at Ia
          rw [hb] at Ib
          rw [hc] at Ic
          clear kin ha hb hc
          go_enter Try.func7, Try.ntmps7
          go_wp2_with fail
          (with_reducible refine ((awake_any _)).mono ?_)
          rintro e W127 ⟨rfl, hb⟩
          have H128 := Lib.hid (((((At2.new w 46 a).old _).old _).old _).below hb)
          have H129 := Lib.hid ((((At2.new2 w _ 46 b).old _).old _).below hb)
          have H130 := Lib.hid (((At2.new3 w _ _ 46 c).old _).below hb)
          have H131 := Lib.hid ((At2.new4 w _ _ _ 46 d).below hb)
          have B132 := bcall (bnew (bnew (bnew (bnew (Below.refl _ w) _) _) _) _) hb
          clear hb
          obtain ⟨q133, q134⟩ := H128.out
          have l135 := H128.out.lt
          obtain ⟨q136, q137⟩ := H129.out
          have l138 := H129.out.lt
          obtain ⟨q139, q140⟩ := H130.out
          have l141 := H130.out.lt
          obtain ⟨q142, q143⟩ := H131.out
          have l144 := H131.out.lt
          go_wp2_with fail
          (with_reducible refine (C1.out _).mono ?_)
          rintro e W145 ⟨rfl, hb⟩
          have H146 := Lib.hid ((H128.out).below hb)
          have H147 := Lib.hid ((H129.out).below hb)
          have H148 := Lib.hid ((H130.out).below hb)
          have H149 := Lib.hid ((H131.out).below hb)
          have B150 := bcall B132 hb
          clear hb B132 H128 H129 H130 H131 q133 q134 l135 q136 q137 l138 q139 q140 l141 q142 q143 l144
          obtain ⟨q151, q152⟩ := H146.out
          have l153 := H146.out.lt
          obtain ⟨q154, q155⟩ := H147.out
          have l156 := H147.out.lt
          obtain ⟨q157, q158⟩ := H148.out
          have l159 := H148.out.lt
          obtain ⟨q160, q161⟩ := H149.out
          have l162 := H149.out.lt
          go_wp2_with fail
          (with_reducible refine (Ia.out _).mono ?_)
          rintro e W163 ⟨rfl, hb⟩
          have H164 := Lib.hid ((H146.out).below hb)
          have H165 := Lib.hid ((H147.out).below hb)
          have H166 := Lib.hid ((H148.out).below hb)
          have H167 := Lib.hid ((H149.out).below hb)
          have B168 := bcall B150 hb
          clear hb B150 H146 H147 H148 H149 q151 q152 l153 q154 q155 l156 q157 q158 l159 q160 q161 l162
          obtain ⟨q169, q170⟩ := H164.out
          have l171 := H164.out.lt
          obtain ⟨q172, q173⟩ := H165.out
          have l174 := H165.out.lt
          obtain ⟨q175, q176⟩ := H166.out
          have l177 := H166.out.lt
          obtain ⟨q178, q179⟩ := H167.out
          have l180 := H167.out.lt
          go_wp2_with fail
          (with_reducible refine (Ib.out _).mono ?_)
          rintro e W181 ⟨rfl, hb⟩
          have H182 := Lib.hid ((H164.out).below hb)
          have H183 := Lib.hid ((H165.out).below hb)
          have H184 := Lib.hid ((H166.out).below hb)
          have H185 := Lib.hid ((H167.out).below hb)
          have B186 := bcall B168 hb
          clear hb B168 H164 H165 H166 H167 q169 q170 l171 q172 q173 l174 q175 q176 l177 q178 q179 l180
          obtain ⟨q187, q188⟩ := H182.out
          have l189 := H182.out.lt
          obtain ⟨q190, q191⟩ := H183.out
          have l192 := H183.out.lt
          obtain ⟨q193, q194⟩ := H184.out
          have l195 := H184.out.lt
          obtain ⟨q196, q197⟩ := H185.out
          have l198 := H185.out.lt
          go_wp2_with fail
          (with_reducible refine (Ic.out _).mono ?_)
          rintro e W199 ⟨rfl, hb⟩
          have H200 := Lib.hid ((H182.out).below hb)
          have H201 := Lib.hid ((H183.out).below hb)
          have H202 := Lib.hid ((H184.out).below hb)
          have H203 := Lib.hid ((H185.out).below hb)
          have B204 := bcall B186 hb
          clear hb B186 H182 H183 H184 H185 q187 q188 l189 q190 q191 l192 q193 q194 l195 q196 q197 l198
          obtain ⟨q205, q206⟩ := H200.out
          have l207 := H200.out.lt
          obtain ⟨q208, q209⟩ := H201.out
          have l210 := H201.out.lt
          obtain ⟨q211, q212⟩ := H202.out
          have l213 := H202.out.lt
          obtain ⟨q214, q215⟩ := H203.out
          have l216 := H203.out.lt
          go_wp2_with fail
          go_ret
          exact ⟨rfl, B204⟩
        · have hd : inP d = false := by simpa [ha, hb, hc] using kin
          rw [ha] at Ia
          rw [hb] at Ib
          rw [hc] at Ic
          rw [hd] at Id
          clear kin ha hb hc hd
          go_enter Try.func7, Try.ntmps7
          go_wp2_with fail
          (with_reducible refine ((awake_any _)).mono ?_)
          rintro e W217 ⟨rfl, hb⟩
          have H218 := Lib.hid (((((At2.new w 46 a).old _).old _).old _).below hb)
          have H219 := Lib.hid ((((At2.new2 w _ 46 b).old _).old _).below hb)
          have H220 := Lib.hid (((At2.new3 w _ _ 46 c).old _).below hb)
          have H221 := Lib.hid ((At2.new4 w _ _ _ 46 d).below hb)
          have B222 := bcall (bnew (bnew (bnew (bnew (Below.refl _ w) _) _) _) _) hb
          clear hb
          obtain ⟨q223, q224⟩ := H218.out
          have l225 := H218.out.lt
          obtain ⟨q226, q227⟩ := H219.out
          have l228 := H219.out.lt
          obtain ⟨q229, q230⟩ := H220.out
          have l231 := H220.out.lt
          obtain ⟨q232, q233⟩ := H221.out
          have l234 := H221.out.lt
          go_wp2_with fail
          (with_reducible refine (C1.out _).mono ?_)
          rintro e W235 ⟨rfl, hb⟩
          have H236 := Lib.hid ((H218.out).below hb)
          have H237 := Lib.hid ((H219.out).below hb)
          have H238 := Lib.hid ((H220.out).below hb)
          have H239 := Lib.hid ((H221.out).below hb)
          have B240 := bcall B222 hb
          clear hb B222 H218 H219 H220 H221 q223 q224 l225 q226 q227 l228 q229 q230 l231 q232 q233 l234
          obtain ⟨q241, q242⟩ := H236.out
          have l243 := H236.out.lt
          obtain ⟨q244, q245⟩ := H237.out
          have l246 := H237.out.lt
          obtain ⟨q247, q248⟩ := H238.out
          have l249 := H238.out.lt
          obtain ⟨q250, q251⟩ := H239.out
          have l252 := H239.out.lt
          go_wp2_with fail
          (with_reducible refine (Ia.out _).mono ?_)
          rintro e W253 ⟨rfl, hb⟩
          have H254 := Lib.hid ((H236.out).below hb)
          have H255 := Lib.hid ((H237.out).below hb)
          have H256 := Lib.hid ((H238.out).below hb)
          have H257 := Lib.hid ((H239.out).below hb)
          have B258 := bcall B240 hb
          clear hb B240 H236 H237 H238 H239 q241 q242 l243 q244 q245 l246 q247 q248 l249 q250 q251 l252
          obtain ⟨q259, q260⟩ := H254.out
          have l261 := H254.out.lt
          obtain ⟨q262, q263⟩ := H255.out
          have l264 := H255.out.lt
          obtain ⟨q265, q266⟩ := H256.out
          have l267 := H256.out.lt
          obtain ⟨q268, q269⟩ := H257.out
          have l270 := H257.out.lt
          go_wp2_with fail
          (with_reducible refine (Ib.out _).mono ?_)
          rintro e W271 ⟨rfl, hb⟩
          have H272 := Lib.hid ((H254.out).below hb)
          have H273 := Lib.hid ((H255.out).below hb)
          have H274 := Lib.hid ((H256.out).below hb)
          have H275 := Lib.hid ((H257.out).below hb)
          have B276 := bcall B258 hb
          clear hb B258 H254 H255 H256 H257 q259 q260 l261 q262 q263 l264 q265 q266 l267 q268 q269 l270
          obtain ⟨q277, q278⟩ := H272.out
          have l279 := H272.out.lt
          obtain ⟨q280, q281⟩ := H273.out
          have l282 := H273.out.lt
          obtain ⟨q283, q284⟩ := H274.out
          have l285 := H274.out.lt
          obtain ⟨q286, q287⟩ := H275.out
          have l288 := H275.out.lt
          go_wp2_with fail
          (with_reducible refine (Ic.out _).mono ?_)
          rintro e W289 ⟨rfl, hb⟩
          have H290 := Lib.hid ((H272.out).below hb)
          have H291 := Lib.hid ((H273.out).below hb)
          have H292 := Lib.hid ((H274.out).below hb)
          have H293 := Lib.hid ((H275.out).below hb)
          have B294 := bcall B276 hb
          clear hb B276 H272 H273 H274 H275 q277 q278 l279 q280 q281 l282 q283 q284 l285 q286 q287 l288
          obtain ⟨q295, q296⟩ := H290.out
          have l297 := H290.out.lt
          obtain ⟨q298, q299⟩ := H291.out
          have l300 := H291.out.lt
          obtain ⟨q301, q302⟩ := H292.out
          have l303 := H292.out.lt
          obtain ⟨q304, q305⟩ := H293.out
          have l306 := H293.out.lt
          go_wp2_with fail
          (with_reducible refine (Id.out _).mono ?_)
          rintro e W307 ⟨rfl, hb⟩
          have H308 := Lib.hid ((H290.out).below hb)
          have H309 := Lib.hid ((H291.out).below hb)
          have H310 := Lib.hid ((H292.out).below hb)
          have H311 := Lib.hid ((H293.out).below hb)
          have B312 := bcall B294 hb
          clear hb B294 H290 H291 H292 H293 q295 q296 l297 q298 q299 l300 q301 q302 l303 q304 q305 l306
          obtain ⟨q313, q314⟩ := H308.out
          have l315 := H308.out.lt
          obtain ⟨q316, q317⟩ := H309.out
          have l318 := H309.out.lt
          obtain ⟨q319, q320⟩ := H310.out
          have l321 := H310.out.lt
          obtain ⟨q322, q323⟩ := H311.out
          have l324 := H311.out.lt
          go_wp2_with fail
          go_ret
          exact ⟨rfl, B312⟩
  · subst k1
    obtain ⟨ha, hb, hc, hd⟩ : inP a = true ∧ inP b = true ∧ inP c = true ∧ inP d = true := by simpa using kin
    have CTv := Lib.hid (CT.out ha hb hc hd)
    rw [ha] at Ia
    rw [hb] at Ib
    rw [hc] at Ic
    rw [hd] at Id
    clear kin ha hb hc hd CT
    go_enter Try.func7, Try.ntmps7
    go_wp2_with fail
    (with_reducible refine ((awake_any _)).mono ?_)
    rintro e W325 ⟨rfl, hb⟩
    have H326 := Lib.hid (((((At2.new w 46 a).old _).old _).old _).below hb)
    have H327 := Lib.hid ((((At2.new2 w _ 46 b).old _).old _).below hb)
    have H328 := Lib.hid (((At2.new3 w _ _ 46 c).old _).below hb)
    have H329 := Lib.hid ((At2.new4 w _ _ _ 46 d).below hb)
    have B330 := bcall (bnew (bnew (bnew (bnew (Below.refl _ w) _) _) _) _) hb
    clear hb
    obtain ⟨q331, q332⟩ := H326.out
    have l333 := H326.out.lt
    obtain ⟨q334, q335⟩ := H327.out
    have l336 := H327.out.lt
    obtain ⟨q337, q338⟩ := H328.out
    have l339 := H328.out.lt
    obtain ⟨q340, q341⟩ := H329.out
    have l342 := H329.out.lt
    go_wp2_with fail
    (with_reducible refine (C1.out _).mono ?_)
    rintro e W343 ⟨rfl, hb⟩
    have H344 := Lib.hid ((H326.out).below hb)
    have H345 := Lib.hid ((H327.out).below hb)
    have H346 := Lib.hid ((H328.out).below hb)
    have H347 := Lib.hid ((H329.out).below hb)
    have B348 := bcall B330 hb
    clear hb B330 H326 H327 H328 H329 q331 q332 l333 q334 q335 l336 q337 q338 l339 q340 q341 l342
    obtain ⟨q349, q350⟩ := H344.out
    have l351 := H344.out.lt
    obtain ⟨q352, q353⟩ := H345.out
    have l354 := H345.out.lt
    obtain ⟨q355, q356⟩ := H346.out
    have l357 := H346.out.lt
    obtain ⟨q358, q359⟩ := H347.out
    have l360 := H347.out.lt
    go_wp2_with fail
    (with_reducible refine (Ia.out _).mono ?_)
    rintro e W361 ⟨rfl, hb⟩
    have H362 := Lib.hid ((H344.out).below hb)
    have H363 := Lib.hid ((H345.out).below hb)
    have H364 := Lib.hid ((H346.out).below hb)
    have H365 := Lib.hid ((H347.out).below hb)
    have B366 := bcall B348 hb
    clear hb B348 H344 H345 H346 H347 q349 q350 l351 q352 q353 l354 q355 q356 l357 q358 q359 l360
    obtain ⟨q367, q368⟩ := H362.out
    have l369 := H362.out.lt
    obtain ⟨q370, q371⟩ := H363.out
    have l372 := H363.out.lt
    obtain ⟨q373, q374⟩ := H364.out
    have l375 := H364.out.lt
    obtain ⟨q376, q377⟩ := H365.out
    have l378 := H365.out.lt
    go_wp2_with fail
    (with_reducible refine (Ib.out _).mono ?_)
    rintro e W379 ⟨rfl, hb⟩
    have H380 := Lib.hid ((H362.out).below hb)
    have H381 := Lib.hid ((H363.out).below hb)
    have H382 := Lib.hid ((H364.out).below hb)
    have H383 := Lib.hid ((H365.out).below hb)
    have B384 := bcall B366 hb
    clear hb B366 H362 H363 H364 H365 q367 q368 l369 q370 q371 l372 q373 q374 l375 q376 q377 l378
    obtain ⟨q385, q386⟩ := H380.out
    have l387 := H380.out.lt
    obtain ⟨q388, q389⟩ := H381.out
    have l390 := H381.out.lt
    obtain ⟨q391, q392⟩ := H382.out
    have l393 := H382.out.lt
    obtain ⟨q394, q395⟩ := H383.out
    have l396 := H383.out.lt
    go_wp2_with fail
    (with_reducible refine (Ic.out _).mono ?_)
    rintro e W397 ⟨rfl, hb⟩
    have H398 := Lib.hid ((H380.out).below hb)
    have H399 := Lib.hid ((H381.out).below hb)
    have H400 := Lib.hid ((H382.out).below hb)
    have H401 := Lib.hid ((H383.out).below hb)
    have B402 := bcall B384 hb
    clear hb B384 H380 H381 H382 H383 q385 q386 l387 q388 q389 l390 q391 q392 l393 q394 q395 l396
    obtain ⟨q403, q404⟩ := H398.out
    have l405 := H398.out.lt
    obtain ⟨q406, q407⟩ := H399.out
    have l408 := H399.out.lt
    obtain ⟨q409, q410⟩ := H400.out
    have l411 := H400.out.lt
    obtain ⟨q412, q413⟩ := H401.out
    have l414 := H401.out.lt
    go_wp2_with fail
    (with_reducible refine (Id.out _).mono ?_)
    rintro e W415 ⟨rfl, hb⟩
    have H416 := Lib.hid ((H398.out).below hb)
    have H417 := Lib.hid ((H399.out).below hb)
    have H418 := Lib.hid ((H400.out).below hb)
    have H419 := Lib.hid ((H401.out).below hb)
    have B420 := bcall B402 hb
    clear hb B402 H398 H399 H400 H401 q403 q404 l405 q406 q407 l408 q409 q410 l411 q412 q413 l414
    obtain ⟨q421, q422⟩ := H416.out
    have l423 := H416.out.lt
    obtain ⟨q424, q425⟩ := H417.out
    have l426 := H417.out.lt
    obtain ⟨q427, q428⟩ := H418.out
    have l429 := H418.out.lt
    obtain ⟨q430, q431⟩ := H419.out
    have l432 := H419.out.lt
    go_wp2_with fail
    (with_reducible refine (CTv.out _).mono ?_)
    rintro e W433 ⟨rfl, hb⟩
    have H434 := Lib.hid ((H416.out).below hb)
    have H435 := Lib.hid ((H417.out).below hb)
    have H436 := Lib.hid ((H418.out).below hb)
    have H437 := Lib.hid ((H419.out).below hb)
    have B438 := bcall B420 hb
    clear hb B420 H416 H417 H418 H419 q421 q422 l423 q424 q425 l426 q427 q428 l429 q430 q431 l432
    obtain ⟨q439, q440⟩ := H434.out
    have l441 := H434.out.lt
    obtain ⟨q442, q443⟩ := H435.out
    have l444 := H435.out.lt
    obtain ⟨q445, q446⟩ := H436.out
    have l447 := H436.out.lt
    obtain ⟨q448, q449⟩ := H437.out
    have l450 := H437.out.lt
    go_wp2_with fail
    go_ret
    exact ⟨rfl, B438⟩
end Go.Proofs.Ytiehbakloldkcaa
