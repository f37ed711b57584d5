/- The walk of FractionCompares. -/
import Derived.Test.YtinnlahmlepeeaaDoorFraCq
import Derived.Test.YtinnlahmlepeeaaDoorFraPw
import Derived.RegionTactic
import Derived.Deep.RegionHeld3
namespace Go.Proofs.YtinnlahmlepeeaaDoor
open Go.RowKit
theorem two_any (a b : F2) (ha : In64 a.1 ∧ In64 a.2) (hb : In64 b.1 ∧ In64 b.2) (w : World) : Calls Tryd.prog 20 #[.agg #[.int .i64 a.1, .int .i64 a.2], .agg #[.int .i64 b.1, .int .i64 b.2]] w fun e w' => e = .returned (.bool (validF a && validF b)) ∧ Below w.heap.size w w' := by
  have VA : Hid (∀ w, Calls Tryd.prog 15 #[.agg #[.int .i64 a.1, .int .i64 a.2]] w fun e w' => e = .returned (.bool (validF a)) ∧ Below w.heap.size w w') := Lib.hid fun w => rvalid_any a ha.1 ha.2 w
  have VB : Hid (∀ w, Calls Tryd.prog 15 #[.agg #[.int .i64 b.1, .int .i64 b.2]] w fun e w' => e = .returned (.bool (validF b)) ∧ Below w.heap.size w w') := Lib.hid fun w => rvalid_any b hb.1 hb.2 w
  clear ha hb
  generalize validF a = va at *
  generalize validF b = vb at *
  obtain ⟨a1, a2⟩ := a
  obtain ⟨b1, b2⟩ := b
  dsimp only at *
  rcases va with _ | _
  · go_enter Tryd.func20, Tryd.ntmps20
    go_wp2_with fail
    (with_reducible refine (VA.out _).mono ?_)
    rintro e w1 ⟨rfl, hb⟩
    have H2 := Lib.hid (((OwnC.new w #[.int .i64 a1, .int .i64 a2] 23).old (.cells #[.int .i64 b1, .int .i64 b2] 23)).below hb)
    have H3 := Lib.hid ((OwnC.new2 w (.cells #[.int .i64 a1, .int .i64 a2] 23) #[.int .i64 b1, .int .i64 b2] 23).below hb)
    have hb4 := bcall (bnew (bnew (Below.refl _ w) (.cells #[.int .i64 a1, .int .i64 a2] 23)) (.cells #[.int .i64 b1, .int .i64 b2] 23)) hb
    clear hb
    go_wp2_with fail
    go_ret
    exact ⟨rfl, hb4⟩
  · go_enter Tryd.func20, Tryd.ntmps20
    go_wp2_with fail
    (with_reducible refine (VA.out _).mono ?_)
    rintro e w5 ⟨rfl, hb⟩
    have H6 := Lib.hid (((OwnC.new w #[.int .i64 a1, .int .i64 a2] 23).old (.cells #[.int .i64 b1, .int .i64 b2] 23)).below hb)
    have H7 := Lib.hid ((OwnC.new2 w (.cells #[.int .i64 a1, .int .i64 a2] 23) #[.int .i64 b1, .int .i64 b2] 23).below hb)
    have hb8 := bcall (bnew (bnew (Below.refl _ w) (.cells #[.int .i64 a1, .int .i64 a2] 23)) (.cells #[.int .i64 b1, .int .i64 b2] 23)) hb
    clear hb
    obtain ⟨⟨c9, c10⟩, ⟨c11, c12⟩, c13⟩ := H7.out.two
    go_wp2_with fail
    (with_reducible refine (VB.out _).mono ?_)
    rintro e w14 ⟨rfl, hb⟩
    have H15 := Lib.hid ((H6.out).below hb)
    have H16 := Lib.hid ((H7.out).below hb)
    have hb17 := bcall hb8 hb
    clear hb hb8 H6 H7 c9 c10 c11 c12 c13
    go_wp2_with fail
    go_ret
    exact ⟨rfl, hb17⟩
set_option maxHeartbeats 4000000 in
theorem fcmp_walk (a b : F2) (ha : In64 a.1 ∧ In64 a.2) (hb : In64 b.1 ∧ In64 b.2) (w : World) (he : Env w) :
    Calls Tryd.prog 6 #[.agg #[.int .i64 a.1, .int .i64 a.2], .agg #[.int .i64 b.1, .int .i64 b.2]] w fun e w' => e = .returned (.bool true) ∧ Below w.heap.size w w' := by
  have CC : Hid (∀ w, Calls Tryd.prog 27 #[.agg #[.int .i64 a.1, .int .i64 a.2], .agg #[.int .i64 b.1, .int .i64 b.2]] w fun e w' => e = .returned (.int .i64 (cmpR a b)) ∧ Below w.heap.size w w') := Lib.hid fun w => cmp_any a b ha hb w
  have TW : Hid (∀ w, Calls Tryd.prog 20 #[.agg #[.int .i64 a.1, .int .i64 a.2], .agg #[.int .i64 b.1, .int .i64 b.2]] w fun e w' => e = .returned (.bool (validF a && validF b)) ∧ Below w.heap.size w w') := Lib.hid fun w => two_any a b ha hb w
  have VA : Hid (∀ w, Calls Tryd.prog 15 #[.agg #[.int .i64 a.1, .int .i64 a.2]] w fun e w' => e = .returned (.bool (validF a)) ∧ Below w.heap.size w w') := Lib.hid fun w => rvalid_any a ha.1 ha.2 w
  have FL : Hid (∀ w, Calls Tryd.prog 29 #[.agg #[.int .i64 a.1, .int .i64 a.2]] w fun e w' => e = .returned (.int .i64 (floorR a)) ∧ Below w.heap.size w w') := Lib.hid fun w => floor_any a ha w
  have RO : Hid (∀ w, Calls Tryd.prog 30 #[.agg #[.int .i64 a.1, .int .i64 a.2]] w fun e w' => e = .returned (.int .i64 (roundR a)) ∧ Below w.heap.size w w') := Lib.hid fun w => round_any a ha w
  have CE : Hid (∀ w, Env w → Calls Tryd.prog 13 #[] w fun e w' => e = .returned (.bool true) ∧ Below w.heap.size w w') := Lib.hid fun w he => awake_any w he
  have EV := Lib.hid he
  rcases hva : validF a with _ | _
  · rw [hva] at VA
    rw [hva, Bool.false_and] at TW
    rw [show cmpR a b = 0 by unfold cmpR; rw [hva]; rfl] at CC
    rw [show floorR a = 0 by unfold floorR; rw [hva]; rfl] at FL
    rw [show roundR a = 0 by unfold roundR; rw [hva]; rfl] at RO
    clear ha hb hva
    obtain ⟨a1, a2⟩ := a
    obtain ⟨b1, b2⟩ := b
    dsimp only at *
    go_enter Tryd.func6, Tryd.ntmps6
    go_wp2_with fail
    (with_reducible refine (CC.out _).mono ?_)
    rintro e w18 ⟨rfl, hb⟩
    have H19 := Lib.hid (((OwnC.new w #[.int .i64 a1, .int .i64 a2] 23).old (.cells #[.int .i64 b1, .int .i64 b2] 23)).below hb)
    have H20 := Lib.hid ((OwnC.new2 w (.cells #[.int .i64 a1, .int .i64 a2] 23) #[.int .i64 b1, .int .i64 b2] 23).below hb)
    have hb21 := bcall (bnew (bnew (Below.refl _ w) (.cells #[.int .i64 a1, .int .i64 a2] 23)) (.cells #[.int .i64 b1, .int .i64 b2] 23)) hb
    clear hb
    obtain ⟨⟨c22, c23⟩, ⟨c24, c25⟩, c26⟩ := H19.out.two
    obtain ⟨⟨c27, c28⟩, ⟨c29, c30⟩, c31⟩ := H20.out.two
    go_wp2_with fail
    (with_reducible refine (TW.out _).mono ?_)
    rintro e w32 ⟨rfl, hb⟩
    have H33 := Lib.hid ((H19.out).below hb)
    have H34 := Lib.hid ((H20.out).below hb)
    have hb35 := bcall hb21 hb
    clear hb hb21 H19 H20 c22 c23 c24 c25 c26 c27 c28 c29 c30 c31
    obtain ⟨⟨c36, c37⟩, ⟨c38, c39⟩, c40⟩ := H33.out.two
    obtain ⟨⟨c41, c42⟩, ⟨c43, c44⟩, c45⟩ := H34.out.two
    go_wp2_with fail
    (with_reducible refine (TW.out _).mono ?_)
    rintro e w46 ⟨rfl, hb⟩
    have H47 := Lib.hid ((H33.out).below hb)
    have H48 := Lib.hid ((H34.out).below hb)
    have hb49 := bcall hb35 hb
    clear hb hb35 H33 H34 c36 c37 c38 c39 c40 c41 c42 c43 c44 c45
    obtain ⟨⟨c50, c51⟩, ⟨c52, c53⟩, c54⟩ := H47.out.two
    go_wp2_with fail
    (with_reducible refine (VA.out _).mono ?_)
    rintro e w55 ⟨rfl, hb⟩
    have H56 := Lib.hid ((H47.out).below hb)
    have H57 := Lib.hid ((H48.out).below hb)
    have hb58 := bcall hb49 hb
    clear hb hb49 H47 H48 c50 c51 c52 c53 c54
    obtain ⟨⟨c59, c60⟩, ⟨c61, c62⟩, c63⟩ := H56.out.two
    go_wp2_with fail
    have EVn := Lib.hid (EV.out.below hb58)
    (with_reducible refine (CE.out _ EVn.out).mono ?_)
    rintro e w64 ⟨rfl, hb⟩
    have H65 := Lib.hid ((H56.out).below hb)
    have H66 := Lib.hid ((H57.out).below hb)
    have hb67 := bcall hb58 hb
    clear hb hb58 H56 H57 c59 c60 c61 c62 c63
    clear EVn
    obtain ⟨⟨c68, c69⟩, ⟨c70, c71⟩, c72⟩ := H65.out.two
    go_wp2_with fail
    (with_reducible refine (FL.out _).mono ?_)
    rintro e w73 ⟨rfl, hb⟩
    have H74 := Lib.hid ((H65.out).below hb)
    have H75 := Lib.hid ((H66.out).below hb)
    have hb76 := bcall hb67 hb
    clear hb hb67 H65 H66 c68 c69 c70 c71 c72
    obtain ⟨⟨c77, c78⟩, ⟨c79, c80⟩, c81⟩ := H74.out.two
    go_wp2_with fail
    (with_reducible refine (RO.out _).mono ?_)
    rintro e w82 ⟨rfl, hb⟩
    have H83 := Lib.hid ((H74.out).below hb)
    have H84 := Lib.hid ((H75.out).below hb)
    have hb85 := bcall hb76 hb
    clear hb hb76 H74 H75 c77 c78 c79 c80 c81
    go_wp2_with fail
    go_ret
    exact ⟨rfl, hb85⟩
  · rcases hvb : validF b with _ | _
    · have RF : Hid (∀ w, Calls Tryd.prog 31 #[.agg #[.int .i64 a.1, .int .i64 a.2]] w fun e w' => e = .returned (.int .i64 (floorR a)) ∧ Below w.heap.size w w') := Lib.hid fun w => rfloor_any a hva w
      have RR : Hid (∀ w, Calls Tryd.prog 32 #[.agg #[.int .i64 a.1, .int .i64 a.2]] w fun e w' => e = .returned (.int .i64 (roundR a)) ∧ Below w.heap.size w w') := Lib.hid fun w => rround_any a hva w
      rw [hva] at VA
      rw [hva, hvb] at TW
      rw [show cmpR a b = 0 by unfold cmpR; rw [hva, hvb]; rfl] at CC
      clear ha hb hva hvb
      generalize floorR a = fl at *
      generalize roundR a = ro at *
      obtain ⟨a1, a2⟩ := a
      obtain ⟨b1, b2⟩ := b
      dsimp only at *
      go_enter Tryd.func6, Tryd.ntmps6
      go_wp2_with fail
      (with_reducible refine (CC.out _).mono ?_)
      rintro e w86 ⟨rfl, hb⟩
      have H87 := Lib.hid (((OwnC.new w #[.int .i64 a1, .int .i64 a2] 23).old (.cells #[.int .i64 b1, .int .i64 b2] 23)).below hb)
      have H88 := Lib.hid ((OwnC.new2 w (.cells #[.int .i64 a1, .int .i64 a2] 23) #[.int .i64 b1, .int .i64 b2] 23).below hb)
      have hb89 := bcall (bnew (bnew (Below.refl _ w) (.cells #[.int .i64 a1, .int .i64 a2] 23)) (.cells #[.int .i64 b1, .int .i64 b2] 23)) hb
      clear hb
      obtain ⟨⟨c90, c91⟩, ⟨c92, c93⟩, c94⟩ := H87.out.two
      obtain ⟨⟨c95, c96⟩, ⟨c97, c98⟩, c99⟩ := H88.out.two
      go_wp2_with fail
      (with_reducible refine (TW.out _).mono ?_)
      rintro e w100 ⟨rfl, hb⟩
      have H101 := Lib.hid ((H87.out).below hb)
      have H102 := Lib.hid ((H88.out).below hb)
      have hb103 := bcall hb89 hb
      clear hb hb89 H87 H88 c90 c91 c92 c93 c94 c95 c96 c97 c98 c99
      obtain ⟨⟨c104, c105⟩, ⟨c106, c107⟩, c108⟩ := H101.out.two
      obtain ⟨⟨c109, c110⟩, ⟨c111, c112⟩, c113⟩ := H102.out.two
      go_wp2_with fail
      (with_reducible refine (TW.out _).mono ?_)
      rintro e w114 ⟨rfl, hb⟩
      have H115 := Lib.hid ((H101.out).below hb)
      have H116 := Lib.hid ((H102.out).below hb)
      have hb117 := bcall hb103 hb
      clear hb hb103 H101 H102 c104 c105 c106 c107 c108 c109 c110 c111 c112 c113
      obtain ⟨⟨c118, c119⟩, ⟨c120, c121⟩, c122⟩ := H115.out.two
      go_wp2_with fail
      (with_reducible refine (VA.out _).mono ?_)
      rintro e w123 ⟨rfl, hb⟩
      have H124 := Lib.hid ((H115.out).below hb)
      have H125 := Lib.hid ((H116.out).below hb)
      have hb126 := bcall hb117 hb
      clear hb hb117 H115 H116 c118 c119 c120 c121 c122
      obtain ⟨⟨c127, c128⟩, ⟨c129, c130⟩, c131⟩ := H124.out.two
      go_wp2_with fail
      have EW := Lib.hid (EV.out.below hb126)
      go_region_held3 (fun w' => w'.cell? ⟨w.heap.size, 0, none⟩ = some (.int .i64 a1) ∧ w'.cell? ⟨w.heap.size, 1, none⟩ = some (.int .i64 a2) ∧ Below w123.heap.size w123 w')
        ((refine mk1F H124 ?_; repeat' first | (with_reducible assumption) | (with_reducible exact Below.refl _ _) | (with_reducible refine Below.drew ?_)))
        ((first | (go_at_call 13; (with_reducible refine (CE.out _ (by first | exact EW.out | exact (EW.out.below (get1F (by assumption))))).mono ?_); rintro e w' ⟨rfl, hb⟩; have hx := bcall (get1F (by assumption)) hb; clear hb) | (go_at_call 29; (with_reducible refine (FL.out _).mono ?_); rintro e w' ⟨rfl, hb⟩; have hx := bcall (get1F (by assumption)) hb; clear hb) | (go_at_call 31; (with_reducible refine (RF.out _).mono ?_); rintro e w' ⟨rfl, hb⟩; have hx := bcall (get1F (by assumption)) hb; clear hb) | (go_at_call 30; (with_reducible refine (RO.out _).mono ?_); rintro e w' ⟨rfl, hb⟩; have hx := bcall (get1F (by assumption)) hb; clear hb) | (go_at_call 32; (with_reducible refine (RR.out _).mono ?_); rintro e w' ⟨rfl, hb⟩; have hx := bcall (get1F (by assumption)) hb; clear hb)))
      all_goals go_wp2_with fail
      all_goals go_ret
      all_goals exact ⟨rfl, bcall hb126 hx⟩
    · have RF : Hid (∀ w, Calls Tryd.prog 31 #[.agg #[.int .i64 a.1, .int .i64 a.2]] w fun e w' => e = .returned (.int .i64 (floorR a)) ∧ Below w.heap.size w w') := Lib.hid fun w => rfloor_any a hva w
      have RR : Hid (∀ w, Calls Tryd.prog 32 #[.agg #[.int .i64 a.1, .int .i64 a.2]] w fun e w' => e = .returned (.int .i64 (roundR a)) ∧ Below w.heap.size w w') := Lib.hid fun w => rround_any a hva w
      have RC : Hid (∀ w, Calls Tryd.prog 28 #[.agg #[.int .i64 a.1, .int .i64 a.2], .agg #[.int .i64 b.1, .int .i64 b.2]] w fun e w' => e = .returned (.int .i64 (cmpR a b)) ∧ Below w.heap.size w w') := Lib.hid fun w => rcmp_any a b hva hvb w
      rw [hva] at VA
      rw [hva, hvb] at TW
      clear ha hb hva hvb
      generalize cmpR a b = c at *
      generalize floorR a = fl at *
      generalize roundR a = ro at *
      obtain ⟨a1, a2⟩ := a
      obtain ⟨b1, b2⟩ := b
      dsimp only at *
      go_enter Tryd.func6, Tryd.ntmps6
      go_wp2_with fail
      (with_reducible refine (CC.out _).mono ?_)
      rintro e w132 ⟨rfl, hb⟩
      have H133 := Lib.hid (((OwnC.new w #[.int .i64 a1, .int .i64 a2] 23).old (.cells #[.int .i64 b1, .int .i64 b2] 23)).below hb)
      have H134 := Lib.hid ((OwnC.new2 w (.cells #[.int .i64 a1, .int .i64 a2] 23) #[.int .i64 b1, .int .i64 b2] 23).below hb)
      have hb135 := bcall (bnew (bnew (Below.refl _ w) (.cells #[.int .i64 a1, .int .i64 a2] 23)) (.cells #[.int .i64 b1, .int .i64 b2] 23)) hb
      clear hb
      obtain ⟨⟨c136, c137⟩, ⟨c138, c139⟩, c140⟩ := H133.out.two
      obtain ⟨⟨c141, c142⟩, ⟨c143, c144⟩, c145⟩ := H134.out.two
      go_wp2_with fail
      (with_reducible refine (TW.out _).mono ?_)
      rintro e w146 ⟨rfl, hb⟩
      have H147 := Lib.hid ((H133.out).below hb)
      have H148 := Lib.hid ((H134.out).below hb)
      have hb149 := bcall hb135 hb
      clear hb hb135 H133 H134 c136 c137 c138 c139 c140 c141 c142 c143 c144 c145
      obtain ⟨⟨c150, c151⟩, ⟨c152, c153⟩, c154⟩ := H147.out.two
      obtain ⟨⟨c155, c156⟩, ⟨c157, c158⟩, c159⟩ := H148.out.two
      go_wp2_with fail
      (with_reducible refine (RC.out _).mono ?_)
      rintro e w160 ⟨rfl, hb⟩
      have H161 := Lib.hid ((H147.out).below hb)
      have H162 := Lib.hid ((H148.out).below hb)
      have hb163 := bcall hb149 hb
      clear hb hb149 H147 H148 c150 c151 c152 c153 c154 c155 c156 c157 c158 c159
      obtain ⟨⟨c164, c165⟩, ⟨c166, c167⟩, c168⟩ := H161.out.two
      obtain ⟨⟨c169, c170⟩, ⟨c171, c172⟩, c173⟩ := H162.out.two
      go_wp2_with fail
      (with_reducible refine (TW.out _).mono ?_)
      rintro e w174 ⟨rfl, hb⟩
      have H175 := Lib.hid ((H161.out).below hb)
      have H176 := Lib.hid ((H162.out).below hb)
      have hb177 := bcall hb163 hb
      clear hb hb163 H161 H162 c164 c165 c166 c167 c168 c169 c170 c171 c172 c173
      obtain ⟨⟨c178, c179⟩, ⟨c180, c181⟩, c182⟩ := H175.out.two
      go_wp2_with fail
      (with_reducible refine (VA.out _).mono ?_)
      rintro e w183 ⟨rfl, hb⟩
      have H184 := Lib.hid ((H175.out).below hb)
      have H185 := Lib.hid ((H176.out).below hb)
      have hb186 := bcall hb177 hb
      clear hb hb177 H175 H176 c178 c179 c180 c181 c182
      obtain ⟨⟨c187, c188⟩, ⟨c189, c190⟩, c191⟩ := H184.out.two
      go_wp2_with fail
      have EW := Lib.hid (EV.out.below hb186)
      go_region_held3 (fun w' => w'.cell? ⟨w.heap.size, 0, none⟩ = some (.int .i64 a1) ∧ w'.cell? ⟨w.heap.size, 1, none⟩ = some (.int .i64 a2) ∧ Below w183.heap.size w183 w')
        ((refine mk1F H184 ?_; repeat' first | (with_reducible assumption) | (with_reducible exact Below.refl _ _) | (with_reducible refine Below.drew ?_)))
        ((first | (go_at_call 13; (with_reducible refine (CE.out _ (by first | exact EW.out | exact (EW.out.below (get1F (by assumption))))).mono ?_); rintro e w' ⟨rfl, hb⟩; have hx := bcall (get1F (by assumption)) hb; clear hb) | (go_at_call 29; (with_reducible refine (FL.out _).mono ?_); rintro e w' ⟨rfl, hb⟩; have hx := bcall (get1F (by assumption)) hb; clear hb) | (go_at_call 31; (with_reducible refine (RF.out _).mono ?_); rintro e w' ⟨rfl, hb⟩; have hx := bcall (get1F (by assumption)) hb; clear hb) | (go_at_call 30; (with_reducible refine (RO.out _).mono ?_); rintro e w' ⟨rfl, hb⟩; have hx := bcall (get1F (by assumption)) hb; clear hb) | (go_at_call 32; (with_reducible refine (RR.out _).mono ?_); rintro e w' ⟨rfl, hb⟩; have hx := bcall (get1F (by assumption)) hb; clear hb)))
      all_goals go_wp2_with fail
      all_goals go_ret
      all_goals exact ⟨rfl, bcall hb186 hx⟩
end Go.Proofs.YtinnlahmlepeeaaDoor
