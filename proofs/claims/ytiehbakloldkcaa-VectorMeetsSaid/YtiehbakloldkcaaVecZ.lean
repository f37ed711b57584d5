/- The reference's count of common points: two segments of one line. -/
import Derived.Test.YtiehbakloldkcaaVecU
import Derived.RegionTactic
import Derived.Deep.DeepCutAuto
import Derived.Deep.RegionHeld3
namespace Go.Proofs.Ytiehbakloldkcaa
open Go.RowKit
attribute [local go_sem ↓] Go.wp_at_zero Go.wp_at_succ
/-- Two new boxes with two points. -/
def Lh (w5 : World) (f l : P2) (s t : Value) (wx : World) : Prop :=
  ∃ i j : Nat, s = .pointer (some ⟨i, 0, none⟩) ∧ t = .pointer (some ⟨j, 0, none⟩) ∧ i ≠ j ∧ w5.heap.size ≤ i ∧ w5.heap.size ≤ j ∧ Own2 wx i f ∧ Own2 wx j l ∧ Below w5.heap.size w5 wx
set_option maxHeartbeats 4000000 in
set_option maxRecDepth 100000 in
theorem rMeet_on (a b c d : P2) (ha : inP a = true) (hb : inP b = true) (hc : inP c = true) (hd : inP d = true) (hab : a ≠ b) (hcd : c ≠ d) (h1 : trn a b c = 0) (h2 : trn a b d = 0) (w : World) : Calls Try.prog 35 #[.agg #[.int .i64 a.1, .int .i64 a.2], .agg #[.int .i64 b.1, .int .i64 b.2], .agg #[.int .i64 c.1, .int .i64 c.2], .agg #[.int .i64 d.1, .int .i64 d.2]] w fun e w' => e = .returned (.int .i64 (meetR a b c d)) ∧ Below w.heap.size w w' := by
  have EA : ∀ w, (binOp .eql 46 (.agg #[.int .i64 a.1, .int .i64 a.2]) (.agg #[.int .i64 b.1, .int .i64 b.2])).run Try.prog w = .ok (.bool false) w := fun w => by have := eqPt a b w; rwa [show decide (a = b) = false by simpa using hab] at this
  have EC : ∀ w, (binOp .eql 46 (.agg #[.int .i64 c.1, .int .i64 c.2]) (.agg #[.int .i64 d.1, .int .i64 d.2])).run Try.prog w = .ok (.bool false) w := fun w => by have := eqPt c d w; rwa [show decide (c = d) = false by simpa using hcd] at this
  have T1 : Hid (∀ w, Calls Try.prog 32 #[.agg #[.int .i64 a.1, .int .i64 a.2], .agg #[.int .i64 b.1, .int .i64 b.2], .agg #[.int .i64 c.1, .int .i64 c.2]] w fun e w' => e = .returned (.int .i64 0) ∧ Below w.heap.size w w') := Lib.hid fun w => by have := rTurn_any a b c ha hb hc w; rwa [h1] at this
  have T2 : Hid (∀ w, Calls Try.prog 32 #[.agg #[.int .i64 a.1, .int .i64 a.2], .agg #[.int .i64 b.1, .int .i64 b.2], .agg #[.int .i64 d.1, .int .i64 d.2]] w fun e w' => e = .returned (.int .i64 0) ∧ Below w.heap.size w w') := Lib.hid fun w => by have := rTurn_any a b d ha hb hd w; rwa [h2] at this
  have HV : Hid (meetR a b c d = if bef (lst2 (fst2 a b) (fst2 c d)) (fst2 (lst2 a b) (lst2 c d)) then 2 else if lst2 (fst2 a b) (fst2 c d) = fst2 (lst2 a b) (lst2 c d) then 1 else 0) := Lib.hid (by
    unfold meetR
    rw [if_neg (by rintro (h | h) <;> contradiction), if_pos ⟨h1, h2⟩])
  have S1 : Hid (∀ w, Calls Try.prog 52 #[.agg #[.int .i64 a.1, .int .i64 a.2], .agg #[.int .i64 b.1, .int .i64 b.2]] w fun e w' => e = .returned (.tuple #[.agg #[.int .i64 (fst2 a b).1, .int .i64 (fst2 a b).2], .agg #[.int .i64 (lst2 a b).1, .int .i64 (lst2 a b).2]]) ∧ Below w.heap.size w w') := Lib.hid fun w => rsorted_any a b w
  have S2 : Hid (∀ w, Calls Try.prog 52 #[.agg #[.int .i64 c.1, .int .i64 c.2], .agg #[.int .i64 d.1, .int .i64 d.2]] w fun e w' => e = .returned (.tuple #[.agg #[.int .i64 (fst2 c d).1, .int .i64 (fst2 c d).2], .agg #[.int .i64 (lst2 c d).1, .int .i64 (lst2 c d).2]]) ∧ Below w.heap.size w w') := Lib.hid fun w => rsorted_any c d w
  generalize meetR a b c d = k at *
  generalize fst2 a b = f at *
  generalize lst2 a b = l at *
  generalize fst2 c d = g at *
  generalize lst2 c d = h at *
  have B1 : Hid (∀ w, Calls Try.prog 53 #[.agg #[.int .i64 f.1, .int .i64 f.2], .agg #[.int .i64 g.1, .int .i64 g.2]] w fun e w' => e = .returned (.bool (bef f g)) ∧ Below w.heap.size w w') := Lib.hid fun w => rbefore_any f g w
  have B2 : Hid (∀ w, Calls Try.prog 53 #[.agg #[.int .i64 h.1, .int .i64 h.2], .agg #[.int .i64 l.1, .int .i64 l.2]] w fun e w' => e = .returned (.bool (bef h l)) ∧ Below w.heap.size w w') := Lib.hid fun w => rbefore_any h l w
  clear h1 h2 hab hcd ha hb hc hd
  have n01 : w.heap.size ≠ w.heap.size + 1 := by omega
  have n02 : w.heap.size ≠ w.heap.size + 1 + 1 := by omega
  have n03 : w.heap.size ≠ w.heap.size + 1 + 1 + 1 := by omega
  have n12 : w.heap.size + 1 ≠ w.heap.size + 1 + 1 := by omega
  have n13 : w.heap.size + 1 ≠ w.heap.size + 1 + 1 + 1 := by omega
  have n23 : w.heap.size + 1 + 1 ≠ w.heap.size + 1 + 1 + 1 := by omega
  have O0 := Lib.hid ((((Own2.new w 46 a).old (.cells #[.int .i64 b.1, .int .i64 b.2] 46)).old (.cells #[.int .i64 c.1, .int .i64 c.2] 46)).old (.cells #[.int .i64 d.1, .int .i64 d.2] 46))
  have O1 := Lib.hid (((Own2.new2 w (.cells #[.int .i64 a.1, .int .i64 a.2] 46) 46 b).old (.cells #[.int .i64 c.1, .int .i64 c.2] 46)).old (.cells #[.int .i64 d.1, .int .i64 d.2] 46))
  have O2 := Lib.hid ((Own2.new3 w (.cells #[.int .i64 a.1, .int .i64 a.2] 46) (.cells #[.int .i64 b.1, .int .i64 b.2] 46) 46 c).old (.cells #[.int .i64 d.1, .int .i64 d.2] 46))
  have O3 := Lib.hid (Own2.new4 w (.cells #[.int .i64 a.1, .int .i64 a.2] 46) (.cells #[.int .i64 b.1, .int .i64 b.2] 46) (.cells #[.int .i64 c.1, .int .i64 c.2] 46) 46 d)
  have hb0 := b4 w (.cells #[.int .i64 a.1, .int .i64 a.2] 46) (.cells #[.int .i64 b.1, .int .i64 b.2] 46) (.cells #[.int .i64 c.1, .int .i64 c.2] 46) (.cells #[.int .i64 d.1, .int .i64 d.2] 46)
  go_enter Try.func35, Try.ntmps35
  go_wp2_with fail
  (with_reducible refine (T1.out _).mono ?_)
  rintro e w1 ⟨rfl, hb⟩
  have P0 := Lib.hid (O0.out.below hb)
  have P1 := Lib.hid (O1.out.below hb)
  have P2 := Lib.hid (O2.out.below hb)
  have P3 := Lib.hid (O3.out.below hb)
  have hb1 := bcall hb0 hb
  clear hb hb0 O0 O1 O2 O3 T1
  obtain ⟨⟨pa0, pb0⟩, pc0, pd0⟩ := P0.out
  obtain ⟨⟨pa1, pb1⟩, pc1, pd1⟩ := P1.out
  obtain ⟨⟨pa2, pb2⟩, pc2, pd2⟩ := P2.out
  obtain ⟨⟨pa3, pb3⟩, pc3, pd3⟩ := P3.out
  have pl0 := P0.out.1.lt
  have pl1 := P1.out.1.lt
  have pl2 := P2.out.1.lt
  have pl3 := P3.out.1.lt
  go_wp2_with fail
  (with_reducible refine (T2.out _).mono ?_)
  rintro e w2 ⟨rfl, hb⟩
  clear pa0 pb0 pc0 pd0 pl0 pa1 pb1 pc1 pd1 pl1 pa2 pb2 pc2 pd2 pl2 pa3 pb3 pc3 pd3 pl3
  have Q0 := Lib.hid (P0.out.below hb)
  have Q1 := Lib.hid (P1.out.below hb)
  have Q2 := Lib.hid (P2.out.below hb)
  have Q3 := Lib.hid (P3.out.below hb)
  have hb2 := bcall hb1 hb
  clear hb hb1 P0 P1 P2 P3 T2 EA EC
  obtain ⟨⟨qa0, qb0⟩, qc0, qd0⟩ := Q0.out
  obtain ⟨⟨qa1, qb1⟩, qc1, qd1⟩ := Q1.out
  obtain ⟨⟨qa2, qb2⟩, qc2, qd2⟩ := Q2.out
  obtain ⟨⟨qa3, qb3⟩, qc3, qd3⟩ := Q3.out
  have ql0 := Q0.out.1.lt
  have ql1 := Q1.out.1.lt
  have ql2 := Q2.out.1.lt
  have ql3 := Q3.out.1.lt
  go_wp2_with fail
  (with_reducible refine (S1.out _).mono ?_)
  rintro e w3 ⟨rfl, hb⟩
  clear qa0 qb0 qc0 qd0 ql0 qa1 qb1 qc1 qd1 ql1 qa2 qb2 qc2 qd2 ql2 qa3 qb3 qc3 qd3 ql3
  have R0 := Lib.hid (Q0.out.below hb)
  have R1 := Lib.hid (Q1.out.below hb)
  have R2 := Lib.hid (Q2.out.below hb)
  have R3 := Lib.hid (Q3.out.below hb)
  have hb3 := bcall hb2 hb
  clear hb hb2 Q0 Q1 Q2 Q3 S1
  obtain ⟨⟨ra0, rb0⟩, rc0, rd0⟩ := R0.out
  obtain ⟨⟨ra1, rb1⟩, rc1, rd1⟩ := R1.out
  obtain ⟨⟨ra2, rb2⟩, rc2, rd2⟩ := R2.out
  obtain ⟨⟨ra3, rb3⟩, rc3, rd3⟩ := R3.out
  have rl0 := R0.out.1.lt
  have rl1 := R1.out.1.lt
  have rl2 := R2.out.1.lt
  have rl3 := R3.out.1.lt
  go_wp2_with fail
  (with_reducible refine (S2.out _).mono ?_)
  rintro e w4 ⟨rfl, hb⟩
  clear ra0 rb0 rc0 rd0 rl0 ra1 rb1 rc1 rd1 rl1 ra2 rb2 rc2 rd2 rl2 ra3 rb3 rc3 rd3 rl3
  have U0 := Lib.hid ((Own2.set n01.symm (Own2.set n01.symm (Own2.put (y := f) R0.out))).below hb)
  have U1 := Lib.hid ((Own2.put (y := l) (Own2.set n01 (Own2.set n01 R1.out))).below hb)
  have U2 := Lib.hid ((Own2.set n12 (Own2.set n12 (Own2.set n02 (Own2.set n02 R2.out)))).below hb)
  have U3 := Lib.hid ((Own2.set n13 (Own2.set n13 (Own2.set n03 (Own2.set n03 R3.out)))).below hb)
  have hb4 : Below w.heap.size w w4 := by
    refine bcall ?_ hb
    repeat' first | (with_reducible assumption) | (with_reducible refine setB ?_ ?_) | omega
  clear hb hb3 R0 R1 R2 R3 S2
  obtain ⟨⟨ua0, ub0⟩, uc0, ud0⟩ := U0.out
  obtain ⟨⟨ua1, ub1⟩, uc1, ud1⟩ := U1.out
  obtain ⟨⟨ua2, ub2⟩, uc2, ud2⟩ := U2.out
  obtain ⟨⟨ua3, ub3⟩, uc3, ud3⟩ := U3.out
  have ul0 := U0.out.1.lt
  have ul1 := U1.out.1.lt
  have ul2 := U2.out.1.lt
  have ul3 := U3.out.1.lt
  go_upto_region 8 with fail
  clear ua0 ub0 uc0 ud0 ul0 ua1 ub1 uc1 ud1 ul1 ua2 ub2 uc2 ud2 ul2 ua3 ub3 uc3 ud3 ul3
  have V2 : Hid (Own2 ((((w4.setCell ⟨w.heap.size + 1 + 1, 0, none⟩ (.int .i64 g.1)).setCell ⟨w.heap.size + 1 + 1, 1, none⟩ (.int .i64 g.2)).setCell ⟨w.heap.size + 1 + 1 + 1, 0, none⟩ (.int .i64 h.1)).setCell ⟨w.heap.size + 1 + 1 + 1, 1, none⟩ (.int .i64 h.2)) (w.heap.size + 1 + 1) g) := Lib.hid (Own2.set n23.symm (Own2.set n23.symm (Own2.put (y := g) U2.out)))
  have V3 : Hid (Own2 ((((w4.setCell ⟨w.heap.size + 1 + 1, 0, none⟩ (.int .i64 g.1)).setCell ⟨w.heap.size + 1 + 1, 1, none⟩ (.int .i64 g.2)).setCell ⟨w.heap.size + 1 + 1 + 1, 0, none⟩ (.int .i64 h.1)).setCell ⟨w.heap.size + 1 + 1 + 1, 1, none⟩ (.int .i64 h.2)) (w.heap.size + 1 + 1 + 1) h) := Lib.hid (Own2.put (y := h) (Own2.set n23 (Own2.set n23 U3.out)))
  have V0 : Hid (Own2 ((((w4.setCell ⟨w.heap.size + 1 + 1, 0, none⟩ (.int .i64 g.1)).setCell ⟨w.heap.size + 1 + 1, 1, none⟩ (.int .i64 g.2)).setCell ⟨w.heap.size + 1 + 1 + 1, 0, none⟩ (.int .i64 h.1)).setCell ⟨w.heap.size + 1 + 1 + 1, 1, none⟩ (.int .i64 h.2)) (w.heap.size) f) := Lib.hid (Own2.set n03.symm (Own2.set n03.symm (Own2.set n02.symm (Own2.set n02.symm U0.out))))
  have V1 : Hid (Own2 ((((w4.setCell ⟨w.heap.size + 1 + 1, 0, none⟩ (.int .i64 g.1)).setCell ⟨w.heap.size + 1 + 1, 1, none⟩ (.int .i64 g.2)).setCell ⟨w.heap.size + 1 + 1 + 1, 0, none⟩ (.int .i64 h.1)).setCell ⟨w.heap.size + 1 + 1 + 1, 1, none⟩ (.int .i64 h.2)) (w.heap.size + 1) l) := Lib.hid (Own2.set n13.symm (Own2.set n13.symm (Own2.set n12.symm (Own2.set n12.symm U1.out))))
  have hb5 : Below w.heap.size w ((((w4.setCell ⟨w.heap.size + 1 + 1, 0, none⟩ (.int .i64 g.1)).setCell ⟨w.heap.size + 1 + 1, 1, none⟩ (.int .i64 g.2)).setCell ⟨w.heap.size + 1 + 1 + 1, 0, none⟩ (.int .i64 h.1)).setCell ⟨w.heap.size + 1 + 1 + 1, 1, none⟩ (.int .i64 h.2)) := by
    repeat' first | (with_reducible assumption) | (with_reducible refine setB ?_ ?_) | omega
  clear hb4 U0 U1 U2 U3
  generalize ((((w4.setCell ⟨w.heap.size + 1 + 1, 0, none⟩ (.int .i64 g.1)).setCell ⟨w.heap.size + 1 + 1, 1, none⟩ (.int .i64 g.2)).setCell ⟨w.heap.size + 1 + 1 + 1, 0, none⟩ (.int .i64 h.1)).setCell ⟨w.heap.size + 1 + 1 + 1, 1, none⟩ (.int .i64 h.2)) = w5 at *
  obtain ⟨⟨va0, vb0⟩, vc0, vd0⟩ := V0.out
  obtain ⟨⟨va1, vb1⟩, vc1, vd1⟩ := V1.out
  obtain ⟨⟨va2, vb2⟩, vc2, vd2⟩ := V2.out
  obtain ⟨⟨va3, vb3⟩, vc3, vd3⟩ := V3.out
  have vl0 := V0.out.1.lt
  have vl1 := V1.out.1.lt
  have vl2 := V2.out.1.lt
  have vl3 := V3.out.1.lt
  go_cut [9, 10] (fun s t wx => Lh w5 f l s t wx)
  case first =>
    go_region
    all_goals go_wp2_with fail
    all_goals go_meet
    all_goals refine ⟨_, _, rfl, rfl, by omega, by omega, by omega, ?_, ?_, ?_⟩
    all_goals first
      | (with_reducible exact Own2.new _ _ _) | (with_reducible exact (Own2.new _ _ _).old _) | (with_reducible exact Own2.new2 _ _ _ _)
      | exact Own2.drew (Own2.new2 _ _ _ _) | exact Own2.drew ((Own2.new _ _ _).old _)
      | exact Own2.drew (Own2.drew (Own2.new2 _ _ _ _)) | exact Own2.drew (Own2.drew ((Own2.new _ _ _).old _))
      | (repeat' first | (with_reducible assumption) | (with_reducible exact Below.refl _ _) | (with_reducible refine bnew ?_ _) | (with_reducible refine Below.drew ?_) | (with_reducible refine setB ?_ ?_) | omega)
  case rest =>
    obtain ⟨i, j, rfl, rfl, hij, hi, hj, OI, OJ, hbx⟩ := hcut
    clear va0 vb0 vc0 vd0 vl0 va1 vb1 vc1 vd1 vl1 va2 vb2 vc2 vd2 vl2 va3 vb3 vc3 vd3 vl3
    have hji := Ne.symm hij
    have X2 := Lib.hid (V2.out.below hbx)
    have X3 := Lib.hid (V3.out.below hbx)
    have XI := Lib.hid OI
    have XJ := Lib.hid OJ
    have n2i : w.heap.size + 1 + 1 ≠ i := by have := V2.out.1.lt; omega
    have n3i : w.heap.size + 1 + 1 + 1 ≠ i := by have := V3.out.1.lt; omega
    have n2j : w.heap.size + 1 + 1 ≠ j := by have := V2.out.1.lt; omega
    have n3j : w.heap.size + 1 + 1 + 1 ≠ j := by have := V3.out.1.lt; omega
    have hwi : w.heap.size ≤ i := by have := hb5.size; omega
    have hwj : w.heap.size ≤ j := by have := hb5.size; omega
    have hb6 := bcall hb5 hbx
    clear OI OJ hbx hb5 V0 V1 V2 V3 hi hj
    obtain ⟨⟨xa2, xb2⟩, xc2, xd2⟩ := X2.out
    have xl2 := X2.out.1.lt
    obtain ⟨⟨xa3, xb3⟩, xc3, xd3⟩ := X3.out
    have xl3 := X3.out.1.lt
    obtain ⟨⟨xai, xbi⟩, xci, xdi⟩ := XI.out
    have xli := XI.out.1.lt
    obtain ⟨⟨xaj, xbj⟩, xcj, xdj⟩ := XJ.out
    have xlj := XJ.out.1.lt
    go_wp2_with fail
    (with_reducible refine (B1.out _).mono ?_)
    rintro e w6 ⟨rfl, hb⟩
    clear xa2 xb2 xc2 xd2 xl2 xa3 xb3 xc3 xd3 xl3 xai xbi xci xdi xli xaj xbj xcj xdj xlj
    have Y2 := Lib.hid (X2.out.below hb)
    have Y3 := Lib.hid (X3.out.below hb)
    have YI := Lib.hid (XI.out.below hb)
    have YJ := Lib.hid (XJ.out.below hb)
    have hb7 := bcall hb6 hb
    clear hb hb6 X2 X3 XI XJ B1
    obtain ⟨⟨ya2, yb2⟩, yc2, yd2⟩ := Y2.out
    have yl2 := Y2.out.1.lt
    obtain ⟨⟨ya3, yb3⟩, yc3, yd3⟩ := Y3.out
    have yl3 := Y3.out.1.lt
    obtain ⟨⟨yai, ybi⟩, yci, ydi⟩ := YI.out
    have yli := YI.out.1.lt
    obtain ⟨⟨yaj, ybj⟩, ycj, ydj⟩ := YJ.out
    have ylj := YJ.out.1.lt
    rcases hB1 : bef f g with _ | _
    · have E1 : lst2 f g = f := by unfold lst2; rw [hB1]; rfl
      rw [E1] at HV
      clear E1 hB1
      go_wp2_with fail
      (with_reducible refine (B2.out _).mono ?_)
      rintro e w7 ⟨rfl, hb⟩
      clear ya2 yb2 yc2 yd2 yl2 ya3 yb3 yc3 yd3 yl3 yai ybi yci ydi yli yaj ybj ycj ydj ylj
      have Z3 := Lib.hid (Y3.out.below hb)
      have ZI := Lib.hid (YI.out.below hb)
      have ZJ := Lib.hid (YJ.out.below hb)
      have hb8 : Below w.heap.size w w7 := by
        refine bcall ?_ hb
        repeat' first | (with_reducible assumption) | (with_reducible refine setB ?_ ?_) | omega
      clear hb hb7 Y2 Y3 YI YJ B2
      obtain ⟨⟨za3, zb3⟩, zc3, zd3⟩ := Z3.out
      have zl3 := Z3.out.1.lt
      obtain ⟨⟨zai, zbi⟩, zci, zdi⟩ := ZI.out
      have zli := ZI.out.1.lt
      obtain ⟨⟨zaj, zbj⟩, zcj, zdj⟩ := ZJ.out
      have zlj := ZJ.out.1.lt
      rcases hB2 : bef h l with _ | _
      · have E2 : fst2 l h = l := by unfold fst2; rw [hB2]; rfl
        rw [E2] at HV
        clear E2 hB2
        have EE := fun w => eqPt f l w
        have HK : Hid (k = if bef f l = true then 2 else if decide (f = l) = true then 1 else 0) := Lib.hid (by rw [HV.out]; simp only [decide_eq_true_eq])
        have B3 : Hid (∀ w, Calls Try.prog 53 #[.agg #[.int .i64 f.1, .int .i64 f.2], .agg #[.int .i64 l.1, .int .i64 l.2]] w fun e w' => e = .returned (.bool (bef f l)) ∧ Below w.heap.size w w') := Lib.hid fun w => rbefore_any f l w
        clear HV
        go_wp2_with fail
        (with_reducible refine (B3.out _).mono ?_)
        rintro e w8 ⟨rfl, hb⟩
        clear za3 zb3 zc3 zd3 zl3 zai zbi zci zdi zli zaj zbj zcj zdj zlj
        have TI := ZI.out.below hb
        have TJ := ZJ.out.below hb
        have hb9 : Below w.heap.size w w8 := by
          refine bcall ?_ hb
          repeat' first | (with_reducible assumption) | (with_reducible refine setB ?_ ?_) | omega
        obtain ⟨⟨ta0, tb0⟩, tc0, td0⟩ := TI
        obtain ⟨⟨ta1, tb1⟩, tc1, td1⟩ := TJ
        clear hb hb8 Z3 ZI ZJ B3
        generalize decide (f = l) = eq at *
        generalize bef f l = bb at *
        rcases bb with _ | _
        · rcases eq with _ | _
          · go_wp2_with fail
            go_ret
            exact ⟨ret_int (by rw [HK.out]; rfl), hb9⟩
          · go_wp2_with fail
            go_ret
            exact ⟨ret_int (by rw [HK.out]; rfl), hb9⟩
        · go_wp2_with fail
          go_ret
          exact ⟨ret_int (by rw [HK.out]; rfl), hb9⟩
      · have E2 : fst2 l h = h := by unfold fst2; rw [hB2]; rfl
        rw [E2] at HV
        clear E2 hB2
        have EE := fun w => eqPt f h w
        have HK : Hid (k = if bef f h = true then 2 else if decide (f = h) = true then 1 else 0) := Lib.hid (by rw [HV.out]; simp only [decide_eq_true_eq])
        have B3 : Hid (∀ w, Calls Try.prog 53 #[.agg #[.int .i64 f.1, .int .i64 f.2], .agg #[.int .i64 h.1, .int .i64 h.2]] w fun e w' => e = .returned (.bool (bef f h)) ∧ Below w.heap.size w w') := Lib.hid fun w => rbefore_any f h w
        clear HV
        go_wp2_with fail
        (with_reducible refine (B3.out _).mono ?_)
        rintro e w8 ⟨rfl, hb⟩
        clear za3 zb3 zc3 zd3 zl3 zai zbi zci zdi zli zaj zbj zcj zdj zlj
        have TI := (Own2.set hji (Own2.set hji ZI.out)).below hb
        have TJ := (Own2.put (y := h) ZJ.out).below hb
        have hb9 : Below w.heap.size w w8 := by
          refine bcall ?_ hb
          repeat' first | (with_reducible assumption) | (with_reducible refine setB ?_ ?_) | omega
        obtain ⟨⟨ta0, tb0⟩, tc0, td0⟩ := TI
        obtain ⟨⟨ta1, tb1⟩, tc1, td1⟩ := TJ
        clear hb hb8 Z3 ZI ZJ B3
        generalize decide (f = h) = eq at *
        generalize bef f h = bb at *
        rcases bb with _ | _
        · rcases eq with _ | _
          · go_wp2_with fail
            go_ret
            exact ⟨ret_int (by rw [HK.out]; rfl), hb9⟩
          · go_wp2_with fail
            go_ret
            exact ⟨ret_int (by rw [HK.out]; rfl), hb9⟩
        · go_wp2_with fail
          go_ret
          exact ⟨ret_int (by rw [HK.out]; rfl), hb9⟩
    · have E1 : lst2 f g = g := by unfold lst2; rw [hB1]; rfl
      rw [E1] at HV
      clear E1 hB1
      go_wp2_with fail
      (with_reducible refine (B2.out _).mono ?_)
      rintro e w7 ⟨rfl, hb⟩
      clear ya2 yb2 yc2 yd2 yl2 ya3 yb3 yc3 yd3 yl3 yai ybi yci ydi yli yaj ybj ycj ydj ylj
      have Z3 := Lib.hid ((Own2.set n3i.symm (Own2.set n3i.symm Y3.out)).below hb)
      have ZI := Lib.hid ((Own2.put (y := g) YI.out).below hb)
      have ZJ := Lib.hid ((Own2.set hij (Own2.set hij YJ.out)).below hb)
      have hb8 : Below w.heap.size w w7 := by
        refine bcall ?_ hb
        repeat' first | (with_reducible assumption) | (with_reducible refine setB ?_ ?_) | omega
      clear hb hb7 Y2 Y3 YI YJ B2
      obtain ⟨⟨za3, zb3⟩, zc3, zd3⟩ := Z3.out
      have zl3 := Z3.out.1.lt
      obtain ⟨⟨zai, zbi⟩, zci, zdi⟩ := ZI.out
      have zli := ZI.out.1.lt
      obtain ⟨⟨zaj, zbj⟩, zcj, zdj⟩ := ZJ.out
      have zlj := ZJ.out.1.lt
      rcases hB2 : bef h l with _ | _
      · have E2 : fst2 l h = l := by unfold fst2; rw [hB2]; rfl
        rw [E2] at HV
        clear E2 hB2
        have EE := fun w => eqPt g l w
        have HK : Hid (k = if bef g l = true then 2 else if decide (g = l) = true then 1 else 0) := Lib.hid (by rw [HV.out]; simp only [decide_eq_true_eq])
        have B3 : Hid (∀ w, Calls Try.prog 53 #[.agg #[.int .i64 g.1, .int .i64 g.2], .agg #[.int .i64 l.1, .int .i64 l.2]] w fun e w' => e = .returned (.bool (bef g l)) ∧ Below w.heap.size w w') := Lib.hid fun w => rbefore_any g l w
        clear HV
        go_wp2_with fail
        (with_reducible refine (B3.out _).mono ?_)
        rintro e w8 ⟨rfl, hb⟩
        clear za3 zb3 zc3 zd3 zl3 zai zbi zci zdi zli zaj zbj zcj zdj zlj
        have TI := ZI.out.below hb
        have TJ := ZJ.out.below hb
        have hb9 : Below w.heap.size w w8 := by
          refine bcall ?_ hb
          repeat' first | (with_reducible assumption) | (with_reducible refine setB ?_ ?_) | omega
        obtain ⟨⟨ta0, tb0⟩, tc0, td0⟩ := TI
        obtain ⟨⟨ta1, tb1⟩, tc1, td1⟩ := TJ
        clear hb hb8 Z3 ZI ZJ B3
        generalize decide (g = l) = eq at *
        generalize bef g l = bb at *
        rcases bb with _ | _
        · rcases eq with _ | _
          · go_wp2_with fail
            go_ret
            exact ⟨ret_int (by rw [HK.out]; rfl), hb9⟩
          · go_wp2_with fail
            go_ret
            exact ⟨ret_int (by rw [HK.out]; rfl), hb9⟩
        · go_wp2_with fail
          go_ret
          exact ⟨ret_int (by rw [HK.out]; rfl), hb9⟩
      · have E2 : fst2 l h = h := by unfold fst2; rw [hB2]; rfl
        rw [E2] at HV
        clear E2 hB2
        have EE := fun w => eqPt g h w
        have HK : Hid (k = if bef g h = true then 2 else if decide (g = h) = true then 1 else 0) := Lib.hid (by rw [HV.out]; simp only [decide_eq_true_eq])
        have B3 : Hid (∀ w, Calls Try.prog 53 #[.agg #[.int .i64 g.1, .int .i64 g.2], .agg #[.int .i64 h.1, .int .i64 h.2]] w fun e w' => e = .returned (.bool (bef g h)) ∧ Below w.heap.size w w') := Lib.hid fun w => rbefore_any g h w
        clear HV
        go_wp2_with fail
        (with_reducible refine (B3.out _).mono ?_)
        rintro e w8 ⟨rfl, hb⟩
        clear za3 zb3 zc3 zd3 zl3 zai zbi zci zdi zli zaj zbj zcj zdj zlj
        have TI := (Own2.set hji (Own2.set hji ZI.out)).below hb
        have TJ := (Own2.put (y := h) ZJ.out).below hb
        have hb9 : Below w.heap.size w w8 := by
          refine bcall ?_ hb
          repeat' first | (with_reducible assumption) | (with_reducible refine setB ?_ ?_) | omega
        obtain ⟨⟨ta0, tb0⟩, tc0, td0⟩ := TI
        obtain ⟨⟨ta1, tb1⟩, tc1, td1⟩ := TJ
        clear hb hb8 Z3 ZI ZJ B3
        generalize decide (g = h) = eq at *
        generalize bef g h = bb at *
        rcases bb with _ | _
        · rcases eq with _ | _
          · go_wp2_with fail
            go_ret
            exact ⟨ret_int (by rw [HK.out]; rfl), hb9⟩
          · go_wp2_with fail
            go_ret
            exact ⟨ret_int (by rw [HK.out]; rfl), hb9⟩
        · go_wp2_with fail
          go_ret
          exact ⟨ret_int (by rw [HK.out]; rfl), hb9⟩
end Go.Proofs.Ytiehbakloldkcaa
