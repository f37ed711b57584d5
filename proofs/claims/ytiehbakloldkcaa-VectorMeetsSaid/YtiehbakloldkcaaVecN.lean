/- Add of vectors. -/
import Derived.Test.YtiehbakloldkcaaVecH
import Derived.Deep.DeepCutAuto
import Derived.RegionTactic
namespace Go.Proofs.Ytiehbakloldkcaa
open Go.RowKit
attribute [local go_sem ↓] Go.wp_at_zero Go.wp_at_succ
theorem setc {w : World} {g k b j : Nat} {v u : Value} (hne : g ≠ b) (h : w.cell? ⟨b, j, none⟩ = some u) : (w.setCell ⟨g, k, none⟩ v).cell? ⟨b, j, none⟩ = some u :=
  (World.cell?_setCell_other w _ _ v (fun e => hne (by injection e))).trans h
theorem setf {w : World} {g k b j : Nat} {v : Value} (h : w.frozen? ⟨b, j, none⟩ = false) : (w.setCell ⟨g, k, none⟩ v).frozen? ⟨b, j, none⟩ = false := (World.frozen?_setCell w _ _ v).trans h
theorem Zed.set {w : World} {g k b : Nat} {v : Value} (hne : g ≠ b) (h : Zed w b) : Zed (w.setCell ⟨g, k, none⟩ v) b :=
  ⟨⟨setc hne h.1.1, setc hne h.1.2.1, setc hne h.1.2.2⟩, ⟨setf h.2.1.1, setf h.2.1.2.1, setf h.2.1.2.2⟩, by have := h.2.2; simpa [World.setCell] using this⟩

set_option maxHeartbeats 1000000 in
theorem vAdd_any (p q : V3) (w : World) : Calls Try.prog 13 #[.agg #[.int .i64 p.1, .int .i64 p.2.1, .int .i64 p.2.2], .agg #[.int .i64 q.1, .int .i64 q.2.1, .int .i64 q.2.2]] w fun e w' =>
    e = .returned (.tuple #[.agg #[.int .i64 (addR p q).1.1, .int .i64 (addR p q).1.2.1, .int .i64 (addR p q).1.2.2], .int .i64 (addR p q).2]) ∧ Below w.heap.size w w' := by
  rcases hin : inV p && inV q with _ | _
  · have HE := errV2_no hin
    have HI := Lib.hid hin
    have t1 := t_no HE rfl
    clear hin
    have Z0 := Lib.hid (Zed.new3 w (.cells #[.int .i64 p.1, .int .i64 p.2.1, .int .i64 p.2.2] 23) (.cells #[.int .i64 q.1, .int .i64 q.2.1, .int .i64 q.2.2] 23) 23)
    go_enter Try.func13, Try.ntmps13
    go_wp2_with fail
    refine (checkAll_any _ _ _ [p, q] _ (w.heap.size + 1 + 1 + 1 + 1) ?_ ?_ (Lib.hid rfl) (by simp)).mono ?_
    · simp
    · exact RdV.new2 _ _ (by simp) _ p q
    rintro e w1 ⟨rfl, hb⟩
    obtain ⟨⟨ra0, ra1, ra2⟩, ⟨ra3, ra4, ra5⟩, ra6⟩ := Zed.below (Zed.old Z0.out _) hb
    have hbb := bcall (b4 _ _ _ _ _) hb
    clear hb Z0
    go_wp2_with fail
    refine bodyPost_ret (v := .tuple #[.agg #[.int .i64 0, .int .i64 0, .int .i64 0], .int .i64 6]) ?_ rfl ⟨by simp [addR, HI.out], ?_⟩
    · simp [results, Try.results13, go_sem, HE.out, *]
    · repeat' first | (with_reducible assumption) | (with_reducible refine setB ?_ ?_) | omega
  · have HE := errV2_ok hin
    have HI := Lib.hid hin
    have t1 := t_ok HE
    obtain ⟨i1, i2⟩ := two_in hin
    rw [inV_iff] at i1 i2
    obtain ⟨u1, u2, u3⟩ := i1
    obtain ⟨v1, v2, v3⟩ := i2
    have HR : Hid (∀ w, Calls Try.prog 38 #[.agg #[.int .i64 (p.1 + q.1), .int .i64 (p.2.1 + q.2.1), .int .i64 (p.2.2 + q.2.2)]] w fun e w' =>
        e = .returned (.tuple #[.agg #[.int .i64 (addR p q).1.1, .int .i64 (addR p q).1.2.1, .int .i64 (addR p q).1.2.2], .int .i64 (addR p q).2]) ∧ Below w.heap.size w w') := Lib.hid fun w => by
      have e : addR p q = rngV (addV p q) := by unfold addR; rw [HI.out]; rfl
      rw [e]
      exact ranged_any (addV p q) w
    clear hin
    have Z0 := Lib.hid (Zed.new3 w (.cells #[.int .i64 p.1, .int .i64 p.2.1, .int .i64 p.2.2] 23) (.cells #[.int .i64 q.1, .int .i64 q.2.1, .int .i64 q.2.2] 23) 23)
    go_enter Try.func13, Try.ntmps13
    go_wp2_with fail
    refine (checkAll_any _ _ _ [p, q] _ (w.heap.size + 1 + 1 + 1 + 1) ?_ ?_ (Lib.hid rfl) (by simp)).mono ?_
    · simp
    · exact RdV.new2 _ _ (by simp) _ p q
    rintro e w1 ⟨rfl, hb⟩
    have H := Lib.hid (st4 w p q 23 _ _ _ hb)
    have ZZ := Lib.hid (Zed.below (Zed.old Z0.out _) hb)
    have hb0 := bcall (b4 _ _ _ _ _) hb
    have hz : w.heap.size + 1 + 1 < w1.heap.size := ZZ.out.2.2
    clear hb Z0
    go_wp2_with fail
    obtain ⟨w3, rfl⟩ : ∃ w3 : World, w3 = w1 := ⟨_, rfl⟩
    go_cut [7, 8] (fun s t wx => Pq w3 p q s t wx)
    case first =>
      go_region_held3 (fun w' => w'.cell? ⟨w.heap.size, 0, none⟩ = some (.int .i64 p.1) ∧ w'.cell? ⟨w.heap.size, 1, none⟩ = some (.int .i64 p.2.1) ∧ w'.cell? ⟨w.heap.size, 2, none⟩ = some (.int .i64 p.2.2) ∧ w'.cell? ⟨w.heap.size + 1, 0, none⟩ = some (.int .i64 q.1) ∧ w'.cell? ⟨w.heap.size + 1, 1, none⟩ = some (.int .i64 q.2.1) ∧ w'.cell? ⟨w.heap.size + 1, 2, none⟩ = some (.int .i64 q.2.2) ∧ Below w3.heap.size w3 w')
        ((refine mk6 H ?_; repeat' first | (with_reducible assumption) | (with_reducible exact Below.refl _ _) | (with_reducible refine bnew ?_ _) | (with_reducible refine Below.drew ?_) | (with_reducible refine setB ?_ ?_) | omega))
        ((go_at_call 37; (with_reducible refine (coordinates_any _ _).mono ?_); rintro e w' ⟨rfl, hb⟩; have hbb := bcall (get6 (by assumption)) hb; have hbs := hbb.size; (first | (have ZB := Lib.hid (Zed.below (Zed.new2 _ _ _) hb); have ZA := Lib.hid (Zed.below (Zed.old (Zed.new _ _) _) hb)) | (have ZB := Lib.hid (Zed.below (Zed.drew (Zed.new2 _ _ _)) hb); have ZA := Lib.hid (Zed.below (Zed.drew (Zed.old (Zed.new _ _) _)) hb)) | (have ZB := Lib.hid (Zed.below (Zed.new _ _) hb); (try (have ZA := Lib.hid (Zed.below (Zed.old ZA.out _) hb)))) | (have ZA := Lib.hid (Zed.below (Zed.drew (Zed.new _ _)) hb)) | (have ZA := Lib.hid (Zed.below ZA.out hb); (try (have ZB := Lib.hid (Zed.below ZB.out hb)))) | skip); (try (have rA := ZA.out; obtain ⟨⟨ra0, ra1, ra2⟩, ⟨ra3, ra4, ra5⟩, ra6⟩ := rA)); (try (have rB := ZB.out; obtain ⟨⟨rb0, rb1, rb2⟩, ⟨rb3, rb4, rb5⟩, rb6⟩ := rB)); clear hb))
      all_goals go_wp2_with fail
      all_goals go_meet
      all_goals
        refine ⟨_, _, rfl, rfl, ?_, ⟨?_, ?_, ?_⟩, ⟨?_, ?_, ?_⟩, ⟨?_, ?_, ?_⟩, ?_, ?_⟩
        all_goals first | omega | (go_simp; done) | (repeat' first | (with_reducible assumption) | (with_reducible exact Below.refl _ _) | (with_reducible refine bnew ?_ _) | (with_reducible refine Below.drew ?_) | (with_reducible refine setB ?_ ?_) | omega)
    case rest =>
      obtain ⟨g, h, rfl, rfl, hne, ⟨g0, g1, g2⟩, ⟨k0, k1, k2⟩, ⟨f0, f1, f2⟩, hg0, hbc⟩ := hcut
      have rz := Zed.below ZZ.out hbc
      have HZ := Lib.hid rz
      have hgw : g < wc.heap.size := lt_of_cell g0
      obtain ⟨⟨ra0, ra1, ra2⟩, ⟨ra3, ra4, ra5⟩, ra6⟩ := rz
      have hne1 : g ≠ w.heap.size + 1 + 1 := by omega
      have hne2 : w.heap.size + 1 + 1 ≠ g := by omega
      have hne3 : h ≠ g := fun e => hne e.symm
      have hbw := bcall hb0 hbc
      have e1 : IntKind.i64.wrap (p.1 + q.1) = p.1 + q.1 := wrap_in (by omega) (by omega)
      have e2 : IntKind.i64.wrap (p.2.1 + q.2.1) = p.2.1 + q.2.1 := wrap_in (by omega) (by omega)
      have e3 : IntKind.i64.wrap (p.2.2 + q.2.2) = p.2.2 + q.2.2 := wrap_in (by omega) (by omega)
      have hg1 : w.heap.size ≤ g := by omega
      clear u1 u2 u3 v1 v2 v3 hb0 H hbc
      go_wp2
      refine wp_loop_rounds 4 ?_
      rw [rounds_succ]
      go_wp2
      go_region
      all_goals go_wp2
      all_goals rw [rounds_succ]
      all_goals go_wp2
      all_goals go_region
      all_goals go_wp2
      all_goals rw [rounds_succ]
      all_goals go_wp2
      all_goals go_region
      all_goals go_wp2
      all_goals rw [rounds_succ]
      all_goals go_wp2_with fail
      (with_reducible refine (HR.out _).mono ?_)
      rintro e w6 ⟨rfl, hb⟩
      have ZW := Zed.below (Zed.drew (Zed.drew (Zed.drew (Zed.set hne1 (Zed.set hne1 (Zed.set hne1 HZ.out)))))) hb
      have hbx : Below w.heap.size w w6 := by
        refine bcall ?_ hb
        repeat' first | (with_reducible assumption) | (with_reducible refine Below.drew ?_) | (with_reducible refine setB ?_ ?_)
      clear ra0 ra1 ra2 ra3 ra4 ra5 ra6 hb hbw HZ ZZ g0 g1 g2 k0 k1 k2 f0 f1 f2
      obtain ⟨⟨ra0, ra1, ra2⟩, ⟨ra3, ra4, ra5⟩, ra6⟩ := ZW
      go_wp2_with fail
      refine bodyPost_ret (v := .tuple #[.agg #[.int .i64 (addR p q).1.1, .int .i64 (addR p q).1.2.1, .int .i64 (addR p q).1.2.2], .int .i64 (addR p q).2]) ?_ rfl ⟨rfl, ?_⟩
      · simp [results, Try.results13, go_sem, *]
      · repeat' first | (with_reducible assumption) | (with_reducible refine setB ?_ ?_) | omega
end Go.Proofs.Ytiehbakloldkcaa
