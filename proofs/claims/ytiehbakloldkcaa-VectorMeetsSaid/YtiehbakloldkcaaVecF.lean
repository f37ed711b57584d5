/- Compare of vectors. -/
import Derived.Test.YtiehbakloldkcaaVecE
import Derived.Deep.DeepCutAuto
import Derived.Deep.DrawnRows
namespace Go.Proofs.Ytiehbakloldkcaa
open Go.RowKit
attribute [local go_sem ↓] Go.wp_at_zero Go.wp_at_succ
theorem quietl {P : Program} {f : FuncId} {args : Array Value} {w : World} {n : Nat} {v : Value}
    (h : Calls P f args (w.drewN n) fun e w' => e = .returned v ∧ w.drewN n = w') : Calls P f args (w.drewN n) fun e w'' => e = .returned v ∧ ∃ m, w'' = w.drewN m :=
  h.mono fun _ _ ⟨he, hm⟩ => ⟨he, n, hm.symm⟩
theorem st20 (w : World) (p q : V3) (t : TypeId) : Six ((w.alloc (.cells #[.int .i64 p.1, .int .i64 p.2.1, .int .i64 p.2.2] t)).alloc (.cells #[.int .i64 q.1, .int .i64 q.2.1, .int .i64 q.2.2] t)) w.heap.size p q :=
  ⟨keepa (cnew w _ t 0 _ rfl) _, keepa (cnew w _ t 1 _ rfl) _, keepa (cnew w _ t 2 _ rfl) _, cnew2 w _ _ t 0 _ rfl, cnew2 w _ _ t 1 _ rfl, cnew2 w _ _ t 2 _ rfl⟩
set_option maxHeartbeats 1000000 in
theorem vCompare_any (p q : V3) (w : World) : Calls Try.prog 17 #[.agg #[.int .i64 p.1, .int .i64 p.2.1, .int .i64 p.2.2], .agg #[.int .i64 q.1, .int .i64 q.2.1, .int .i64 q.2.2]] w fun e w' =>
    e = .returned (.int .i64 (cmpV p q)) ∧ Below w.heap.size w w' := by
  have he := fun w => eqVec p q w
  by_cases hpq : p = q
  · have hd : decide (p = q) = true := by simpa using hpq
    have HR : Hid (cmpV p q = 0) := Lib.hid (by rw [hpq, cmpV_self])
    rw [hd] at he
    clear hd hpq
    go_enter Try.func17, Try.ntmps17
    go_wp2
    go_ret
    exact ⟨ret_int HR.out.symm, b2 _ _ _⟩
  · have hd : decide (p = q) = false := by simpa using hpq
    rw [hd] at he
    clear hd hpq
    have H := Lib.hid (st20 w p q 23)
    have hz : w.heap.size + 2 ≤ ((w.alloc (.cells #[.int .i64 p.1, .int .i64 p.2.1, .int .i64 p.2.2] 23)).alloc (.cells #[.int .i64 q.1, .int .i64 q.2.1, .int .i64 q.2.2] 23)).heap.size := by simp
    have hb0 := b2 w (.cells #[.int .i64 p.1, .int .i64 p.2.1, .int .i64 p.2.2] 23) (.cells #[.int .i64 q.1, .int .i64 q.2.1, .int .i64 q.2.2] 23)
    go_enter Try.func17, Try.ntmps17
    go_upto_region 3 with fail
    clear he
    generalize ((w.alloc (.cells #[.int .i64 p.1, .int .i64 p.2.1, .int .i64 p.2.2] 23)).alloc (.cells #[.int .i64 q.1, .int .i64 q.2.1, .int .i64 q.2.2] 23)) = w3 at *
    go_cut [5, 6] (fun s t wx => Pq w3 p q s t wx)
    case first =>
      go_region_held3 (fun w' => w'.cell? ⟨w.heap.size, 0, none⟩ = some (.int .i64 p.1) ∧ w'.cell? ⟨w.heap.size, 1, none⟩ = some (.int .i64 p.2.1) ∧ w'.cell? ⟨w.heap.size, 2, none⟩ = some (.int .i64 p.2.2) ∧ w'.cell? ⟨w.heap.size + 1, 0, none⟩ = some (.int .i64 q.1) ∧ w'.cell? ⟨w.heap.size + 1, 1, none⟩ = some (.int .i64 q.2.1) ∧ w'.cell? ⟨w.heap.size + 1, 2, none⟩ = some (.int .i64 q.2.2) ∧ Below w3.heap.size w3 w')
        ((refine mk6 H ?_; repeat' first | (with_reducible assumption) | (with_reducible exact Below.refl _ _) | (with_reducible refine bnew ?_ _) | (with_reducible refine Below.drew ?_) | (with_reducible refine setB ?_ ?_) | omega))
        ((go_at_call 37; (with_reducible refine (coordinates_any _ _).mono ?_); rintro e w' ⟨rfl, hb⟩; have hbb := bcall (get6 (by assumption)) hb; have hbs := hbb.size; (first | (have ZB := Lib.hid (Zed.below (Zed.new2 _ _ _) hb); have ZA := Lib.hid (Zed.below (Zed.old (Zed.new _ _) _) hb)) | (have ZB := Lib.hid (Zed.below (Zed.drew (Zed.new2 _ _ _)) hb); have ZA := Lib.hid (Zed.below (Zed.drew (Zed.old (Zed.new _ _) _)) hb)) | (have ZB := Lib.hid (Zed.below (Zed.new _ _) hb); (try (have ZA := Lib.hid (Zed.below (Zed.old ZA.out _) hb)))) | (have ZA := Lib.hid (Zed.below (Zed.drew (Zed.new _ _)) hb)) | (have ZA := Lib.hid (Zed.below ZA.out hb); (try (have ZB := Lib.hid (Zed.below ZB.out hb)))) | skip); (try (have rA := ZA.out; obtain ⟨⟨ra0, ra1, ra2⟩, ⟨ra3, ra4, ra5⟩, ra6⟩ := rA)); (try (have rB := ZB.out; obtain ⟨⟨rb0, rb1, rb2⟩, ⟨rb3, rb4, rb5⟩, rb6⟩ := rB)); clear hb))
      all_goals go_wp2_with fail
      all_goals go_meet
      all_goals
        refine ⟨_, _, rfl, rfl, ?_, ⟨?_, ?_, ?_⟩, ⟨?_, ?_, ?_⟩, ⟨?_, ?_, ?_⟩, ?_, ?_⟩
        all_goals first | omega | (go_simp; done) | (repeat' first | (with_reducible assumption) | (with_reducible exact Below.refl _ _) | (with_reducible refine bnew ?_ _) | (with_reducible refine Below.drew ?_) | (with_reducible refine setB ?_ ?_) | omega)
    case rest =>
      obtain ⟨g, h, rfl, rfl, hne, ⟨g0, g1, g2⟩, ⟨k0, k1, k2⟩, ⟨f0, f1, f2⟩, hg0, hbc⟩ := hcut
      have hbw := bcall hb0 hbc
      have HP : Hid (∀ n, At3 (wc.drewN n) g p) := Lib.hid fun n => ⟨g0, g1, g2⟩
      have HQ : Hid (∀ n, At3 (wc.drewN n) h q) := Lib.hid fun n => ⟨k0, k1, k2⟩
      clear H hz hb0 hbc hg0 hne g0 g1 g2 k0 k1 k2 f0 f1 f2
      go_wp2_with fail
      go_quiet ((go_at_call 41; exact quietl (compare64_any g h 3 3 p q _ (HP.out _) (HQ.out _))))
      go_wp2_with fail
      go_ret
      exact ⟨ret_int rfl, below_drewN hbw _⟩
end Go.Proofs.Ytiehbakloldkcaa
