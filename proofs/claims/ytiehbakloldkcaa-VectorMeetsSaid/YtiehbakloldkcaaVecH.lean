/- Dot and Distance, Cross, Sub of vectors. -/
import Derived.Test.YtiehbakloldkcaaVecF
namespace Go.Proofs.Ytiehbakloldkcaa
open Go.RowKit
attribute [local go_sem ↓] Go.wp_at_zero Go.wp_at_succ
theorem errV2 (p q : V3) : errV [p, q] = if inV p && inV q then 0 else 6 := by simp [errV]
theorem errV2_no {p q : V3} (h : (inV p && inV q) = false) : Hid (errV [p, q] = 6) := Lib.hid (by rw [errV2, h]; rfl)
theorem errV2_ok {p q : V3} (h : (inV p && inV q) = true) : Hid (errV [p, q] = 0) := Lib.hid (by rw [errV2, h]; rfl)
theorem t_no {n m : Int} (h : Hid (n = m)) (hm : (m != 0) = true) : (n != 0) = true := by rw [h.out]; exact hm
theorem t_ok {n : Int} (h : Hid (n = 0)) : (n != 0) = false := by rw [h.out]; rfl
theorem bd12 {x y : Int} (hx : -1000000 ≤ x ∧ x ≤ 1000000) (hy : -1000000 ≤ y ∧ y ≤ 1000000) : -4000000000000 ≤ x * y ∧ x * y ≤ 4000000000000 := by
  have := mul_bd hx.1 hx.2 hy.1 hy.2
  omega
theorem bd22 {x y : Int} (hx : -2000000 ≤ x ∧ x ≤ 2000000) (hy : -2000000 ≤ y ∧ y ≤ 2000000) : -4000000000000 ≤ x * y ∧ x * y ≤ 4000000000000 := by
  have := mul_bd hx.1 hx.2 hy.1 hy.2
  omega
theorem two_in {p q : V3} (h : (inV p && inV q) = true) : inV p = true ∧ inV q = true := by simpa using h
def dotR (p q : V3) : Int × Int := if inV p && inV q then (dotV p q, 0) else (0, 6)
def crsR (p q : V3) : V3 × Int := if inV p && inV q then (crsV p q, 0) else ((0, 0, 0), 6)
def dstR (p q : V3) : Int × Int := if inV p && inV q then (dotV (subV p q) (subV p q), 0) else (0, 6)
def addR (p q : V3) : V3 × Int := if inV p && inV q then rngV (addV p q) else ((0, 0, 0), 6)
def subR (p q : V3) : V3 × Int := if inV p && inV q then rngV (subV p q) else ((0, 0, 0), 6)

set_option maxHeartbeats 400000 in
theorem vDot_any (p q : V3) (w : World) : Calls Try.prog 22 #[.agg #[.int .i64 p.1, .int .i64 p.2.1, .int .i64 p.2.2], .agg #[.int .i64 q.1, .int .i64 q.2.1, .int .i64 q.2.2]] w fun e w' =>
    e = .returned (.tuple #[.int .i64 (dotR p q).1, .int .i64 (dotR p q).2]) ∧ Below w.heap.size w w' := by
  rcases hin : inV p && inV q with _ | _
  · have HE := errV2_no hin
    have HI := Lib.hid hin
    have t1 := t_no HE rfl
    clear hin
    go_enter Try.func22, Try.ntmps22
    go_wp2_with fail
    refine (checkAll_any _ _ _ [p, q] _ (w.heap.size + 1 + 1 + 1) ?_ ?_ (Lib.hid rfl) (by simp)).mono ?_
    · simp
    · exact RdV.new2 _ _ (by simp) _ p q
    rintro e w1 ⟨rfl, hb⟩
    have hbb := bcall (b3 _ _ _ _) hb
    clear hb
    go_wp2_with fail
    go_ret2
    exact ⟨by simp [dotR, HI.out, HE.out], hbb⟩
  · have HE := errV2_ok hin
    have HI := Lib.hid hin
    have t1 := t_ok HE
    obtain ⟨i1, i2⟩ := two_in hin
    rw [inV_iff] at i1 i2
    obtain ⟨u1, u2, u3⟩ := i1
    obtain ⟨v1, v2, v3⟩ := i2
    have HD : Hid (∀ w, Calls Try.prog 43 #[.agg #[.int .i64 p.1, .int .i64 p.2.1, .int .i64 p.2.2], .agg #[.int .i64 q.1, .int .i64 q.2.1, .int .i64 q.2.2]] w fun e w' => e = .returned (.int .i64 (dotV p q)) ∧ Below w.heap.size w w') :=
      Lib.hid fun w => dot_any p q w (bd12 u1 v1) (bd12 u2 v2) (bd12 u3 v3)
    clear hin u1 u2 u3 v1 v2 v3
    have H3 := Lib.hid (st2 w p q 23 (.cells #[.int .i64 p.1, .int .i64 p.2.1, .int .i64 p.2.2, .int .i64 q.1, .int .i64 q.2.1, .int .i64 q.2.2] 23))
    go_enter Try.func22, Try.ntmps22
    go_wp2_with fail
    refine (checkAll_any _ _ _ [p, q] _ (w.heap.size + 1 + 1 + 1) ?_ ?_ (Lib.hid rfl) (by simp)).mono ?_
    · simp
    · exact RdV.new2 _ _ (by simp) _ p q
    rintro e w1 ⟨rfl, hb⟩
    have H := Lib.hid (H3.out.below hb)
    have hbb0 := bcall (b3 _ _ _ _) hb
    clear hb H3
    go_wp2_with fail
    have hs0 := H.out
    obtain ⟨w3, rfl⟩ : ∃ w3 : World, w3 = w1 := ⟨_, rfl⟩
    go_region_held3 (fun w' => w'.cell? ⟨w.heap.size, 0, none⟩ = some (.int .i64 p.1) ∧ w'.cell? ⟨w.heap.size, 1, none⟩ = some (.int .i64 p.2.1) ∧ w'.cell? ⟨w.heap.size, 2, none⟩ = some (.int .i64 p.2.2) ∧ w'.cell? ⟨w.heap.size + 1, 0, none⟩ = some (.int .i64 q.1) ∧ w'.cell? ⟨w.heap.size + 1, 1, none⟩ = some (.int .i64 q.2.1) ∧ w'.cell? ⟨w.heap.size + 1, 2, none⟩ = some (.int .i64 q.2.2) ∧ Below w3.heap.size w3 w')
      ((refine mk6 H ?_; repeat' first | (with_reducible assumption) | (with_reducible exact Below.refl _ _) | (with_reducible refine bnew ?_ _) | (with_reducible refine Below.drew ?_) | (with_reducible refine setB ?_ ?_) | omega))
      ((first | (go_at_call 37; (with_reducible refine (coordinates_any _ _).mono ?_); rintro e w' ⟨rfl, hb⟩; have hbb := bcall (get6 (by assumption)) hb; clear hb) | (go_at_call 43; (with_reducible refine (HD.out _).mono ?_); rintro e w' ⟨rfl, hb⟩; have hbb := bcall (get6 (by assumption)) hb; clear hb)))
    all_goals
      go_wp2_with fail
      go_ret2
      exact ⟨by simp [dotR, HI.out], bcall hbb0 (by assumption)⟩

set_option maxHeartbeats 400000 in
theorem vDistance_any (p q : V3) (w : World) : Calls Try.prog 24 #[.agg #[.int .i64 p.1, .int .i64 p.2.1, .int .i64 p.2.2], .agg #[.int .i64 q.1, .int .i64 q.2.1, .int .i64 q.2.2]] w fun e w' =>
    e = .returned (.tuple #[.int .i64 (dstR p q).1, .int .i64 (dstR p q).2]) ∧ Below w.heap.size w w' := by
  rcases hin : inV p && inV q with _ | _
  · have HE := errV2_no hin
    have HI := Lib.hid hin
    have t1 := t_no HE rfl
    clear hin
    go_enter Try.func24, Try.ntmps24
    go_wp2_with fail
    refine (checkAll_any _ _ _ [p, q] _ (w.heap.size + 1 + 1 + 1) ?_ ?_ (Lib.hid rfl) (by simp)).mono ?_
    · simp
    · exact RdV.new2 _ _ (by simp) _ p q
    rintro e w1 ⟨rfl, hb⟩
    have hbb := bcall (b3 _ _ _ _) hb
    clear hb
    go_wp2_with fail
    go_ret2
    exact ⟨by simp [dstR, HI.out, HE.out], hbb⟩
  · have HE := errV2_ok hin
    have HI := Lib.hid hin
    have t1 := t_ok HE
    obtain ⟨i1, i2⟩ := two_in hin
    rw [inV_iff] at i1 i2
    obtain ⟨u1, u2, u3⟩ := i1
    obtain ⟨v1, v2, v3⟩ := i2
    have HD : Hid (∀ w, Calls Try.prog 39 #[.agg #[.int .i64 p.1, .int .i64 p.2.1, .int .i64 p.2.2], .agg #[.int .i64 q.1, .int .i64 q.2.1, .int .i64 q.2.2]] w fun e w' => e = .returned (.agg #[.int .i64 (p.1 - q.1), .int .i64 (p.2.1 - q.2.1), .int .i64 (p.2.2 - q.2.2)]) ∧ Below w.heap.size w w') :=
      Lib.hid fun w => difference_any p q w (by omega) (by omega) (by omega)
    have HT : Hid (∀ w, Calls Try.prog 43 #[.agg #[.int .i64 (p.1 - q.1), .int .i64 (p.2.1 - q.2.1), .int .i64 (p.2.2 - q.2.2)], .agg #[.int .i64 (p.1 - q.1), .int .i64 (p.2.1 - q.2.1), .int .i64 (p.2.2 - q.2.2)]] w fun e w' => e = .returned (.int .i64 (dotV (subV p q) (subV p q))) ∧ Below w.heap.size w w') :=
      Lib.hid fun w => dot_any (subV p q) (subV p q) w (bd22 (by unfold subV; omega) (by unfold subV; omega)) (bd22 (by unfold subV; dsimp only; omega) (by unfold subV; dsimp only; omega)) (bd22 (by unfold subV; dsimp only; omega) (by unfold subV; dsimp only; omega))
    clear hin u1 u2 u3 v1 v2 v3
    have H3 := Lib.hid (st2 w p q 23 (.cells #[.int .i64 p.1, .int .i64 p.2.1, .int .i64 p.2.2, .int .i64 q.1, .int .i64 q.2.1, .int .i64 q.2.2] 23))
    go_enter Try.func24, Try.ntmps24
    go_wp2_with fail
    refine (checkAll_any _ _ _ [p, q] _ (w.heap.size + 1 + 1 + 1) ?_ ?_ (Lib.hid rfl) (by simp)).mono ?_
    · simp
    · exact RdV.new2 _ _ (by simp) _ p q
    rintro e w1 ⟨rfl, hb⟩
    obtain ⟨s0, s1, s2, s3, s4, s5⟩ := H3.out.below hb
    have hbb0 := bcall (b3 _ _ _ _) hb
    clear hb H3
    go_wp2_with fail
    (with_reducible refine (HD.out _).mono ?_)
    rintro e w2 ⟨rfl, hb⟩
    have hbb1 := bcall hbb0 hb
    clear hb s0 s1 s2 s3 s4 s5 hbb0
    go_wp2_with fail
    (with_reducible refine (HT.out _).mono ?_)
    rintro e w3 ⟨rfl, hb⟩
    have hbb2 := bcall (bnew hbb1 _) hb
    clear hb
    go_wp2_with fail
    go_ret2
    exact ⟨by simp [dstR, HI.out], hbb2⟩

theorem st4 (w : World) (p q : V3) (t : TypeId) (o o' w1) (hb : Below ((((w.alloc (.cells #[.int .i64 p.1, .int .i64 p.2.1, .int .i64 p.2.2] t)).alloc (.cells #[.int .i64 q.1, .int .i64 q.2.1, .int .i64 q.2.2] t)).alloc o).alloc o').heap.size ((((w.alloc (.cells #[.int .i64 p.1, .int .i64 p.2.1, .int .i64 p.2.2] t)).alloc (.cells #[.int .i64 q.1, .int .i64 q.2.1, .int .i64 q.2.2] t)).alloc o).alloc o') w1) : Six w1 w.heap.size p q :=
  ((st2 w p q t o).below (b1 _ o')).below hb

theorem mk6n {w3 w' : World} {n : Nat} {p q : V3} (h : Hid (Six w3 n p q)) (hb : Below (n + 2) w3 w') :
    w'.cell? ⟨n, 0, none⟩ = some (.int .i64 p.1) ∧ w'.cell? ⟨n, 1, none⟩ = some (.int .i64 p.2.1) ∧ w'.cell? ⟨n, 2, none⟩ = some (.int .i64 p.2.2) ∧ w'.cell? ⟨n + 1, 0, none⟩ = some (.int .i64 q.1) ∧ w'.cell? ⟨n + 1, 1, none⟩ = some (.int .i64 q.2.1) ∧ w'.cell? ⟨n + 1, 2, none⟩ = some (.int .i64 q.2.2) ∧ Below (n + 2) w3 w' :=
  have k : ∀ (b o : Nat) (v : Value), b < n + 2 → w3.cell? ⟨b, o, none⟩ = some v → w'.cell? ⟨b, o, none⟩ = some v := fun b o v hl hv => (hb.cell (p := ⟨b, o, none⟩) hl).trans hv
  have h := h.out
  ⟨k _ _ _ (by omega) h.1, k _ _ _ (by omega) h.2.1, k _ _ _ (by omega) h.2.2.1, k _ _ _ (by omega) h.2.2.2.1, k _ _ _ (by omega) h.2.2.2.2.1, k _ _ _ (by omega) h.2.2.2.2.2, hb⟩
theorem bcallN {N : Nat} {w3 X w' : World} {a b c d e f : Prop} (hz : N ≤ w3.heap.size) (h : a ∧ b ∧ c ∧ d ∧ e ∧ f ∧ Below N w3 X) (hb : Below X.heap.size X w') : Below N w3 w' := h.2.2.2.2.2.2.trans (hb.mono (Nat.le_trans hz h.2.2.2.2.2.2.size))

set_option maxHeartbeats 400000 in
theorem vCross_any (p q : V3) (w : World) : Calls Try.prog 23 #[.agg #[.int .i64 p.1, .int .i64 p.2.1, .int .i64 p.2.2], .agg #[.int .i64 q.1, .int .i64 q.2.1, .int .i64 q.2.2]] w fun e w' =>
    e = .returned (.tuple #[.agg #[.int .i64 (crsR p q).1.1, .int .i64 (crsR p q).1.2.1, .int .i64 (crsR p q).1.2.2], .int .i64 (crsR p q).2]) ∧ Below w.heap.size w w' := by
  rcases hin : inV p && inV q with _ | _
  · have HE := errV2_no hin
    have HI := Lib.hid hin
    have t1 := t_no HE rfl
    clear hin
    have Z0 := Lib.hid (Zed.new3 w (.cells #[.int .i64 p.1, .int .i64 p.2.1, .int .i64 p.2.2] 23) (.cells #[.int .i64 q.1, .int .i64 q.2.1, .int .i64 q.2.2] 23) 36)
    go_enter Try.func23, Try.ntmps23
    go_wp2_with fail
    refine (checkAll_any _ _ _ [p, q] _ (w.heap.size + 1 + 1 + 1 + 1) ?_ ?_ (Lib.hid rfl) (by simp)).mono ?_
    · simp
    · exact RdV.new2 _ _ (by simp) _ p q
    rintro e w1 ⟨rfl, hb⟩
    obtain ⟨⟨ra0, ra1, ra2⟩, ⟨ra3, ra4, ra5⟩, ra6⟩ := Zed.below (Zed.old Z0.out _) hb
    have hbb := bcall (b4 _ _ _ _ _) hb
    clear hb Z0
    go_wp2_with fail
    refine bodyPost_ret (v := .tuple #[.agg #[.int .i64 0, .int .i64 0, .int .i64 0], .int .i64 6]) ?_ rfl ⟨by simp [crsR, HI.out], ?_⟩
    · simp [results, Try.results23, go_sem, HE.out, *]
    · repeat' first | (with_reducible assumption) | (with_reducible refine setB ?_ ?_) | omega
  · have HE := errV2_ok hin
    have HI := Lib.hid hin
    have t1 := t_ok HE
    obtain ⟨i1, i2⟩ := two_in hin
    rw [inV_iff] at i1 i2
    obtain ⟨u1, u2, u3⟩ := i1
    obtain ⟨v1, v2, v3⟩ := i2
    have HD : Hid (∀ w, Calls Try.prog 44 #[.agg #[.int .i64 p.1, .int .i64 p.2.1, .int .i64 p.2.2], .agg #[.int .i64 q.1, .int .i64 q.2.1, .int .i64 q.2.2]] w fun e w' => e = .returned (.agg #[.int .i64 (crsV p q).1, .int .i64 (crsV p q).2.1, .int .i64 (crsV p q).2.2]) ∧ Below w.heap.size w w') :=
      Lib.hid fun w => cross_any p q w (bd12 u1 v2) (bd12 u1 v3) (bd12 u2 v1) (bd12 u2 v3) (bd12 u3 v1) (bd12 u3 v2)
    clear hin u1 u2 u3 v1 v2 v3
    have Z0 := Lib.hid (Zed.new3 w (.cells #[.int .i64 p.1, .int .i64 p.2.1, .int .i64 p.2.2] 23) (.cells #[.int .i64 q.1, .int .i64 q.2.1, .int .i64 q.2.2] 23) 36)
    go_enter Try.func23, Try.ntmps23
    go_wp2_with fail
    refine (checkAll_any _ _ _ [p, q] _ (w.heap.size + 1 + 1 + 1 + 1) ?_ ?_ (Lib.hid rfl) (by simp)).mono ?_
    · simp
    · exact RdV.new2 _ _ (by simp) _ p q
    rintro e w1 ⟨rfl, hb⟩
    have H := Lib.hid (st4 w p q 23 _ _ _ hb)
    have ZZ := Lib.hid (Zed.below (Zed.old Z0.out _) hb)
    have hbb0 := bcall (b4 _ _ _ _ _) hb
    clear hb Z0
    go_wp2_with fail
    obtain ⟨w3, rfl⟩ : ∃ w3 : World, w3 = w1 := ⟨_, rfl⟩
    go_upto_region 4 with fail
    have hz3 : w.heap.size + 2 ≤ w3.heap.size := by have := ZZ.out.2.2; omega
    go_region_held3 (fun w' => w'.cell? ⟨w.heap.size, 0, none⟩ = some (.int .i64 p.1) ∧ w'.cell? ⟨w.heap.size, 1, none⟩ = some (.int .i64 p.2.1) ∧ w'.cell? ⟨w.heap.size, 2, none⟩ = some (.int .i64 p.2.2) ∧ w'.cell? ⟨w.heap.size + 1, 0, none⟩ = some (.int .i64 q.1) ∧ w'.cell? ⟨w.heap.size + 1, 1, none⟩ = some (.int .i64 q.2.1) ∧ w'.cell? ⟨w.heap.size + 1, 2, none⟩ = some (.int .i64 q.2.2) ∧ Below (w.heap.size + 2) w3 w')
      ((refine mk6n H ?_; repeat' first | (with_reducible assumption) | (with_reducible exact Below.refl _ _) | (with_reducible refine bnew ?_ _) | (with_reducible refine Below.drew ?_) | (with_reducible refine setB ?_ ?_) | omega))
      ((first | (go_at_call 37; (with_reducible refine (coordinates_any _ _).mono ?_); rintro e w' ⟨rfl, hb⟩; have hbb := bcallN hz3 (by assumption) hb; (first | (have ZZ := Lib.hid (Zed.below ZZ.out hb)) | (have ZZ := Lib.hid (Zed.below (Zed.drew ZZ.out) hb))); clear hb) | (go_at_call 44; (with_reducible refine (HD.out _).mono ?_); rintro e w' ⟨rfl, hb⟩; have hbb := bcallN hz3 (by assumption) hb; have rr := Zed.below ZZ.out hb; obtain ⟨⟨ra0, ra1, ra2⟩, ⟨ra3, ra4, ra5⟩, ra6⟩ := rr; clear hb)))
    all_goals
      go_wp2_with fail
      refine bodyPost_ret (v := .tuple #[.agg #[.int .i64 (crsV p q).1, .int .i64 (crsV p q).2.1, .int .i64 (crsV p q).2.2], .int .i64 0]) ?_ rfl ⟨by simp [crsR, HI.out], ?_⟩
      · simp [results, Try.results23, go_sem, *]
      · refine hbb0.trans ?_
        refine Below.mono (show Below (w.heap.size + 2) _ _ from ?_) (by omega)
        repeat' first | (with_reducible assumption) | (with_reducible refine setB ?_ ?_) | omega

set_option maxHeartbeats 400000 in
theorem vSub_any (p q : V3) (w : World) : Calls Try.prog 14 #[.agg #[.int .i64 p.1, .int .i64 p.2.1, .int .i64 p.2.2], .agg #[.int .i64 q.1, .int .i64 q.2.1, .int .i64 q.2.2]] w fun e w' =>
    e = .returned (.tuple #[.agg #[.int .i64 (subR p q).1.1, .int .i64 (subR p q).1.2.1, .int .i64 (subR p q).1.2.2], .int .i64 (subR p q).2]) ∧ Below w.heap.size w w' := by
  rcases hin : inV p && inV q with _ | _
  · have HE := errV2_no hin
    have HI := Lib.hid hin
    have t1 := t_no HE rfl
    clear hin
    have Z0 := Lib.hid (Zed.new3 w (.cells #[.int .i64 p.1, .int .i64 p.2.1, .int .i64 p.2.2] 23) (.cells #[.int .i64 q.1, .int .i64 q.2.1, .int .i64 q.2.2] 23) 23)
    go_enter Try.func14, Try.ntmps14
    go_wp2_with fail
    refine (checkAll_any _ _ _ [p, q] _ (w.heap.size + 1 + 1 + 1 + 1) ?_ ?_ (Lib.hid rfl) (by simp)).mono ?_
    · simp
    · exact RdV.new2 _ _ (by simp) _ p q
    rintro e w1 ⟨rfl, hb⟩
    obtain ⟨⟨ra0, ra1, ra2⟩, ⟨ra3, ra4, ra5⟩, ra6⟩ := Zed.below (Zed.old Z0.out _) hb
    have hbb := bcall (b4 _ _ _ _ _) hb
    clear hb Z0
    go_wp2_with fail
    refine bodyPost_ret (v := .tuple #[.agg #[.int .i64 0, .int .i64 0, .int .i64 0], .int .i64 6]) ?_ rfl ⟨by simp [subR, HI.out], ?_⟩
    · simp [results, Try.results14, go_sem, HE.out, *]
    · repeat' first | (with_reducible assumption) | (with_reducible refine setB ?_ ?_) | omega
  · have HE := errV2_ok hin
    have HI := Lib.hid hin
    have t1 := t_ok HE
    obtain ⟨i1, i2⟩ := two_in hin
    rw [inV_iff] at i1 i2
    obtain ⟨u1, u2, u3⟩ := i1
    obtain ⟨v1, v2, v3⟩ := i2
    have HD : Hid (∀ w, Calls Try.prog 39 #[.agg #[.int .i64 p.1, .int .i64 p.2.1, .int .i64 p.2.2], .agg #[.int .i64 q.1, .int .i64 q.2.1, .int .i64 q.2.2]] w fun e w' => e = .returned (.agg #[.int .i64 (subV p q).1, .int .i64 (subV p q).2.1, .int .i64 (subV p q).2.2]) ∧ Below w.heap.size w w') :=
      Lib.hid fun w => difference_any p q w (by omega) (by omega) (by omega)
    clear hin u1 u2 u3 v1 v2 v3
    have Z0 := Lib.hid (Zed.new3 w (.cells #[.int .i64 p.1, .int .i64 p.2.1, .int .i64 p.2.2] 23) (.cells #[.int .i64 q.1, .int .i64 q.2.1, .int .i64 q.2.2] 23) 23)
    go_enter Try.func14, Try.ntmps14
    go_wp2_with fail
    refine (checkAll_any _ _ _ [p, q] _ (w.heap.size + 1 + 1 + 1 + 1) ?_ ?_ (Lib.hid rfl) (by simp)).mono ?_
    · simp
    · exact RdV.new2 _ _ (by simp) _ p q
    rintro e w1 ⟨rfl, hb⟩
    obtain ⟨s0, s1, s2, s3, s4, s5⟩ := st4 w p q 23 _ _ _ hb
    have ZZ := Lib.hid (Zed.below (Zed.old Z0.out _) hb)
    have hbb0 := bcall (b4 _ _ _ _ _) hb
    clear hb Z0
    go_wp2_with fail
    (with_reducible refine (HD.out _).mono ?_)
    rintro e w2 ⟨rfl, hb⟩
    have ZY := Lib.hid (Zed.below ZZ.out hb)
    have hbb1 := bcall hbb0 hb
    clear hb s0 s1 s2 s3 s4 s5 hbb0 ZZ
    go_wp2_with fail
    (with_reducible refine (ranged_any _ _).mono ?_)
    rintro e w3 ⟨rfl, hb⟩
    obtain ⟨⟨ra0, ra1, ra2⟩, ⟨ra3, ra4, ra5⟩, ra6⟩ := Zed.below ZY.out hb
    have hbb2 := bcall hbb1 hb
    clear hb ZY hbb1
    go_wp2_with fail
    refine bodyPost_ret (v := .tuple #[.agg #[.int .i64 (rngV (subV p q)).1.1, .int .i64 (rngV (subV p q)).1.2.1, .int .i64 (rngV (subV p q)).1.2.2], .int .i64 (rngV (subV p q)).2]) ?_ rfl ⟨by simp [subR, HI.out], ?_⟩
    · simp [results, Try.results14, go_sem, *]
    · repeat' first | (with_reducible assumption) | (with_reducible refine setB ?_ ?_) | omega

end Go.Proofs.Ytiehbakloldkcaa
