/- The turn at three points; the lesser and the greater of two vectors by MinFunc and MaxFunc. -/
import Derived.Test.YtiehbakloldkcaaVecF
import Derived.Test.YtiehbakloldkcaaVecH
namespace Go.Proofs.Ytiehbakloldkcaa
open Go.RowKit
attribute [local go_sem ↓] Go.wp_at_zero Go.wp_at_succ
def pr (v : V3) : P2 := (v.1, v.2.1)
/-- Behind a call in a drawn region that carries along what lies in front of the bar. -/
theorem bcall9 {w3 X w' : World} {a b c d e f g h i : Prop} (h9 : a ∧ b ∧ c ∧ d ∧ e ∧ f ∧ g ∧ h ∧ i ∧ Below w3.heap.size w3 X) (hb : Below X.heap.size X w') : Below w3.heap.size w3 w' := bcall h9.2.2.2.2.2.2.2.2.2 hb
theorem mk9 {w3 w' : World} {n1 n2 n3 : Nat} {p q r : V3} (hp : Hid (At3 w3 n1 p ∧ At3 w3 n2 q ∧ At3 w3 n3 r)) (hb : Below w3.heap.size w3 w') :
    w'.cell? ⟨n1, 0, none⟩ = some (.int .i64 p.1) ∧ w'.cell? ⟨n1, 1, none⟩ = some (.int .i64 p.2.1) ∧ w'.cell? ⟨n1, 2, none⟩ = some (.int .i64 p.2.2) ∧ w'.cell? ⟨n2, 0, none⟩ = some (.int .i64 q.1) ∧ w'.cell? ⟨n2, 1, none⟩ = some (.int .i64 q.2.1) ∧ w'.cell? ⟨n2, 2, none⟩ = some (.int .i64 q.2.2) ∧ w'.cell? ⟨n3, 0, none⟩ = some (.int .i64 r.1) ∧ w'.cell? ⟨n3, 1, none⟩ = some (.int .i64 r.2.1) ∧ w'.cell? ⟨n3, 2, none⟩ = some (.int .i64 r.2.2) ∧ Below w3.heap.size w3 w' :=
  have h1 := hp.out.1.below hb
  have h2 := hp.out.2.1.below hb
  have h3 := hp.out.2.2.below hb
  ⟨h1.1, h1.2.1, h1.2.2, h2.1, h2.2.1, h2.2.2, h3.1, h3.2.1, h3.2.2, hb⟩

set_option maxHeartbeats 1000000 in
theorem turn_any (a b c : V3) (ha : inV a = true) (hb : inV b = true) (hc : inV c = true) (w : World) : Calls Try.prog 50 #[.agg #[.int .i64 a.1, .int .i64 a.2.1, .int .i64 a.2.2], .agg #[.int .i64 b.1, .int .i64 b.2.1, .int .i64 b.2.2], .agg #[.int .i64 c.1, .int .i64 c.2.1, .int .i64 c.2.2]] w fun e w' =>
    e = .returned (.int .i64 (trn (pr a) (pr b) (pr c))) ∧ Below w.heap.size w w' := by
  rw [inV_iff] at ha hb hc
  obtain ⟨a1, a2, a3⟩ := ha
  obtain ⟨b1', b2', b3'⟩ := hb
  obtain ⟨c1, c2, c3⟩ := hc
  have HD1 : Hid (∀ w, Calls Try.prog 39 #[.agg #[.int .i64 b.1, .int .i64 b.2.1, .int .i64 b.2.2], .agg #[.int .i64 a.1, .int .i64 a.2.1, .int .i64 a.2.2]] w fun e w' => e = .returned (.agg #[.int .i64 (subV b a).1, .int .i64 (subV b a).2.1, .int .i64 (subV b a).2.2]) ∧ Below w.heap.size w w') := Lib.hid fun w => difference_any b a w (by omega) (by omega) (by omega)
  have HD2 : Hid (∀ w, Calls Try.prog 39 #[.agg #[.int .i64 c.1, .int .i64 c.2.1, .int .i64 c.2.2], .agg #[.int .i64 a.1, .int .i64 a.2.1, .int .i64 a.2.2]] w fun e w' => e = .returned (.agg #[.int .i64 (subV c a).1, .int .i64 (subV c a).2.1, .int .i64 (subV c a).2.2]) ∧ Below w.heap.size w w') := Lib.hid fun w => difference_any c a w (by omega) (by omega) (by omega)
  have y1 : -2000000 ≤ (subV b a).1 ∧ (subV b a).1 ≤ 2000000 := by unfold subV; dsimp only; omega
  have y2 : -2000000 ≤ (subV b a).2.1 ∧ (subV b a).2.1 ≤ 2000000 := by unfold subV; dsimp only; omega
  have y3 : -2000000 ≤ (subV b a).2.2 ∧ (subV b a).2.2 ≤ 2000000 := by unfold subV; dsimp only; omega
  have z1 : -2000000 ≤ (subV c a).1 ∧ (subV c a).1 ≤ 2000000 := by unfold subV; dsimp only; omega
  have z2 : -2000000 ≤ (subV c a).2.1 ∧ (subV c a).2.1 ≤ 2000000 := by unfold subV; dsimp only; omega
  have z3 : -2000000 ≤ (subV c a).2.2 ∧ (subV c a).2.2 ≤ 2000000 := by unfold subV; dsimp only; omega
  have HX : Hid (∀ w, Calls Try.prog 44 #[.agg #[.int .i64 (subV b a).1, .int .i64 (subV b a).2.1, .int .i64 (subV b a).2.2], .agg #[.int .i64 (subV c a).1, .int .i64 (subV c a).2.1, .int .i64 (subV c a).2.2]] w fun e w' => e = .returned (.agg #[.int .i64 (crsV (subV b a) (subV c a)).1, .int .i64 (crsV (subV b a) (subV c a)).2.1, .int .i64 (crsV (subV b a) (subV c a)).2.2]) ∧ Below w.heap.size w w') :=
    Lib.hid fun w => cross_any (subV b a) (subV c a) w (bd22 y1 z2) (bd22 y1 z3) (bd22 y2 z1) (bd22 y2 z3) (bd22 y3 z1) (bd22 y3 z2)
  have HR : Hid (sgn (crsV (subV b a) (subV c a)).2.2 = trn (pr a) (pr b) (pr c)) := Lib.hid rfl
  clear a1 a2 a3 b1' b2' b3' c1 c2 c3 y1 y2 y3 z1 z2 z3
  generalize subV b a = u at *
  generalize subV c a = v at *
  generalize crsV u v = x at *
  have i2 : ∀ w, (Instr.index 36 (.agg #[.int .i64 x.1, .int .i64 x.2.1, .int .i64 x.2.2]) (.int .i64 2)).run Try.prog w = .ok (.int .i64 x.2.2) w := fun _ => by kernel_rfl
  have H : Hid (At3 (((w.alloc (.cells #[.int .i64 a.1, .int .i64 a.2.1, .int .i64 a.2.2] 23)).alloc (.cells #[.int .i64 b.1, .int .i64 b.2.1, .int .i64 b.2.2] 23)).alloc (.cells #[.int .i64 c.1, .int .i64 c.2.1, .int .i64 c.2.2] 23)) (w.heap.size) a ∧ At3 (((w.alloc (.cells #[.int .i64 a.1, .int .i64 a.2.1, .int .i64 a.2.2] 23)).alloc (.cells #[.int .i64 b.1, .int .i64 b.2.1, .int .i64 b.2.2] 23)).alloc (.cells #[.int .i64 c.1, .int .i64 c.2.1, .int .i64 c.2.2] 23)) (w.heap.size + 1) b ∧ At3 (((w.alloc (.cells #[.int .i64 a.1, .int .i64 a.2.1, .int .i64 a.2.2] 23)).alloc (.cells #[.int .i64 b.1, .int .i64 b.2.1, .int .i64 b.2.2] 23)).alloc (.cells #[.int .i64 c.1, .int .i64 c.2.1, .int .i64 c.2.2] 23)) (w.heap.size + 1 + 1) c) := Lib.hid ⟨((At3.new w 23 a).old _).old _, (At3.new2 w _ 23 b).old _, At3.new3 w _ _ 23 c⟩
  have hb0 := b3 w (.cells #[.int .i64 a.1, .int .i64 a.2.1, .int .i64 a.2.2] 23) (.cells #[.int .i64 b.1, .int .i64 b.2.1, .int .i64 b.2.2] 23) (.cells #[.int .i64 c.1, .int .i64 c.2.1, .int .i64 c.2.2] 23)
  go_enter Try.func50, Try.ntmps50
  go_upto_region 1 with fail
  generalize (((w.alloc (.cells #[.int .i64 a.1, .int .i64 a.2.1, .int .i64 a.2.2] 23)).alloc (.cells #[.int .i64 b.1, .int .i64 b.2.1, .int .i64 b.2.2] 23)).alloc (.cells #[.int .i64 c.1, .int .i64 c.2.1, .int .i64 c.2.2] 23)) = w3 at *
  go_region_held3 (fun w' => w'.cell? ⟨(w.heap.size), 0, none⟩ = some (.int .i64 a.1) ∧ w'.cell? ⟨(w.heap.size), 1, none⟩ = some (.int .i64 a.2.1) ∧ w'.cell? ⟨(w.heap.size), 2, none⟩ = some (.int .i64 a.2.2) ∧ w'.cell? ⟨(w.heap.size + 1), 0, none⟩ = some (.int .i64 b.1) ∧ w'.cell? ⟨(w.heap.size + 1), 1, none⟩ = some (.int .i64 b.2.1) ∧ w'.cell? ⟨(w.heap.size + 1), 2, none⟩ = some (.int .i64 b.2.2) ∧ w'.cell? ⟨(w.heap.size + 1 + 1), 0, none⟩ = some (.int .i64 c.1) ∧ w'.cell? ⟨(w.heap.size + 1 + 1), 1, none⟩ = some (.int .i64 c.2.1) ∧ w'.cell? ⟨(w.heap.size + 1 + 1), 2, none⟩ = some (.int .i64 c.2.2) ∧ Below w3.heap.size w3 w')
    ((refine mk9 H ?_; repeat' first | (with_reducible assumption) | (with_reducible exact Below.refl _ _) | (with_reducible refine bnew ?_ _) | (with_reducible refine Below.drew ?_)))
    ((first | (go_at_call 39; (first | (with_reducible refine (HD1.out _).mono ?_) | (with_reducible refine (HD2.out _).mono ?_)); rintro e w' ⟨rfl, hb⟩; have hbb := bcall9 (by assumption) hb; clear hb) | (go_at_call 44; (with_reducible refine (HX.out _).mono ?_); rintro e w' ⟨rfl, hb⟩; have hbb := bcall9 (by assumption) hb; clear hb) | (go_at_call 54; (with_reducible refine (cmp64_any _ _ _).mono ?_); rintro e w' ⟨rfl, rfl⟩)))
  all_goals
    go_wp2_with fail
    go_ret
    exact ⟨ret_int HR.out, bcall hb0 (by assumption)⟩

def fstV (a b : V3) : V3 := if befV b a then b else a
def lstV (a b : V3) : V3 := if befV a b then b else a
def At6 (w : World) (m : Nat) (p q : V3) : Prop := (w.cell? ⟨m, 0, none⟩ = some (.int .i64 p.1) ∧ w.cell? ⟨m, 1, none⟩ = some (.int .i64 p.2.1) ∧ w.cell? ⟨m, 2, none⟩ = some (.int .i64 p.2.2)) ∧ (w.cell? ⟨m, 3, none⟩ = some (.int .i64 q.1) ∧ w.cell? ⟨m, 4, none⟩ = some (.int .i64 q.2.1) ∧ w.cell? ⟨m, 5, none⟩ = some (.int .i64 q.2.2))
theorem At6.new (w : World) (t : TypeId) (p q : V3) : At6 (w.alloc (.cells #[.int .i64 p.1, .int .i64 p.2.1, .int .i64 p.2.2, .int .i64 q.1, .int .i64 q.2.1, .int .i64 q.2.2] t)) w.heap.size p q :=
  ⟨⟨cnew w _ t 0 _ rfl, cnew w _ t 1 _ rfl, cnew w _ t 2 _ rfl⟩, ⟨cnew w _ t 3 _ rfl, cnew w _ t 4 _ rfl, cnew w _ t 5 _ rfl⟩⟩
theorem At6.old {w : World} {m : Nat} {p q : V3} (h : At6 w m p q) (o : Obj) : At6 (w.alloc o) m p q := ⟨⟨keepa h.1.1 o, keepa h.1.2.1 o, keepa h.1.2.2 o⟩, ⟨keepa h.2.1 o, keepa h.2.2.1 o, keepa h.2.2.2 o⟩⟩
theorem At6.drew {w : World} {m : Nat} {p q : V3} (h : At6 w m p q) : At6 w.drew m p q := h
theorem At6.below {w w' : World} {m : Nat} {p q : V3} (h : At6 w m p q) (hb : Below w.heap.size w w') : At6 w' m p q := ⟨⟨keepc h.1.1 hb, keepc h.1.2.1 hb, keepc h.1.2.2 hb⟩, ⟨keepc h.2.1 hb, keepc h.2.2.1 hb, keepc h.2.2.2 hb⟩⟩
theorem At6.lt {w : World} {m : Nat} {p q : V3} (h : At6 w m p q) : m < w.heap.size := lt_of_cell h.1.1
/-- The three cells at block b are x, and may be written. -/
def Own3 (w : World) (b : Nat) (x : V3) : Prop := At3 w b x ∧ (w.frozen? ⟨b, 0, none⟩ = false ∧ w.frozen? ⟨b, 1, none⟩ = false ∧ w.frozen? ⟨b, 2, none⟩ = false)
theorem Own3.new (w : World) (t : TypeId) (x : V3) : Own3 (w.alloc (.cells #[.int .i64 x.1, .int .i64 x.2.1, .int .i64 x.2.2] t)) w.heap.size x := ⟨At3.new w t x, fnew w _ t 0, fnew w _ t 1, fnew w _ t 2⟩
theorem Own3.new2 (w : World) (o : Obj) (t : TypeId) (x : V3) : Own3 ((w.alloc o).alloc (.cells #[.int .i64 x.1, .int .i64 x.2.1, .int .i64 x.2.2] t)) (w.heap.size + 1) x := ⟨At3.new2 w o t x, fnew2 w o _ t 0, fnew2 w o _ t 1, fnew2 w o _ t 2⟩
theorem Own3.old {w : World} {b : Nat} {x : V3} (h : Own3 w b x) (o : Obj) : Own3 (w.alloc o) b x := ⟨h.1.old o, keepfa h.2.1 h.1.lt o, keepfa h.2.2.1 h.1.lt o, keepfa h.2.2.2 h.1.lt o⟩
theorem Own3.below {w w' : World} {b : Nat} {x : V3} (h : Own3 w b x) (hb : Below w.heap.size w w') : Own3 w' b x := ⟨h.1.below hb, keepf h.1.1 h.2.1 hb, keepf h.1.2.1 h.2.2.1 hb, keepf h.1.2.2 h.2.2.2 hb⟩
theorem mkm {w3 w' : World} {m n : Nat} {p q : V3} (h : Hid (At6 w3 m p q ∧ At3 w3 n p)) (hb : Below w3.heap.size w3 w') :
    w'.cell? ⟨m, 3, none⟩ = some (.int .i64 q.1) ∧ w'.cell? ⟨m, 4, none⟩ = some (.int .i64 q.2.1) ∧ w'.cell? ⟨m, 5, none⟩ = some (.int .i64 q.2.2) ∧ w'.cell? ⟨n, 0, none⟩ = some (.int .i64 p.1) ∧ w'.cell? ⟨n, 1, none⟩ = some (.int .i64 p.2.1) ∧ w'.cell? ⟨n, 2, none⟩ = some (.int .i64 p.2.2) ∧ Below w3.heap.size w3 w' :=
  have h1 := h.out.1.below hb
  have h2 := h.out.2.below hb
  ⟨h1.2.1, h1.2.2.1, h1.2.2.2, h2.1, h2.2.1, h2.2.2, hb⟩
theorem getm {w3 X : World} {a b c d e f : Prop} (h : a ∧ b ∧ c ∧ d ∧ e ∧ f ∧ Below w3.heap.size w3 X) : Below w3.heap.size w3 X := h.2.2.2.2.2.2

set_option maxHeartbeats 1000000 in
theorem minVec_any (m c : Nat) (p q : V3) (w : World) (h : At6 w m p q) : Calls Try.prog 58 #[.slice (some ⟨m, 0, none⟩) 2 c, .func (.func 17) #[] #[]] w fun e w' =>
    e = .returned (.agg #[.int .i64 (fstV p q).1, .int .i64 (fstV p q).2.1, .int .i64 (fstV p q).2.2]) ∧ Below w.heap.size w w' := by
  have hm := h.lt
  have H : Hid (At6 ((w.alloc (.cells #[.int .i64 0, .int .i64 0, .int .i64 0] 23)).alloc (.cells #[.int .i64 p.1, .int .i64 p.2.1, .int .i64 p.2.2] 23)) m p q ∧ At3 ((w.alloc (.cells #[.int .i64 0, .int .i64 0, .int .i64 0] 23)).alloc (.cells #[.int .i64 p.1, .int .i64 p.2.1, .int .i64 p.2.2] 23)) (w.heap.size + 1) p) := Lib.hid ⟨(h.old _).old _, At3.new2 w _ 23 p⟩
  have O4 := Lib.hid ((Own3.new w 23 (0, 0, 0)).old (.cells #[.int .i64 p.1, .int .i64 p.2.1, .int .i64 p.2.2] 23))
  have O5 := Lib.hid (Own3.new2 w (.cells #[.int .i64 0, .int .i64 0, .int .i64 0] 23) 23 p)
  have hb0 := b2 w (.cells #[.int .i64 0, .int .i64 0, .int .i64 0] 23) (.cells #[.int .i64 p.1, .int .i64 p.2.1, .int .i64 p.2.2] 23)
  have HB : Hid (decide (cmpV q p < 0) = befV q p) := Lib.hid (by
    rcases cmpV_cases q p with ⟨h, h', e⟩ | ⟨h, h', e⟩ | ⟨h, h', e⟩ <;> rw [e]
    · simp [h]
    · simp [h']
    · subst h; simp [h'])
  obtain ⟨⟨g0, g1, g2⟩, g3, g4, g5⟩ := h
  rcases hbq : befV q p with _ | _
  · have HI := Lib.hid hbq
    have t1 : decide (cmpV q p < 0) = false := by rw [HB.out, hbq]
    clear hbq HB
    go_enter Try.func58, Try.ntmps58
    go_wp2_with fail
    refine wp_loop_rounds 2 ?_
    rw [rounds_succ]
    go_wp2_with fail
    clear g0 g1 g2 g3 g4 g5
    generalize ((w.alloc (.cells #[.int .i64 0, .int .i64 0, .int .i64 0] 23)).alloc (.cells #[.int .i64 p.1, .int .i64 p.2.1, .int .i64 p.2.2] 23)) = w3 at *
    go_region_held3 (fun w' => w'.cell? ⟨m, 3, none⟩ = some (.int .i64 q.1) ∧ w'.cell? ⟨m, 4, none⟩ = some (.int .i64 q.2.1) ∧ w'.cell? ⟨m, 5, none⟩ = some (.int .i64 q.2.2) ∧ w'.cell? ⟨(w.heap.size + 1), 0, none⟩ = some (.int .i64 p.1) ∧ w'.cell? ⟨(w.heap.size + 1), 1, none⟩ = some (.int .i64 p.2.1) ∧ w'.cell? ⟨(w.heap.size + 1), 2, none⟩ = some (.int .i64 p.2.2) ∧ Below w3.heap.size w3 w')
      ((refine mkm H ?_; repeat' first | (with_reducible assumption) | (with_reducible exact Below.refl _ _) | (with_reducible refine Below.drew ?_)))
      ((go_at_call 17; (with_reducible refine (vCompare_any _ _ _).mono ?_); rintro e w' ⟨rfl, hb⟩; have hbb := bcall (getm (by assumption)) hb; clear hb))
    rename_i hHl
    have hbb := getm hHl
    clear hHl
    have r6 := H.out.1.below hbb
    obtain ⟨⟨g0, g1, g2⟩, g3, g4, g5⟩ := r6
    have r4 := O4.out.below hbb
    obtain ⟨⟨a0, a1, a2⟩, a3, a4, a5⟩ := r4
    have r5 := O5.out.below hbb
    obtain ⟨⟨c0, c1, c2⟩, c3, c4, c5⟩ := r5
    have hbw := bcall hb0 hbb
    clear H O4 O5 hbb hb0
    go_wp2_with fail
    rw [rounds_succ]
    go_wp2_with fail
    refine bodyPost_ret (v := .agg #[.int .i64 p.1, .int .i64 p.2.1, .int .i64 p.2.2]) ?_ rfl ⟨by simp [fstV, HI.out], ?_⟩
    · simp [results, Try.results58, go_sem, *]
    · repeat' first | (with_reducible assumption) | (with_reducible refine setB ?_ ?_) | (with_reducible refine Below.drew ?_) | omega
  · have HI := Lib.hid hbq
    have t1 : decide (cmpV q p < 0) = true := by rw [HB.out, hbq]
    clear hbq HB
    go_enter Try.func58, Try.ntmps58
    go_wp2_with fail
    refine wp_loop_rounds 2 ?_
    rw [rounds_succ]
    go_wp2_with fail
    clear g0 g1 g2 g3 g4 g5
    generalize ((w.alloc (.cells #[.int .i64 0, .int .i64 0, .int .i64 0] 23)).alloc (.cells #[.int .i64 p.1, .int .i64 p.2.1, .int .i64 p.2.2] 23)) = w3 at *
    go_region_held3 (fun w' => w'.cell? ⟨m, 3, none⟩ = some (.int .i64 q.1) ∧ w'.cell? ⟨m, 4, none⟩ = some (.int .i64 q.2.1) ∧ w'.cell? ⟨m, 5, none⟩ = some (.int .i64 q.2.2) ∧ w'.cell? ⟨(w.heap.size + 1), 0, none⟩ = some (.int .i64 p.1) ∧ w'.cell? ⟨(w.heap.size + 1), 1, none⟩ = some (.int .i64 p.2.1) ∧ w'.cell? ⟨(w.heap.size + 1), 2, none⟩ = some (.int .i64 p.2.2) ∧ Below w3.heap.size w3 w')
      ((refine mkm H ?_; repeat' first | (with_reducible assumption) | (with_reducible exact Below.refl _ _) | (with_reducible refine Below.drew ?_)))
      ((go_at_call 17; (with_reducible refine (vCompare_any _ _ _).mono ?_); rintro e w' ⟨rfl, hb⟩; have hbb := bcall (getm (by assumption)) hb; clear hb))
    rename_i hHl
    have hbb := getm hHl
    clear hHl
    have r6 := H.out.1.below hbb
    obtain ⟨⟨g0, g1, g2⟩, g3, g4, g5⟩ := r6
    have r4 := O4.out.below hbb
    obtain ⟨⟨a0, a1, a2⟩, a3, a4, a5⟩ := r4
    have r5 := O5.out.below hbb
    obtain ⟨⟨c0, c1, c2⟩, c3, c4, c5⟩ := r5
    have hbw := bcall hb0 hbb
    clear H O4 O5 hbb hb0
    go_wp2_with fail
    rw [rounds_succ]
    go_wp2_with fail
    refine bodyPost_ret (v := .agg #[.int .i64 q.1, .int .i64 q.2.1, .int .i64 q.2.2]) ?_ rfl ⟨by simp [fstV, HI.out], ?_⟩
    · simp [results, Try.results58, go_sem, *]
    · repeat' first | (with_reducible assumption) | (with_reducible refine setB ?_ ?_) | (with_reducible refine Below.drew ?_) | omega

theorem fstV_any (m c : Nat) (p q : V3) (w : World) (h : At6 w m p q) : Calls Try.prog 57 #[.slice (some ⟨m, 0, none⟩) 2 c] w fun e w' =>
    e = .returned (.agg #[.int .i64 (fstV p q).1, .int .i64 (fstV p q).2.1, .int .i64 (fstV p q).2.2]) ∧ Below w.heap.size w w' := by
  have O4 := Lib.hid (Own3.new w 23 (0, 0, 0))
  have H6 := Lib.hid (h.old (.cells #[.int .i64 0, .int .i64 0, .int .i64 0] 23))
  have hb0 := b1 w (.cells #[.int .i64 0, .int .i64 0, .int .i64 0] 23)
  clear h
  go_enter Try.func57, Try.ntmps57
  go_wp2_with fail
  (with_reducible refine (minVec_any _ _ _ _ _ H6.out).mono ?_)
  rintro e w' ⟨rfl, hb⟩
  have r4 := O4.out.below hb
  obtain ⟨⟨a0, a1, a2⟩, a3, a4, a5⟩ := r4
  have hbw := bcall hb0 hb
  clear hb hb0 O4
  go_wp2_with fail
  refine bodyPost_ret (v := .agg #[.int .i64 (fstV p q).1, .int .i64 (fstV p q).2.1, .int .i64 (fstV p q).2.2]) ?_ rfl ⟨rfl, ?_⟩
  · simp [results, Try.results57, go_sem, *]
  · repeat' first | (with_reducible assumption) | (with_reducible refine setB ?_ ?_) | omega

set_option maxHeartbeats 1000000 in
theorem maxVec_any (m c : Nat) (p q : V3) (w : World) (h : At6 w m p q) : Calls Try.prog 60 #[.slice (some ⟨m, 0, none⟩) 2 c, .func (.func 17) #[] #[]] w fun e w' =>
    e = .returned (.agg #[.int .i64 (lstV p q).1, .int .i64 (lstV p q).2.1, .int .i64 (lstV p q).2.2]) ∧ Below w.heap.size w w' := by
  have hm := h.lt
  have H : Hid (At6 ((w.alloc (.cells #[.int .i64 0, .int .i64 0, .int .i64 0] 23)).alloc (.cells #[.int .i64 p.1, .int .i64 p.2.1, .int .i64 p.2.2] 23)) m p q ∧ At3 ((w.alloc (.cells #[.int .i64 0, .int .i64 0, .int .i64 0] 23)).alloc (.cells #[.int .i64 p.1, .int .i64 p.2.1, .int .i64 p.2.2] 23)) (w.heap.size + 1) p) := Lib.hid ⟨(h.old _).old _, At3.new2 w _ 23 p⟩
  have O4 := Lib.hid ((Own3.new w 23 (0, 0, 0)).old (.cells #[.int .i64 p.1, .int .i64 p.2.1, .int .i64 p.2.2] 23))
  have O5 := Lib.hid (Own3.new2 w (.cells #[.int .i64 0, .int .i64 0, .int .i64 0] 23) 23 p)
  have hb0 := b2 w (.cells #[.int .i64 0, .int .i64 0, .int .i64 0] 23) (.cells #[.int .i64 p.1, .int .i64 p.2.1, .int .i64 p.2.2] 23)
  have HB : Hid (decide (0 < cmpV q p) = befV p q) := Lib.hid (by
    rcases cmpV_cases q p with ⟨h, h', e⟩ | ⟨h, h', e⟩ | ⟨h, h', e⟩ <;> rw [e]
    · simp [h']
    · simp [h]
    · subst h; simp [h'])
  obtain ⟨⟨g0, g1, g2⟩, g3, g4, g5⟩ := h
  rcases hbq : befV p q with _ | _
  · have HI := Lib.hid hbq
    have t1 : decide (0 < cmpV q p) = false := by rw [HB.out, hbq]
    clear hbq HB
    go_enter Try.func60, Try.ntmps60
    go_wp2_with fail
    refine wp_loop_rounds 2 ?_
    rw [rounds_succ]
    go_wp2_with fail
    clear g0 g1 g2 g3 g4 g5
    generalize ((w.alloc (.cells #[.int .i64 0, .int .i64 0, .int .i64 0] 23)).alloc (.cells #[.int .i64 p.1, .int .i64 p.2.1, .int .i64 p.2.2] 23)) = w3 at *
    go_region_held3 (fun w' => w'.cell? ⟨m, 3, none⟩ = some (.int .i64 q.1) ∧ w'.cell? ⟨m, 4, none⟩ = some (.int .i64 q.2.1) ∧ w'.cell? ⟨m, 5, none⟩ = some (.int .i64 q.2.2) ∧ w'.cell? ⟨(w.heap.size + 1), 0, none⟩ = some (.int .i64 p.1) ∧ w'.cell? ⟨(w.heap.size + 1), 1, none⟩ = some (.int .i64 p.2.1) ∧ w'.cell? ⟨(w.heap.size + 1), 2, none⟩ = some (.int .i64 p.2.2) ∧ Below w3.heap.size w3 w')
      ((refine mkm H ?_; repeat' first | (with_reducible assumption) | (with_reducible exact Below.refl _ _) | (with_reducible refine Below.drew ?_)))
      ((go_at_call 17; (with_reducible refine (vCompare_any _ _ _).mono ?_); rintro e w' ⟨rfl, hb⟩; have hbb := bcall (getm (by assumption)) hb; clear hb))
    rename_i hHl
    have hbb := getm hHl
    clear hHl
    have r6 := H.out.1.below hbb
    obtain ⟨⟨g0, g1, g2⟩, g3, g4, g5⟩ := r6
    have r4 := O4.out.below hbb
    obtain ⟨⟨a0, a1, a2⟩, a3, a4, a5⟩ := r4
    have r5 := O5.out.below hbb
    obtain ⟨⟨c0, c1, c2⟩, c3, c4, c5⟩ := r5
    have hbw := bcall hb0 hbb
    clear H O4 O5 hbb hb0
    go_wp2_with fail
    rw [rounds_succ]
    go_wp2_with fail
    refine bodyPost_ret (v := .agg #[.int .i64 p.1, .int .i64 p.2.1, .int .i64 p.2.2]) ?_ rfl ⟨by simp [lstV, HI.out], ?_⟩
    · simp [results, Try.results60, go_sem, *]
    · repeat' first | (with_reducible assumption) | (with_reducible refine setB ?_ ?_) | (with_reducible refine Below.drew ?_) | omega
  · have HI := Lib.hid hbq
    have t1 : decide (0 < cmpV q p) = true := by rw [HB.out, hbq]
    clear hbq HB
    go_enter Try.func60, Try.ntmps60
    go_wp2_with fail
    refine wp_loop_rounds 2 ?_
    rw [rounds_succ]
    go_wp2_with fail
    clear g0 g1 g2 g3 g4 g5
    generalize ((w.alloc (.cells #[.int .i64 0, .int .i64 0, .int .i64 0] 23)).alloc (.cells #[.int .i64 p.1, .int .i64 p.2.1, .int .i64 p.2.2] 23)) = w3 at *
    go_region_held3 (fun w' => w'.cell? ⟨m, 3, none⟩ = some (.int .i64 q.1) ∧ w'.cell? ⟨m, 4, none⟩ = some (.int .i64 q.2.1) ∧ w'.cell? ⟨m, 5, none⟩ = some (.int .i64 q.2.2) ∧ w'.cell? ⟨(w.heap.size + 1), 0, none⟩ = some (.int .i64 p.1) ∧ w'.cell? ⟨(w.heap.size + 1), 1, none⟩ = some (.int .i64 p.2.1) ∧ w'.cell? ⟨(w.heap.size + 1), 2, none⟩ = some (.int .i64 p.2.2) ∧ Below w3.heap.size w3 w')
      ((refine mkm H ?_; repeat' first | (with_reducible assumption) | (with_reducible exact Below.refl _ _) | (with_reducible refine Below.drew ?_)))
      ((go_at_call 17; (with_reducible refine (vCompare_any _ _ _).mono ?_); rintro e w' ⟨rfl, hb⟩; have hbb := bcall (getm (by assumption)) hb; clear hb))
    rename_i hHl
    have hbb := getm hHl
    clear hHl
    have r6 := H.out.1.below hbb
    obtain ⟨⟨g0, g1, g2⟩, g3, g4, g5⟩ := r6
    have r4 := O4.out.below hbb
    obtain ⟨⟨a0, a1, a2⟩, a3, a4, a5⟩ := r4
    have r5 := O5.out.below hbb
    obtain ⟨⟨c0, c1, c2⟩, c3, c4, c5⟩ := r5
    have hbw := bcall hb0 hbb
    clear H O4 O5 hbb hb0
    go_wp2_with fail
    rw [rounds_succ]
    go_wp2_with fail
    refine bodyPost_ret (v := .agg #[.int .i64 q.1, .int .i64 q.2.1, .int .i64 q.2.2]) ?_ rfl ⟨by simp [lstV, HI.out], ?_⟩
    · simp [results, Try.results60, go_sem, *]
    · repeat' first | (with_reducible assumption) | (with_reducible refine setB ?_ ?_) | (with_reducible refine Below.drew ?_) | omega

theorem lstV_any (m c : Nat) (p q : V3) (w : World) (h : At6 w m p q) : Calls Try.prog 59 #[.slice (some ⟨m, 0, none⟩) 2 c] w fun e w' =>
    e = .returned (.agg #[.int .i64 (lstV p q).1, .int .i64 (lstV p q).2.1, .int .i64 (lstV p q).2.2]) ∧ Below w.heap.size w w' := by
  have O4 := Lib.hid (Own3.new w 23 (0, 0, 0))
  have H6 := Lib.hid (h.old (.cells #[.int .i64 0, .int .i64 0, .int .i64 0] 23))
  have hb0 := b1 w (.cells #[.int .i64 0, .int .i64 0, .int .i64 0] 23)
  clear h
  go_enter Try.func59, Try.ntmps59
  go_wp2_with fail
  (with_reducible refine (maxVec_any _ _ _ _ _ H6.out).mono ?_)
  rintro e w' ⟨rfl, hb⟩
  have r4 := O4.out.below hb
  obtain ⟨⟨a0, a1, a2⟩, a3, a4, a5⟩ := r4
  have hbw := bcall hb0 hb
  clear hb hb0 O4
  go_wp2_with fail
  refine bodyPost_ret (v := .agg #[.int .i64 (lstV p q).1, .int .i64 (lstV p q).2.1, .int .i64 (lstV p q).2.2]) ?_ rfl ⟨rfl, ?_⟩
  · simp [results, Try.results59, go_sem, *]
  · repeat' first | (with_reducible assumption) | (with_reducible refine setB ?_ ?_) | omega

end Go.Proofs.Ytiehbakloldkcaa
